/-
  Walks of courierlaw's holds: marks, of a hold that has bytes only.
-/
import Derived.Test.YtlgciijcohokhaaGreatH4
namespace Go.Proofs.YtlgciijcohokhaaGreat
open Go.RowKit

theorem bv_set (l : List UInt8) (k : Nat) (n : Int) (h0 : 0 ≤ n) (h1 : n < 256) : bv (l.set k (UInt8.ofNat (n.toNat % 256))) = (bv l).set k (.int .u8 n) := by
  have h := bv_byte h0 h1
  simp [bv] at h ⊢
  rw [h]
theorem grown_below {w x y : World} {r : Option Nat} (h : w.grownBy x r) (hb : Below x.heap.size x y) : w.grownBy y r :=
  ⟨hb.os.trans h.os, hb.tape.trans h.tape, hb.output.trans h.output, Nat.le_trans h.size hb.size, fun k hk hr => (hb.block k (Nat.lt_of_lt_of_le hk h.size)).trans (h.block k hk hr)⟩
theorem grown_trans {w x y : World} {r : Option Nat} (h : w.grownBy x r) (hb : x.grownBy y r) : w.grownBy y r :=
  ⟨hb.os.trans h.os, hb.tape.trans h.tape, hb.output.trans h.output, Nat.le_trans h.size hb.size, fun k hk hr => (hb.block k (Nat.lt_of_lt_of_le hk h.size) hr).trans (h.block k hk hr)⟩
theorem grown_refl (w : World) (r : Option Nat) : w.grownBy w r := ⟨rfl, rfl, rfl, Nat.le_refl _, fun _ _ _ => rfl⟩

set_option maxRecDepth 100000 in
set_option maxHeartbeats 2000000 in
theorem marks_any (p : Nat) (w : World) (bv' : Value) (l : List UInt8) (m : Int) (t want : ByteArray)
    (hblk : w.heap[p]? = some (.cells #[.slice none 0 0, bv', .slice none 0 0, .int .i64 m, .string t, .string want] 109 (0, 0)))
    (hbb : w.ownsRow 0 5 1 bv' (bv l).length (bv l)) (z : l.length ≤ 140737488354000) :
    Calls Tryz.prog 109 #[.pointer (some ⟨p, 0, none⟩)] w fun r w' => r = .returned (.tuple #[]) ∧ ∃ l2, l2.length = l.length ∧ w'.ownsRow 0 5 1 bv' (bv l2).length (bv l2) ∧ w.grownBy w' bv'.ownBlock := by
  have hpb := own_ne hbb hblk (by decide)
  obtain ⟨ba, bc, hbv, hc1, hc2, hc3⟩ := Row.shape (A := fun _ => True) ⟨hbb, fun _ _ => trivial⟩
  rw [bv_length] at hbv hc1
  subst hbv
  have c0 := blk_cell (i := 0) hblk
  have c1 := blk_cell (i := 1) hblk
  have c2 := blk_cell (i := 2) hblk
  simp at c0 c1 c2
  have hpl := lt_of_block hblk
  have HB := hide hblk
  have HBB := hide hbb
  have HPB := hide hpb
  have HC := hide hc3
  have n1 : l.length ≤ 9223372036854775807 := by omega
  clear hblk hbb hpb hc3
  go_enter Tryz.func109, Tryz.ntmps109
  go_wp2
  go_loopw [2] (fun i wr => i = .int .i64 0 ∧ w = wr) (fun _ _ => 0)
  case atStart => exact ⟨rfl, rfl⟩
  case round =>
    obtain ⟨rfl, rfl⟩ := hrel
    go_wp2
    go_loopw [3] (fun i wr => ∃ (k : Nat) (l2 : List UInt8), k ≤ l.length ∧ i = .int .i64 k ∧ l2.length = l.length ∧ wr.ownsRow 0 5 1 (.slice ba l.length bc) (bv l2).length (bv l2) ∧ w.grownBy wr (Value.slice ba l.length bc).ownBlock) (fun i _ => l.length - (intOf i).toNat)
    case atStart => exact ⟨0, l, Nat.zero_le _, rfl, rfl, unhide HBB, grown_refl _ _⟩
    case round =>
      obtain ⟨k, l2, hk, rfl, hl2, ho, hg⟩ := hrel
      have hpk := (hg.block p hpl (fun e => (unhide HPB) e.symm)).trans (unhide HB)
      have d1 := blk_cell (i := 1) hpk
      have d2 := blk_cell (i := 2) hpk
      have d3 := blk_cell (i := 3) hpk
      simp at d1 d2 d3
      have HO := hide ho
      have HG := hide hg
      have HPK := hide hpk
      clear hpk ho hg c0 c1 c2
      by_cases hlt : k < l.length
      · obtain ⟨g, rfl, _, _⟩ := (unhide HC) (by rw [bv_length]; omega)
        go_wp2
        have hsb := signV_range m k
        have hkk : (k : Int) < 9223372036854775808 := by omega
        refine wp_region_last (by kernel_rfl)
          [fun v _ => v = ptrTo p, fun v _ => v = ptrTo p, fun v _ => v = .pointer (some ⟨p, 1, none⟩), fun v _ => v = .slice (some ⟨g, 0, none⟩) l.length bc, fun v _ => v = .int .i64 k, fun v _ => v = ptrTo p, fun v _ => v = ptrTo p, fun v _ => v = .pointer (some ⟨p, 3, none⟩), fun v _ => v = .int .i64 m, fun v _ => v = .int .i64 k, fun v _ => v = .int .u8 (signV m k), fun v _ => v = .pointer (some ⟨g, k, none⟩), fun _ _ => True]
          [[(0, none)], [(33, some 0)], [(34, some 1)], [(35, some 2)], [(3, none)], [(0, none)], [(38, some 5)], [(39, some 6)], [(40, some 7)], [(3, none)], [(41, some 8), (42, some 9)], [(36, some 3), (37, some 4)], [(44, some 11), (43, some 10)]]
          [some 33, some 34, some 35, some 36, some 37, some 38, some 39, some 40, some 41, some 42, some 43, some 44, none]
          [false, false, false, false, false, false, false, false, false, false, false, false, false, false, false, false, false, false, false, false, false, false, false, false, false, false, false, false, false, false, false, false, false, true, true, true, true, true, true, true, true, true, true, true, true, false, false, false, false, false, false, false, false, false, false, false, false, false, false, false, false, false, false, false, false]
          12 _ rfl rfl (by kernel_rfl) (by kernel_rfl) (by kernel_rfl) (by kernel_rfl) (by kernel_rfl) (by kernel_rfl) ?_ ?_ ?_
        · repeat' (first | exact stable_eq _ | exact stable_true | exact trivial | apply And.intro)
        · refine ⟨?_, ?_, ?_, ?_, ?_, ?_, ?_, ?_, ?_, ?_, ?_, ?_, trivial⟩
          all_goals
            intro a x hb hf
            have hpx := (hb.block p (lt_of_block (unhide HPK))).trans (unhide HPK)
            have y1 := blk_cell (i := 1) hpx
            have y3 := blk_cell (i := 3) hpx
            simp at y1 y3
            clear hb hpx d1 d2 d3
            simp only [PlanFacts, List.getD_cons_zero, List.getD_cons_succ, Array.getD_eq_getD_getElem?, ptrTo] at hf
            try simp at hf
            try go_simp
            try exact Below.refl _ _
          all_goals first
            | exact ⟨rfl, Below.refl _ _⟩
            | (refine (sign_any _ _ _).mono ?_; rintro r w1 ⟨rfl, rfl⟩; exact ⟨rfl, Below.refl _ _⟩)
            | skip
        · intro f5 x5 hb hwd
          simp only [AllWords, List.take] at hwd
          obtain ⟨_, _, _, _, _, _, _, _, _, _, hf43, hf44, _⟩ := hwd
          have ho5 := ownsRow_keep (unhide HO) (fun g' hg' => hb.block g' (World.ownsRow.lt (unhide HO) g' hg').2)
          have ho6 := ho5
          rw [bv_length, hl2] at ho6
          have yc := World.ownsRow.cellAt ho6 k (by omega)
          have yf := World.ownsRow.frozenAt ho6 k
          rw [bv_get (by omega)] at yc
          have HS := hide (World.ownsRow.stored ho6 k (.int .u8 (signV m k)))
          have HB5 := hide hb
          clear hb ho5 ho6
          simp only [mergeT, hf43, hf44]
          go_simp
          go_wp2
          go_roundw
          case rel =>
            obtain ⟨hs1, hs2⟩ := unhide HS
            refine ⟨k + 1, l2.set k (UInt8.ofNat ((signV m k).toNat % 256)), by omega, by go_num, by simp [hl2], ?_, grown_trans (grown_below (unhide HG) (unhide HB5)) hs2⟩
            rw [bv_length, List.length_set, hl2, bv_set _ _ _ hsb.1 hsb.2]
            exact hs1
          case measure => simp [intOf]; omega
      · go_wp2
        go_loopw [4] (fun i wr2 => i = .int .i64 0 ∧ wr = wr2) (fun _ _ => 0)
        case atStart => exact ⟨rfl, rfl⟩
        case round =>
          obtain ⟨rfl, rfl⟩ := hrel
          go_wp2
          refine bodyPost_end (results_none rfl _ _ _) rfl ?_
          exact ⟨rfl, l2, hl2, unhide HO, unhide HG⟩
end Go.Proofs.YtlgciijcohokhaaGreat
