/-
  Walks of courierlaw's bytes that are lent: lent.
-/
import Derived.Test.YtamafdcnbcoegaaGreatH8
namespace Go.Proofs.YtamafdcnbcoegaaGreat
open Go.RowKit

set_option maxRecDepth 100000 in
set_option maxHeartbeats 2000000 in
theorem lent_any (s : ByteArray) (w : World) (z : s.size ≤ 140737488354000) :
    Calls Tryz.prog 77 #[.string s] w fun r w' => r = .returned (.slice (some ⟨w.heap.size, 0, none⟩) (s.size + 8) (s.size + 8)) ∧ Below w.heap.size w w' ∧ w.heap.size < w'.heap.size ∧
      w'.ownsRow 0 5 1 (.slice (some ⟨w.heap.size, 0, none⟩) (s.size + 8) (s.size + 8)) (s.size + 8) (bv (lentL s)) := by
  have n1 : (s.size : Int) + 8 ≤ 9223372036854775807 := by omega
  obtain ⟨n, hn⟩ : ∃ n : Nat, s.size + 8 = n := ⟨_, rfl⟩
  rw [hn]
  have HN := hide hn
  have hnz : n ≤ 140737488354008 := by omega
  clear hn
  go_enter Tryz.func77, Tryz.ntmps77
  go_upto_region 2 with (refine wp_make_full rfl (.tmp 7) (.tmp 7) rfl 0 .i64 .i64 (s.size + 8) (s.size + 8) n rfl rfl (by have := unhide HN; omega) (by have := unhide HN; omega) (by omega) (Nat.zero_le _) ?_; intro w1 hown1 hg1)
  unfold Owns at hown1
  rw [List.length_replicate] at hown1
  have HO1 := hide hown1
  have HG1 := hide hg1
  clear hown1 hg1
  go_upto_region 3 with (refine wp_copy_str rfl (.tmp 9) (.tmp 10) rfl w.heap.size n (List.replicate n 0) s (unhide HO1) rfl rfl (by have := unhide HN; omega) (by simp) ?_; intro w2 hown2 hg2; rw [← unhide HN, partL_zero] at hown2; have HO2 := hide hown2; have HG2 := hide hg2; clear hown2 hg2)
  go_wp2
  have n2 : n ≤ 9223372036854775807 := by omega
  have n0 : (n : Int) ≤ 9223372036854775807 := by omega
  clear hnz z n1
  go_loopw [4] (fun i wr => ∃ k j : Nat, j ≤ 8 ∧ s.size + j = k ∧ i = .int .i64 k ∧ wr.ownsRow 0 5 1 (.slice (some ⟨w.heap.size, 0, none⟩) n n) n (bv (partL s j)) ∧ Below w.heap.size w wr) (fun i _ => n - (intOf i).toNat)
  case atStart =>
    have h1 := unhide HG1
    have h2 := unhide HG2
    have HO := unhide HO2
    rw [unhide HN] at HO
    have := h1.size
    exact ⟨s.size, 0, by omega, by omega, rfl, HO, ⟨h2.os.trans h1.os, h2.tape.trans h1.tape, h2.output.trans h1.output, Nat.le_trans h1.size h2.size, fun k hk => (h2.block k (by omega) (fun e => by injection e with e; omega)).trans (h1.block k hk (fun e => by cases e))⟩⟩
  case round =>
    obtain ⟨k, j, hj, hk, rfl, ho, hb⟩ := hrel
    have hN := unhide HN
    by_cases hlt : k < n
    · have hc := World.ownsRow.cellAt ho k (by omega)
      have hf := World.ownsRow.frozenAt ho k
      have HS := hide (World.ownsRow.stored ho k (.int .u8 201))
      have HB := hide hb
      rw [bv_get (by rw [partL_length s hj]; omega)] at hc
      have HK := hide hk
      have HJ := hide hj
      clear ho hb hN hk hj
      generalize (((partL s j).getD k 0).toNat : Int) = old at hc
      go_wp2
      go_roundw
      case rel =>
        obtain ⟨hs1, hs2⟩ := unhide HS
        have hk := unhide HK
        have hb := unhide HB
        have hN := unhide HN
        have hj := unhide HJ
        have hj8 : j < 8 := by omega
        refine ⟨k + 1, j + 1, by omega, by omega, by go_num, ?_, ?_⟩
        · rw [← partL_set s hj8, bv_put, hk]
          exact hs1
        · exact ⟨hs2.os.trans hb.os, hs2.tape.trans hb.tape, hs2.output.trans hb.output, Nat.le_trans hb.size hs2.size, fun i hi => (hs2.block i (Nat.lt_of_lt_of_le hi hb.size) (fun e => by injection e with e; omega)).trans (hb.block i hi)⟩
      case measure => simp [intOf]; omega
    · have : j = 8 := by omega
      subst this
      rw [partL_all] at ho
      have HO := hide ho
      have HB := hide hb
      clear ho hb hN hk
      go_wp2
      go_ret
      exact ⟨rfl, unhide HB, (World.ownsRow.lt (unhide HO) _ rfl).2, unhide HO⟩
end Go.Proofs.YtamafdcnbcoegaaGreat
