/-
  Walks of package courierref's wire.
-/
import Derived.Test.YtamafdcnbcoegaaGreatW7
import Derived.Test.YtamafdcnbcoegaaGreatMono
namespace Go.Proofs.YtamafdcnbcoegaaGreat
open Go.RowKit

theorem le4_lt (x : Int) : 0 ≤ x % 256 ∧ x % 256 < 256 := by omega
/-- A string of a number's four bytes. -/
def le4S (n : Int) : ByteArray := ⟨#[UInt8.ofNat (n.toNat % 256), UInt8.ofNat (n.toNat / 256 % 256), UInt8.ofNat (n.toNat / 65536 % 256), UInt8.ofNat (n.toNat / 16777216 % 256)]⟩
theorem le4S_data (n : Int) : (le4S n).data.toList = Wire.le4 n := rfl

theorem conv_new {w : World} {l : List UInt8} {n : Nat} (hl : l.length = n) : (convert 44 9 (.slice (some ⟨w.heap.size, 0, none⟩) n n)).run Tryz.prog (w.alloc (.cells (bv l).toArray 5)) = .ok (.string ⟨l.toArray⟩) (w.alloc (.cells (bv l).toArray 5)) := by
  refine conv_str hl (fun i hi => ?_)
  have := cells_new (w := w) (l := bv l) (e := 5) i _ (bv_get (by omega))
  by_cases h : i = 0
  · subst h; simpa [Addr.add] using this
  · simpa [Addr.add, h] using this

set_option maxRecDepth 100000 in
set_option maxHeartbeats 400000 in
theorem four_any (n : Int) (w : World) (h0 : 0 ≤ n) :
    Calls Tryz.prog 85 #[.int .i64 n] w fun r w' => r = .returned (.string (le4S n)) ∧ Below w.heap.size w w' := by
  have hc := conv_new (w := w) (l := Wire.le4 n) (n := 4) rfl
  rw [bv_le4 h0] at hc
  have HS : Hid ((⟨(Wire.le4 n).toArray⟩ : ByteArray) = le4S n) := rfl
  go_enter Tryz.func85, Tryz.ntmps85
  go_wp2
  go_ret
  exact ⟨rfl, (Below.refl _ _).alloc (Nat.le_refl _) _⟩

theorem wr64 {n : Int} (h : -9223372036854775808 ≤ n ∧ n ≤ 9223372036854775807) : wrap64 n = n := by unfold wrap64; omega
theorem wraps4 {a b c d : Nat} (ha : a < 2 ^ 8) (hb : b < 2 ^ 8) (hc : c < 2 ^ 8) (hd : d < 2 ^ 8) :
    wrap64 (wrap64 (wrap64 (wrap64 (a : Int) + wrap64 (wrap64 (b : Int) * 256)) + wrap64 (wrap64 (c : Int) * 65536)) + wrap64 (wrap64 (d : Int) * 16777216)) = (a : Int) + b * 256 + c * 65536 + d * 16777216 := by
  rw [wr64 (n := (a : Int)) (by omega), wr64 (n := (b : Int)) (by omega), wr64 (n := (c : Int)) (by omega), wr64 (n := (d : Int)) (by omega), wr64 (n := (b : Int) * 256) (by omega), wr64 (n := (c : Int) * 65536) (by omega), wr64 (n := (d : Int) * 16777216) (by omega),
    wr64 (n := (a : Int) + (b : Int) * 256) (by omega), wr64 (n := (a : Int) + (b : Int) * 256 + (c : Int) * 65536) (by omega), wr64 (by omega)]

set_option maxHeartbeats 400000 in
theorem refNumber_any (s : ByteArray) (i : Nat) (w : World) (h : i + 4 ≤ s.size) (hs : s.size ≤ 9223372036854775807) :
    Calls Tryz.prog 166 #[.string s, .int .i64 i] w fun r w' => r = .returned (.int .i64 (Wire.numAt s.data.toList i)) ∧ ∃ n, w' = w.drewN n := by
  have g : ∀ j (hj : j < s.size), s.data.toList.getD j 0 = s[j] := by
    intro j hj
    have hl : j < s.data.toList.length := by simpa using hj
    rw [List.getD_eq_getElem?_getD, List.getElem?_eq_getElem hl]; rfl
  have b0 : i < s.size := by omega
  have b1 : i + 1 < s.size := by omega
  have b2 : i + 2 < s.size := by omega
  have b3 : i + 3 < s.size := by omega
  have i0 : (i : Int) < (s.size : Int) := by omega
  have i1 : (i : Int) + 1 < (s.size : Int) := by omega
  have i2 : (i : Int) + 2 < (s.size : Int) := by omega
  have i3 : (i : Int) + 3 < (s.size : Int) := by omega
  have e1 : IntKind.i64.wrap ((i : Int) + 1) = (i : Int) + 1 := by rw [IntKind.wrap_i64]; omega
  have e2 : IntKind.i64.wrap ((i : Int) + 2) = (i : Int) + 2 := by rw [IntKind.wrap_i64]; omega
  have e3 : IntKind.i64.wrap ((i : Int) + 3) = (i : Int) + 3 := by rw [IntKind.wrap_i64]; omega
  have z1 : (0 : Int) ≤ (i : Int) + 1 := by omega
  have z2 : (0 : Int) ≤ (i : Int) + 2 := by omega
  have z3 : (0 : Int) ≤ (i : Int) + 3 := by omega
  have HN : Hid (Wire.numAt s.data.toList i = (s[i].toNat : Int) + s[i+1].toNat * 256 + s[i+2].toNat * 65536 + s[i+3].toNat * 16777216) := by
    show _ = _
    unfold Wire.numAt Wire.num4
    rw [g i b0, g (i+1) b1, g (i+2) b2, g (i+3) b3]
  clear g
  go_enter Tryz.func166, Tryz.ntmps166
  go_wp2
  go_quiet (fail)
  go_wp2
  go_ret
  refine ⟨ret_i ?_, _, rfl⟩
  have t0 := s[i].toNat_lt; have t1 := s[i+1].toNat_lt; have t2 := s[i+2].toNat_lt; have t3 := s[i+3].toNat_lt
  rw [unhide HN]
  exact wraps4 t0 t1 t2 t3

def OneB (x : Int) (v : Value) (w : World) : Prop := ∃ g, v = .slice (some ⟨g, 0, none⟩) 1 1 ∧ w.cell? ⟨g, 0, none⟩ = some (.int .u8 x)
theorem stable_oneB (x : Int) : Stable (OneB x) := by
  rintro v w w' ⟨g, rfl, h⟩ hb
  exact ⟨g, rfl, (hb.cell (p := ⟨g, 0, none⟩) (World.block_lt_of_cell? _ _ h)).trans h⟩
def s1 (x : Int) : ByteArray := ⟨#[UInt8.ofNat (x.toNat % 256)]⟩
theorem s1_size (x : Int) : (s1 x).size = 1 := rfl
theorem le4S_size (x : Int) : (le4S x).size = 4 := rfl
theorem conv_one {n : Int} (h0 : 0 ≤ n) (h1 : n < 256) {v : Value} {w : World} (h : OneB n v w) : (convert 44 9 v).run Tryz.prog w = .ok (.string (s1 n)) w := by
  obtain ⟨g, rfl, hc⟩ := h
  refine conv_str (l := [UInt8.ofNat (n.toNat % 256)]) rfl (fun i hi => ?_)
  have : i = 0 := by simpa using hi
  subst this
  have hb := bv_byte h0 h1
  simp [bv] at hb
  simp [hc, hb]
theorem u8w {n : Int} (h0 : 0 ≤ n) (h1 : n < 256) : IntKind.u8.wrap n = n := by simp [IntKind.wrap, IntKind.bits, IntKind.signed]; omega

theorem front_str (k e s q : Int) (b : ByteArray) : s1 k ++ le4S e ++ s1 s ++ le4S q ++ s1 (b.size : Int) ++ b = ⟨(Wire.front k e s q b.data.toList).toArray⟩ := by
  apply ByteArray.ext
  simp only [ByteArray.data_append]
  apply Array.ext'
  simp [s1, le4S, Wire.front, Wire.le4]

set_option maxRecDepth 100000 in
set_option maxHeartbeats 2000000 in
theorem refBytes_any (k e s q : Int) (b : ByteArray) (w : World) (hp : Wire.proper k e s q b = true) :
    Calls Tryz.prog 51 #[.agg #[.int .i64 k, .int .i64 e, .int .i64 s, .int .i64 q, .string b]] w fun r w' => r = .returned (.string ⟨(Wire.bytes k e s q b.data.toList).toArray⟩) ∧ Below w.heap.size w w' := by
  obtain ⟨h1, h2, h3, h4, h5⟩ := proper_small hp
  clear hp
  go_enter Tryz.func51, Tryz.ntmps51
  go_upto_region 1 with fail
  have fb := frBox_new w k e s q b 41
  have wk := u8w (n := k) (by omega) (by omega)
  have ws := u8w (n := s) (by omega) (by omega)
  have wb := u8w (n := (b.size : Int)) (by omega) (by omega)
  have z1 := s1_size
  have zb : (11 : Int) + (b.size : Int) ≤ 9223372036854775807 := by omega
  have zn : 11 + b.size ≤ 9223372036854775807 := by omega
  have z4 := le4S_size
  have ck := fun v w => conv_one (n := k) (by omega) (by omega) (v := v) (w := w)
  have cs := fun v w => conv_one (n := s) (by omega) (by omega) (v := v) (w := w)
  have cb := fun v w => conv_one (n := (b.size : Int)) (by omega) (by omega) (v := v) (w := w)
  refine wp_region_frame (by kernel_rfl)
    [fun v _ => v = .pointer (some ⟨w.heap.size, 0, none⟩), fun v _ => v = .int .i64 k, fun v _ => v = .int .u8 k, OneB k, fun v _ => v = .string (s1 k),
     fun v _ => v = .pointer (some ⟨w.heap.size, 1, none⟩), fun v _ => v = .int .i64 e, fun v _ => v = .string (le4S e), fun v _ => v = .string (s1 k ++ le4S e),
     fun v _ => v = .pointer (some ⟨w.heap.size, 2, none⟩), fun v _ => v = .int .i64 s, fun v _ => v = .int .u8 s, OneB s, fun v _ => v = .string (s1 s), fun v _ => v = .string (s1 k ++ le4S e ++ s1 s),
     fun v _ => v = .pointer (some ⟨w.heap.size, 3, none⟩), fun v _ => v = .int .i64 q, fun v _ => v = .string (le4S q), fun v _ => v = .string (s1 k ++ le4S e ++ s1 s ++ le4S q),
     fun v _ => v = .pointer (some ⟨w.heap.size, 4, none⟩), fun v _ => v = .string b, fun v _ => v = .int .i64 b.size, fun v _ => v = .int .u8 b.size, OneB b.size, fun v _ => v = .string (s1 b.size), fun v _ => v = .string (s1 k ++ le4S e ++ s1 s ++ le4S q ++ s1 b.size),
     fun v _ => v = .pointer (some ⟨w.heap.size, 4, none⟩), fun v _ => v = .string b, fun v _ => v = .string (s1 k ++ le4S e ++ s1 s ++ le4S q ++ s1 b.size ++ b), fun v _ => v = .string (s1 k ++ le4S e ++ s1 s ++ le4S q ++ s1 b.size ++ b)]
    [[(1, none)], [(6, some 0)], [(7, some 1)], [(8, some 2)], [(9, some 3)], [(1, none)], [(11, some 5)], [(12, some 6)], [(10, some 4), (13, some 7)], [(1, none)], [(15, some 9)], [(16, some 10)], [(17, some 11)], [(18, some 12)], [(14, some 8), (19, some 13)], [(1, none)], [(21, some 15)], [(22, some 16)], [(20, some 14), (23, some 17)], [(1, none)], [(25, some 19)], [(26, some 20)], [(27, some 21)], [(28, some 22)], [(29, some 23)], [(24, some 18), (30, some 24)], [(1, none)], [(32, some 26)], [(31, some 25), (33, some 27)], [(34, some 28)]]
    [some 6, some 7, some 8, some 9, some 10, some 11, some 12, some 13, some 14, some 15, some 16, some 17, some 18, some 19, some 20, some 21, some 22, some 23, some 24, some 25, some 26, some 27, some 28, some 29, some 30, some 31, some 32, some 33, some 34, some 3]
    [false, false, false, true, false, false, true, true, true, true, true, true, true, true, true, true, true, true, true, true, true, true, true, true, true, true, true, true, true, true, true, true, true, true, true, false, false, false, false, false, false, false, false, false, false, false, false, false, false, false, false, false, false]
    (by kernel_rfl) (by kernel_rfl) (by kernel_rfl) (by kernel_rfl) ?_ ?_ ?_
  · repeat' (first | exact stable_eq _ | exact stable_oneB _ | exact trivial | apply And.intro)
  · refine ⟨?_, ?_, ?_, ?_, ?_, ?_, ?_, ?_, ?_, ?_, ?_, ?_, ?_, ?_, ?_, ?_, ?_, ?_, ?_, ?_, ?_, ?_, ?_, ?_, ?_, ?_, ?_, ?_, ?_, ?_, trivial⟩
    all_goals
      intro a x hb hf
      obtain ⟨y0, y1, y2, y3, y4⟩ := fb.below hb (by simp)
      clear hb fb
      simp only [PlanFacts, List.getD_cons_zero, List.getD_cons_succ, Array.getD_eq_getD_getElem?] at hf
      simp at hf
      try go_simp
      try exact Below.refl _ _
    all_goals first
      | exact ⟨_, rfl, (Below.refl _ _).alloc (Nat.le_refl _) _, _, rfl, by simp⟩
      | (refine (four_any _ _ ?_).mono ?_; (focus omega); rintro r w1 ⟨rfl, hb1⟩; exact ⟨rfl, hb1⟩)
      | (rw [if_neg (by omega)]; go_simp; exact Below.refl _ _)
  · intro f w2 hb hwd
    simp only [AllWords] at hwd
    have hf3 := hwd.2.2.2.2.2.2.2.2.2.2.2.2.2.2.2.2.2.2.2.2.2.2.2.2.2.2.2.2.2.1
    rw [front_str] at hf3
    have B2 := hide (((Below.refl w.heap.size w).alloc (Nat.le_refl _) (.cells #[.int .i64 k, .int .i64 e, .int .i64 s, .int .i64 q, .string b] 41)).trans (hb.mono (by simp)))
    have hfl : (Wire.front k e s q b.data.toList).length = 11 + b.size := by rw [Wire.length_front]; simp
    clear hwd hb fb wk ws wb z1 z4 ck cs cb zb
    have HB : Hid (Wire.bytes k e s q b.data.toList = Wire.front k e s q b.data.toList ++ Wire.le4 (Wire.sum (Wire.front k e s q b.data.toList))) := rfl
    generalize Wire.front k e s q b.data.toList = fr at hf3 hfl HB
    simp only [mergeT, hf3]
    clear hf3 h1 h2 h3 h4
    have hfs : (ByteArray.mk fr.toArray).size = fr.length := by simp [ByteArray.size]
    have hsr := Wire.sum_range fr
    have hg : ∀ (i : Nat) (h : i < (ByteArray.mk fr.toArray).size), (ByteArray.mk fr.toArray)[i] = fr.getD i 0 := by
      intro i h
      have h' : i < fr.length := by omega
      simp only [List.getD_eq_getElem?_getD, List.getElem?_eq_getElem h']
      rfl
    have HG := hide hg
    have HSZ := hide hfs
    have hfs2 : (ByteArray.mk fr.toArray).size ≤ 31 := by omega
    clear hg hfs
    obtain ⟨S, hS⟩ : ∃ S, S = ByteArray.mk fr.toArray := ⟨_, rfl⟩
    rw [← hS] at HG HSZ hfs2 ⊢
    have HS := hide hS
    have HFL := hide hfl
    clear hS hfl
    go_wp2
    go_loopw [4, 5] (fun sm i wr => wr = w2 ∧ ∃ j : Nat, j ≤ S.size ∧ i = .int .i64 j ∧ sm = .int .i64 (Wire.sum (fr.take j))) (fun _ i _ => S.size - (intOf i).toNat)
    case atStart => exact ⟨rfl, 0, Nat.zero_le _, rfl, rfl⟩
    case round =>
      obtain ⟨rfl, j, hj, rfl, rfl⟩ := hrel
      by_cases hlt : j < S.size
      · have hsj := Wire.sum_range (fr.take j)
        have hbyte : S[j].toNat < 256 := S[j].toNat_lt
        have HST : Hid (Wire.sum (fr.take (j + 1)) = (Wire.sum (fr.take j) * 31 + (S[j].toNat : Int)) % 4294967296) := by
          show _ = _
          rw [Wire.sum_take fr j (by have := unhide HSZ; omega), unhide HG j hlt]; rfl
        go_wp2
        go_roundw
        case rel => exact ⟨by first | trivial | rfl, j + 1, by omega, by go_num, by rw [unhide HST]⟩
        case measure => simp [intOf]; omega
      · have HT : Hid (fr.take j = fr) := List.take_of_length_le (by have := unhide HSZ; omega)
        have z4' : (le4S (Wire.sum fr)).size = 4 := rfl
        rw [unhide HT]
        go_wp2_with (go_at_call 85; refine (four_any _ _ hsr.1).mono ?_; rintro r w4 ⟨rfl, hb4⟩)
        go_ret
        have B4 := (unhide B2).trans (hb4.mono (unhide B2).size)
        refine ⟨?_, B4⟩
        have e : S ++ le4S (Wire.sum fr) = ⟨(Wire.bytes k e s q b.data.toList).toArray⟩ := by
          rw [unhide HS, unhide HB]
          apply ByteArray.ext
          rw [ByteArray.data_append]
          apply Array.ext'
          simp [le4S, Wire.le4]
        rw [← e]
        rfl
end Go.Proofs.YtamafdcnbcoegaaGreat
