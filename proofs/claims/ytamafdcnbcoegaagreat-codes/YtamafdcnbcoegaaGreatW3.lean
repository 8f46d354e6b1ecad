/-
  Walks of package frame: isWhole, Encode, Decode.
-/
import Derived.Test.YtamafdcnbcoegaaGreatW2
namespace Go.Proofs.YtamafdcnbcoegaaGreat
open Go.RowKit

open Wire (whole)
set_option maxHeartbeats 1000000 in
theorem isWhole_short (ad : Option Addr) (len cap : Nat) (w : World) (h : (len : Int) < 15) :
    Calls Tryz.prog 94 #[.slice ad len cap] w fun r w' => r = .returned (.bool false) ∧ w' = w := by
  go_enter Tryz.func94, Tryz.ntmps94
  go_wp2
  go_ret
  exact ⟨rfl, rfl⟩

theorem whole_no {l : List UInt8} {m g : Nat} (hlen : l.length = m + 4) (hg : (l.getD 10 0).toNat = g) (h : ¬ m + 4 = 15 + g) : whole l = false := by
  unfold whole
  rw [hg, decide_eq_false (p := l.length = 15 + g) (by omega)]; simp
theorem whole_yes {l : List UInt8} {m g : Nat} (hlen : l.length = m + 4) (_h15 : 11 ≤ m) (hg : (l.getD 10 0).toNat = g) (h : m + 4 = 15 + g) :
    whole l = (Wire.num4 (l.getD m 0) (l.getD (m + 1) 0) (l.getD (m + 2) 0) (l.getD (m + 3) 0) == Wire.sum (l.take m)) := by
  unfold whole
  have e : l.length - 4 = m := by omega
  rw [hg, e, decide_eq_true (p := 15 ≤ l.length) (by omega), decide_eq_true (p := l.length = 15 + g) (by omega), Bool.true_and, Bool.true_and]
  by_cases hs : Wire.numAt l m = Wire.sum (l.take m)
  · rw [decide_eq_true hs]; exact (beq_iff_eq.2 hs).symm
  · rw [decide_eq_false hs]; exact (beq_eq_false_iff_ne.2 hs).symm

set_option maxHeartbeats 1000000 in
theorem isWhole_long (b off m cap : Nat) (l : List UInt8) (w : World) (hlen : l.length = m + 4) (hm : m + 4 ≤ maxLen) (hcap : m + 4 ≤ cap) (h15 : 11 ≤ m)
    (hc : ∀ i, i < m + 4 → w.cell? ⟨b, off + i, none⟩ = some (.int .u8 (l.getD i 0).toNat)) :
    Calls Tryz.prog 94 #[.slice (some ⟨b, off, none⟩) (m + 4) cap] w fun r w' => r = .returned (.bool (whole l)) ∧ ∃ n, w' = w.drewN n := by
  have hc10 := hc 10 (by omega)
  have hg256 := (l.getD 10 0).toNat_lt
  have hmm := hm
  unfold maxLen at hm
  generalize hg : (l.getD 10 0).toNat = g at hc10 hg256
  have h1 : (15 : Int) ≤ (m : Int) + 4 := by omega
  by_cases h : m + 4 = 15 + g
  · have h2 : ((m : Int) + 4 != 11 + (g : Int) + 4) = false := by simp; omega
    have HW := hide (whole_yes hlen h15 hg h)
    have HN := fun n => hide (number_bytes b (off + m) 4 (cap - m) (l.getD m 0) (l.getD (m + 1) 0) (l.getD (m + 2) 0) (l.getD (m + 3) 0) (w.drewN n) (Nat.le_refl _)
      (cellN n (hc m (by omega))) (cellN n (hc (m + 1) (by omega))) (cellN n (hc (m + 2) (by omega))) (cellN n (hc (m + 3) (by omega))))
    have HS := fun n => hide (sum_bytes b off m cap (l.take m) (w.drewN n) (by simp; omega) (by omega) (fun i hi => by
      rw [cellN n (hc i (by omega)), List.getD_eq_getElem?_getD, List.getD_eq_getElem?_getD, List.getElem?_take, if_pos hi]))
    clear h hg hc hlen hmm
    generalize l.take m = lt at *
    go_enter Tryz.func94, Tryz.ntmps94
    go_wp2_with fail
    go_quiet (first | (go_at_call 95; exact Calls.quiet_of (unhide (HN _))) | (go_at_call 136; exact Calls.quiet_of_same (unhide (HS _))))
    go_wp2
    go_ret
    exact ⟨ret_b (unhide HW).symm, _, rfl⟩
  · have h2 : ((m : Int) + 4 != 11 + (g : Int) + 4) = true := by simp; omega
    have HW := hide (whole_no hlen hg h)
    clear h hg hc hlen
    go_enter Tryz.func94, Tryz.ntmps94
    go_wp2_with fail
    go_ret
    exact ⟨ret_b (unhide HW).symm, 0, rfl⟩
end Go.Proofs.YtamafdcnbcoegaaGreat
