/-
  Walks of courierlaw's bytes that are lent: still.
-/
import Derived.Test.YtamafdcnbcoegaaGreatH6
namespace Go.Proofs.YtamafdcnbcoegaaGreat
open Go.RowKit

/-- Lent bytes, and behind them the spare room. -/
def lentL (s : ByteArray) : List UInt8 := s.data.toList ++ List.replicate 8 201
theorem lentL_length (s : ByteArray) : (lentL s).length = s.size + 8 := by simp [lentL]
theorem lentL_lt {s : ByteArray} {k : Nat} (h : k < s.size) : (lentL s).getD k 0 = s[k] := by
  have h' : k < s.data.toList.length := by simpa using h
  simp only [lentL, List.getD_eq_getElem?_getD, List.getElem?_append_left h', List.getElem?_eq_getElem h']
  rfl
theorem lentL_ge {s : ByteArray} {k : Nat} (h : s.size ≤ k) (h2 : k < s.size + 8) : (lentL s).getD k 0 = 201 := by
  have h' : s.data.toList.length ≤ k := by simpa using h
  simp only [lentL, List.getD_eq_getElem?_getD, List.getElem?_append_right h', List.getElem?_replicate]
  rw [if_pos (by simp; omega)]
  rfl

set_option maxRecDepth 100000 in
set_option maxHeartbeats 2000000 in
theorem still_any (A : Nat → Nat → Prop) (v : Value) (s : ByteArray) (w : World) (h : BAt A w v (lentL s)) (z : s.size ≤ 140737488354000) :
    Calls Tryz.prog 79 #[v, .string s] w fun r w' => r = .returned (.bool true) ∧ ∃ n, w' = w.drewN n := by
  obtain ⟨ad, cap, rfl, h1, h2, h3⟩ := h
  rw [lentL_length] at h1 h2 h3 ⊢
  obtain ⟨b, off, rfl, _, hc⟩ := h3 (by omega)
  have HC := hide hc
  clear hc h3
  have n1 : s.size + 8 ≤ 9223372036854775807 := by omega
  have n2 : (s.size : Int) ≤ 9223372036854775807 := by omega
  go_enter Tryz.func79, Tryz.ntmps79
  go_wp2
  go_loopw [5] (fun i wr => ∃ k : Nat, k ≤ s.size + 8 ∧ i = .int .i64 k ∧ ∃ n, wr = w.drewN n) (fun i _ => s.size + 8 - (intOf i).toNat)
  case atStart => exact ⟨0, Nat.zero_le _, rfl, 0, rfl⟩
  case round =>
    obtain ⟨k, hk, rfl, n, rfl⟩ := hrel
    by_cases hlt : k < s.size + 8
    · have hck := (unhide HC) k hlt
      by_cases hks : k < s.size
      · rw [lentL_lt hks] at hck
        have hns : ¬ s.size ≤ k := by omega
        go_wp2
        go_quiet (fail)
        go_wp2
        go_roundw
        case rel => exact ⟨k + 1, by omega, by go_num, n + nq, by simp⟩
        case measure => simp [intOf]; omega
      · rw [lentL_ge (by omega) hlt] at hck
        have hns : s.size ≤ k := by omega
        have e201 : ((201 : UInt8).toNat : Int) = 201 := rfl
        rw [e201] at hck
        go_wp2
        go_quiet (fail)
        go_wp2
        go_roundw
        case rel => exact ⟨k + 1, by omega, by go_num, n + nq, by simp⟩
        case measure => simp [intOf]; omega
    · go_wp2
      go_ret
      exact ⟨rfl, _, rfl⟩
end Go.Proofs.YtamafdcnbcoegaaGreat
