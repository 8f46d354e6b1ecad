/-
  Walks of package frame: isFrame.
-/
import Derived.Test.YtamafdcnbcoegaaGreatW1
namespace Go.Proofs.YtamafdcnbcoegaaGreat
open Go.RowKit

theorem isEmpty_size (b : ByteArray) : b.toList.isEmpty = decide (b.size = 0) := by
  rcases Nat.eq_zero_or_pos b.size with h | h
  · have : b = ByteArray.empty := by
      apply ByteArray.ext; apply Array.eq_empty_of_size_eq_zero; exact h
    subst this; simp [ByteArray.toList_eq]
  · have hn : b.toList ≠ [] := by
      intro e
      have h1 : b.toList.length = b.size := by simp [ByteArray.toList_eq]
      rw [e] at h1; simp at h1; omega
    rw [decide_eq_false (by omega)]
    cases hl : b.toList with
    | nil => exact absurd hl hn
    | cons _ _ => rfl

set_option maxHeartbeats 1000000 in
theorem isFrame_1 (k e s q : Int) (b : ByteArray) (w : World) (he : Wire.isNum e = true) (h15 : k = 1 ∨ k = 5) :
    Calls Tryz.prog 96 #[.agg #[.int .i64 k, .int .i64 e, .int .i64 s, .int .i64 q, .string b]] w fun r w' => r = .returned (.bool (Wire.proper k e s q b)) ∧ Below w.heap.size w w' := by
  have hk : (k == 1) = true ∨ ((k == 1) = false ∧ (k == 5) = true) := by rcases h15 with rfl | rfl <;> simp
  have hp : Hid (Wire.proper k e s q b = (decide (s = 0) && (decide (q = 0) && decide (b.size = 0)))) := by show _ = _; simp [Wire.proper, he, h15]
  have he0 : Hid (b.toList.isEmpty = decide (b.size = 0)) := isEmpty_size b
  clear h15
  rcases hk with hk | ⟨hk, hk'⟩
  all_goals
    go_enter Tryz.func96, Tryz.ntmps96
    go_wp2_with (go_at_call 140; refine (isNumber_any _ _).mono ?_; rintro r w' ⟨rfl, rfl⟩)
    all_goals
      go_ret
      refine ⟨ret_b ?_, (Below.refl _ _).alloc (Nat.le_refl _) _⟩
      have hp := unhide hp
      have he0 := unhide he0
      simp_all

set_option maxHeartbeats 1000000 in
theorem isFrame_2 (k e s q : Int) (b : ByteArray) (w : World) (he : Wire.isNum e = true) (h2 : k = 2) :
    Calls Tryz.prog 96 #[.agg #[.int .i64 k, .int .i64 e, .int .i64 s, .int .i64 q, .string b]] w fun r w' => r = .returned (.bool (Wire.proper k e s q b)) ∧ Below w.heap.size w w' := by
  subst h2
  have hp : Hid (Wire.proper 2 e s q b = (decide (s = 0) && (decide (q = 0) && Wire.welBody b))) := by show _ = _; simp [Wire.proper, he]
  go_enter Tryz.func96, Tryz.ntmps96
  go_wp2_with (first | (go_at_call 140; refine (isNumber_any _ _).mono ?_; rintro r w' ⟨rfl, rfl⟩) | (go_at_call 141; refine (isWelcomeBody_any _ _).mono ?_; rintro r w' ⟨rfl, hbw⟩))
  all_goals
    go_ret
    refine ⟨ret_b ?_, by first | exact (Below.refl _ _).alloc (Nat.le_refl _) _ | exact ((Below.refl _ _).alloc (Nat.le_refl _) _).trans (hbw.mono (by simp))⟩
    have hp := unhide hp
    simp_all

set_option maxHeartbeats 1000000 in
theorem isFrame_3 (k e s q : Int) (b : ByteArray) (w : World) (he : Wire.isNum e = true) (h3 : k = 3) :
    Calls Tryz.prog 96 #[.agg #[.int .i64 k, .int .i64 e, .int .i64 s, .int .i64 q, .string b]] w fun r w' => r = .returned (.bool (Wire.proper k e s q b)) ∧ Below w.heap.size w w' := by
  subst h3
  have hp : Hid (Wire.proper 3 e s q b = (Wire.isStr s && (decide (q ≠ 0) && (Wire.isNum q && decide (b.size ≤ 20))))) := by show _ = _; simp [Wire.proper, he]
  cases hs : Wire.isStr s
  all_goals
    cases hq : Wire.isNum q
    all_goals
      go_enter Tryz.func96, Tryz.ntmps96
      go_wp2_with (first | (go_at_call 140; refine (isNumber_any _ _).mono ?_; rintro r w' ⟨rfl, rfl⟩) | (go_at_call 87; refine (isStream_any _ _).mono ?_; rintro r w' ⟨rfl, rfl⟩))
      all_goals
        go_ret
        refine ⟨ret_b ?_, (Below.refl _ _).alloc (Nat.le_refl _) _⟩
        have hp := unhide hp
        have hd : decide ((b.size : Int) ≤ 20) = decide (b.size ≤ 20) := by rw [decide_eq_decide]; omega
        have hq0 : (q != 0) = decide (q ≠ 0) := by by_cases h : q = 0 <;> simp [h]
        try simp only [hd, hq0]
        clear hd hq0
        simp_all

set_option maxHeartbeats 1000000 in
theorem isFrame_4 (k e s q : Int) (b : ByteArray) (w : World) (he : Wire.isNum e = true) (h4 : k = 4) :
    Calls Tryz.prog 96 #[.agg #[.int .i64 k, .int .i64 e, .int .i64 s, .int .i64 q, .string b]] w fun r w' => r = .returned (.bool (Wire.proper k e s q b)) ∧ Below w.heap.size w w' := by
  subst h4
  have hp : Hid (Wire.proper 4 e s q b = (Wire.isStr s && (Wire.isNum q && Wire.ackBody b))) := by show _ = _; simp [Wire.proper, he]
  cases hs : Wire.isStr s
  all_goals
    cases hq : Wire.isNum q
    all_goals
      go_enter Tryz.func96, Tryz.ntmps96
      go_wp2_with (first | (go_at_call 140; refine (isNumber_any _ _).mono ?_; rintro r w' ⟨rfl, rfl⟩) | (go_at_call 87; refine (isStream_any _ _).mono ?_; rintro r w' ⟨rfl, rfl⟩) | (go_at_call 142; refine (isAckBody_any _ _).mono ?_; rintro r w' ⟨rfl, rfl⟩))
      all_goals
        go_ret
        refine ⟨ret_b ?_, (Below.refl _ _).alloc (Nat.le_refl _) _⟩
        have hp := unhide hp
        simp_all

set_option maxHeartbeats 1000000 in
theorem isFrame_any (k e s q : Int) (b : ByteArray) (w : World) :
    Calls Tryz.prog 96 #[.agg #[.int .i64 k, .int .i64 e, .int .i64 s, .int .i64 q, .string b]] w fun r w' => r = .returned (.bool (Wire.proper k e s q b)) ∧ Below w.heap.size w w' := by
  cases he : Wire.isNum e
  · go_enter Tryz.func96, Tryz.ntmps96
    go_wp2_with (go_at_call 140; refine (isNumber_any _ _).mono ?_; rintro r w' ⟨rfl, rfl⟩)
    go_ret
    exact ⟨ret_b (by simp [Wire.proper, he]), (Below.refl _ _).alloc (Nat.le_refl _) _⟩
  by_cases h15 : k = 1 ∨ k = 5
  · exact isFrame_1 k e s q b w he h15
  by_cases h2 : k = 2
  · exact isFrame_2 k e s q b w he h2
  by_cases h3 : k = 3
  · exact isFrame_3 k e s q b w he h3
  by_cases h4 : k = 4
  · exact isFrame_4 k e s q b w he h4
  have hp : Hid (Wire.proper k e s q b = false) := by show _ = _; simp [Wire.proper, h15, h2, h3, h4]
  have b1 : (k == 1) = false := by simp; omega
  have b2 : (k == 2) = false := by simp; omega
  have b3 : (k == 3) = false := by simp; omega
  have b4 : (k == 4) = false := by simp; omega
  have b5 : (k == 5) = false := by simp; omega
  clear h15 h2 h3 h4
  go_enter Tryz.func96, Tryz.ntmps96
  go_wp2_with (go_at_call 140; refine (isNumber_any _ _).mono ?_; rintro r w' ⟨rfl, rfl⟩)
  go_ret
  exact ⟨ret_b (unhide hp).symm, (Below.refl _ _).alloc (Nat.le_refl _) _⟩
end Go.Proofs.YtamafdcnbcoegaaGreat
