/-
  Walks of courierref's wire: Proper, Encode, Read, Decode.
-/
import Derived.Test.YtamafdcnbcoegaaGreatR1
namespace Go.Proofs.YtamafdcnbcoegaaGreat
open Go.RowKit

theorem proper_out {k e s q : Int} {b : ByteArray} (h : ¬ (0 ≤ e ∧ e ≤ 2147483647 ∧ 0 ≤ q ∧ q ≤ 2147483647 ∧ 0 ≤ s ∧ s < 3)) : Wire.proper k e s q b = false := by
  cases hp : Wire.proper k e s q b
  · rfl
  · obtain ⟨h1, h2, h3, h4, h5⟩ := proper_small hp
    omega

set_option maxHeartbeats 2000000 in
theorem refProper_out (k e s q : Int) (b : ByteArray) (w : World) (h : ¬ (0 ≤ e ∧ e ≤ 2147483647 ∧ 0 ≤ q ∧ q ≤ 2147483647 ∧ 0 ≤ s ∧ s < 3)) :
    Calls Tryz.prog 113 #[.agg #[.int .i64 k, .int .i64 e, .int .i64 s, .int .i64 q, .string b]] w fun r w' => r = .returned (.bool (Wire.proper k e s q b)) ∧ Below w.heap.size w w' := by
  have hp := hide (proper_out (k := k) (b := b) h)
  by_cases he : 0 ≤ e ∧ e ≤ 2147483647
  · by_cases hq : 0 ≤ q ∧ q ≤ 2147483647
    · have hs : s < 0 ∨ 3 ≤ s := by omega
      rcases hs with hs | hs
      all_goals
        clear h
        obtain ⟨e0, e1⟩ := he
        obtain ⟨q0, q1⟩ := hq
        go_enter Tryz.func113, Tryz.ntmps113
        go_wp2
        go_ret
        exact ⟨ret_b (unhide hp).symm, (Below.refl _ _).alloc (Nat.le_refl _) _⟩
    · have hq' : q < 0 ∨ 2147483647 < q := by omega
      clear h hq
      rcases hq' with hq | hq
      all_goals
        obtain ⟨e0, e1⟩ := he
        go_enter Tryz.func113, Tryz.ntmps113
        go_wp2
        go_ret
        exact ⟨ret_b (unhide hp).symm, (Below.refl _ _).alloc (Nat.le_refl _) _⟩
  · have he' : e < 0 ∨ 2147483647 < e := by omega
    clear h he
    rcases he' with he | he
    all_goals
      go_enter Tryz.func113, Tryz.ntmps113
      go_wp2
      go_ret
      exact ⟨ret_b (unhide hp).symm, (Below.refl _ _).alloc (Nat.le_refl _) _⟩

set_option maxHeartbeats 2000000 in
theorem refProper_1 (k e s q : Int) (b : ByteArray) (w : World) (h : 0 ≤ e ∧ e ≤ 2147483647 ∧ 0 ≤ q ∧ q ≤ 2147483647 ∧ 0 ≤ s ∧ s < 3) (h15 : k = 1 ∨ k = 5) :
    Calls Tryz.prog 113 #[.agg #[.int .i64 k, .int .i64 e, .int .i64 s, .int .i64 q, .string b]] w fun r w' => r = .returned (.bool (Wire.proper k e s q b)) ∧ Below w.heap.size w w' := by
  have hp : Hid (Wire.proper k e s q b = (decide (s = 0) && (decide (q = 0) && decide (b.size = 0)))) := by
    show _ = _
    simp [Wire.proper, Wire.isNum, h.1, h.2.1, h15]
  have hk : (k == 1) = true ∨ ((k == 1) = false ∧ (k == 5) = true) := by rcases h15 with rfl | rfl <;> simp
  obtain ⟨e0, e1, q0, q1, s0, s1⟩ := h
  clear h15
  rcases hk with hk | ⟨hk, hk'⟩
  all_goals
    go_enter Tryz.func113, Tryz.ntmps113
    go_wp2
    all_goals
      go_ret
      refine ⟨ret_b ?_, (Below.refl _ _).alloc (Nat.le_refl _) _⟩
      have hp := unhide hp
      have hz : ((b.size : Int) == 0) = decide (b.size = 0) := by by_cases h : b.size = 0 <;> simp [h]
      try simp only [hz]
      clear hz
      simp_all

set_option maxHeartbeats 2000000 in
theorem refProper_2 (k e s q : Int) (b : ByteArray) (w : World) (h : 0 ≤ e ∧ e ≤ 2147483647 ∧ 0 ≤ q ∧ q ≤ 2147483647 ∧ 0 ≤ s ∧ s < 3) (hk : k = 2) (hb : b.size ≤ 9223372036854775807) :
    Calls Tryz.prog 113 #[.agg #[.int .i64 k, .int .i64 e, .int .i64 s, .int .i64 q, .string b]] w fun r w' => r = .returned (.bool (Wire.proper k e s q b)) ∧ Below w.heap.size w w' := by
  subst hk
  have hp : Hid (Wire.proper 2 e s q b = (decide (s = 0) && (decide (q = 0) && Wire.welBody b))) := by
    show _ = _
    simp [Wire.proper, Wire.isNum, h.1, h.2.1]
  obtain ⟨e0, e1, q0, q1, s0, s1⟩ := h
  by_cases hs : s = 0
  · by_cases hq : q = 0
    · by_cases h12 : (b.size : Int) = 12
      · have HP : Hid (Wire.proper 2 e s q b = Wire.welBody b) := by show _ = _; rw [unhide hp, hs, hq]; simp
        have Hq := hide hq
        have Hs := hide hs
        have hs' : (s == 0) = true := by simp [hs]
        have hq' : (q == 0) = true := by simp [hq]
        have hn : ((b.size : Int) != 12) = false := by simp [h12]
        have Hn := hide h12
        clear hp hs hq h12
        go_enter Tryz.func113, Tryz.ntmps113
        go_wp2
        go_loopw [5, 6, 64, 65, 68, 69, 70, 71, 72, 73] (fun i _ _ _ _ _ _ _ _ _ wr => ∃ j : Nat, j ≤ 3 ∧ i = .int .i64 (4 * j : Nat) ∧ upTo b j ∧ ∃ n, wr = (w.alloc (.cells #[.int .i64 2, .int .i64 e, .int .i64 s, .int .i64 q, .string b] 41)).drewN n) (fun i _ _ _ _ _ _ _ _ _ _ => 12 - (intOf i).toNat)
        case atStart => exact ⟨0, by omega, rfl, upTo_zero b, 0, rfl⟩
        case round =>
          obtain ⟨j, hj, rfl, hup, n, rfl⟩ := hrel
          by_cases hlt : j < 3
          · have hcall := fun w' => hide (refNumber_any b (4 * j) w' (by have := unhide Hn; omega) hb)
            have hup' := fun h => upTo_succ (k := j) hup h
            have hno := fun h => welBody_no (s := b) hlt h
            generalize Wire.numAt b.data.toList (4 * j) = m at hcall hup' hno
            by_cases hm : m ≤ 2147483647
            · have HU : Hid (upTo b (j + 1)) := hup' hm
              clear hup' hno hup
              go_wp2_with (go_at_call 166; refine (unhide (hcall _)).mono ?_; rintro r w' ⟨rfl, n', rfl⟩)
              go_roundw
              case rel => exact ⟨j + 1, by omega, by go_num, HU.out, n + n', by simp⟩
              case measure => simp [intOf]; omega
            · have HU : Hid (Wire.welBody b = false) := hno (by omega)
              clear hup' hno hup
              go_wp2_with (go_at_call 166; refine (unhide (hcall _)).mono ?_; rintro r w' ⟨rfl, n', rfl⟩)
              go_ret
              exact ⟨ret_b (by rw [unhide HP, unhide HU]), below_drewN ((Below.refl _ _).alloc (Nat.le_refl _) _) _⟩
          · have HU : Hid (Wire.welBody b = true) := welBody_yes (unhide Hn) (by obtain rfl : j = 3 := (by omega); exact hup)
            clear hup
            go_wp2
            go_ret
            exact ⟨ret_b (by rw [unhide HP, unhide HU]), below_drewN ((Below.refl _ _).alloc (Nat.le_refl _) _) _⟩
      · have HP : Hid (Wire.proper 2 e s q b = false) := by show _ = _; rw [unhide hp]; simp [Wire.welBody]; omega
        have hs' : (s == 0) = true := by simp [hs]
        have hq' : (q == 0) = true := by simp [hq]
        have hn : ((b.size : Int) != 12) = true := by simp [h12]
        clear hp hs hq h12
        go_enter Tryz.func113, Tryz.ntmps113
        go_wp2
        go_ret
        exact ⟨ret_b (unhide HP).symm, (Below.refl _ _).alloc (Nat.le_refl _) _⟩
    · have HP : Hid (Wire.proper 2 e s q b = false) := by show _ = _; rw [unhide hp]; simp [hq]
      have hs' : (s == 0) = true := by simp [hs]
      have hq' : (q == 0) = false := by simp [hq]
      clear hp hs hq
      go_enter Tryz.func113, Tryz.ntmps113
      go_wp2
      go_ret
      exact ⟨ret_b (unhide HP).symm, (Below.refl _ _).alloc (Nat.le_refl _) _⟩
  · have HP : Hid (Wire.proper 2 e s q b = false) := by show _ = _; rw [unhide hp]; simp [hs]
    have hs' : (s == 0) = false := by simp [hs]
    clear hp hs
    go_enter Tryz.func113, Tryz.ntmps113
    go_wp2
    go_ret
    exact ⟨ret_b (unhide HP).symm, (Below.refl _ _).alloc (Nat.le_refl _) _⟩

set_option maxHeartbeats 2000000 in
theorem refProper_3 (k e s q : Int) (b : ByteArray) (w : World) (h : 0 ≤ e ∧ e ≤ 2147483647 ∧ 0 ≤ q ∧ q ≤ 2147483647 ∧ 0 ≤ s ∧ s < 3) (hk : k = 3) :
    Calls Tryz.prog 113 #[.agg #[.int .i64 k, .int .i64 e, .int .i64 s, .int .i64 q, .string b]] w fun r w' => r = .returned (.bool (Wire.proper k e s q b)) ∧ Below w.heap.size w w' := by
  subst hk
  have hp : Hid (Wire.proper 3 e s q b = (decide (1 ≤ q) && decide ((b.size : Int) ≤ 20))) := by
    show _ = _
    have e1 : decide (q ≠ 0) = decide (1 ≤ q) := by rw [decide_eq_decide]; omega
    have e2 : decide (b.size ≤ 20) = decide ((b.size : Int) ≤ 20) := by rw [decide_eq_decide]; omega
    simp only [Wire.proper, Wire.isNum, Wire.isStr, decide_eq_true h.1, decide_eq_true h.2.1, decide_eq_true h.2.2.1, decide_eq_true h.2.2.2.1, decide_eq_true h.2.2.2.2.1, decide_eq_true h.2.2.2.2.2, Bool.true_and, e1, e2]
    rfl
  obtain ⟨e0, e1, q0, q1, s0, s1⟩ := h
  go_enter Tryz.func113, Tryz.ntmps113
  go_wp2
  all_goals
    go_ret
    refine ⟨ret_b ?_, (Below.refl _ _).alloc (Nat.le_refl _) _⟩
    have hp := unhide hp
    simp_all <;> omega

set_option maxHeartbeats 2000000 in
theorem refProper_4 (k e s q : Int) (b : ByteArray) (w : World) (h : 0 ≤ e ∧ e ≤ 2147483647 ∧ 0 ≤ q ∧ q ≤ 2147483647 ∧ 0 ≤ s ∧ s < 3) (hk : k = 4) :
    Calls Tryz.prog 113 #[.agg #[.int .i64 k, .int .i64 e, .int .i64 s, .int .i64 q, .string b]] w fun r w' => r = .returned (.bool (Wire.proper k e s q b)) ∧ Below w.heap.size w w' := by
  subst hk
  have hp : Hid (Wire.proper 4 e s q b = Wire.ackBody b) := by
    show _ = _
    simp only [Wire.proper, Wire.isNum, Wire.isStr, decide_eq_true h.1, decide_eq_true h.2.1, decide_eq_true h.2.2.1, decide_eq_true h.2.2.2.1, decide_eq_true h.2.2.2.2.1, decide_eq_true h.2.2.2.2.2, Bool.true_and]
    rfl
  obtain ⟨e0, e1, q0, q1, s0, s1⟩ := h
  by_cases h1 : (b.size : Int) = 1
  · have hpos : 0 < b.size := by omega
    have HA := hide (ackBody_yes h1 hpos)
    go_enter Tryz.func113, Tryz.ntmps113
    go_wp2
    all_goals
      go_ret
      exact ⟨ret_b (by rw [unhide hp, unhide HA]), (Below.refl _ _).alloc (Nat.le_refl _) _⟩
  · have HA := hide (ackBody_no h1)
    go_enter Tryz.func113, Tryz.ntmps113
    go_wp2
    all_goals
      go_ret
      exact ⟨ret_b (by rw [unhide hp, unhide HA]), (Below.refl _ _).alloc (Nat.le_refl _) _⟩

set_option maxHeartbeats 1000000 in
theorem refProper_any (k e s q : Int) (b : ByteArray) (w : World) (hb : b.size ≤ 9223372036854775807) :
    Calls Tryz.prog 113 #[.agg #[.int .i64 k, .int .i64 e, .int .i64 s, .int .i64 q, .string b]] w fun r w' => r = .returned (.bool (Wire.proper k e s q b)) ∧ Below w.heap.size w w' := by
  by_cases h : 0 ≤ e ∧ e ≤ 2147483647 ∧ 0 ≤ q ∧ q ≤ 2147483647 ∧ 0 ≤ s ∧ s < 3
  · by_cases h15 : k = 1 ∨ k = 5
    · exact refProper_1 k e s q b w h h15
    by_cases h2 : k = 2
    · exact refProper_2 k e s q b w h h2 hb
    by_cases h3 : k = 3
    · exact refProper_3 k e s q b w h h3
    by_cases h4 : k = 4
    · exact refProper_4 k e s q b w h h4
    have hp : Hid (Wire.proper k e s q b = false) := by show _ = _; simp [Wire.proper, h15, h2, h3, h4]
    have b1 : (k == 1) = false := by simp; omega
    have b2 : (k == 2) = false := by simp; omega
    have b3 : (k == 3) = false := by simp; omega
    have b4 : (k == 4) = false := by simp; omega
    have b5 : (k == 5) = false := by simp; omega
    obtain ⟨e0, e1, q0, q1, s0, s1⟩ := h
    clear h15 h2 h3 h4
    go_enter Tryz.func113, Tryz.ntmps113
    go_wp2
    all_goals
      go_ret
      exact ⟨ret_b (unhide hp).symm, (Below.refl _ _).alloc (Nat.le_refl _) _⟩
  · exact refProper_out k e s q b w h
end Go.Proofs.YtamafdcnbcoegaaGreat
