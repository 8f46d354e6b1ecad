/-
  Walks of the small functions of package frame.
-/
import Derived.Test.YtamafdcnbcoegaaGreatBs
namespace Go.Proofs.YtamafdcnbcoegaaGreat
open Go.RowKit

theorem isNum_yes {n : Int} (h0 : 0 ≤ n) : Wire.isNum n = decide (n ≤ 2147483647) := by simp [Wire.isNum, h0]
theorem isNum_no {n : Int} (h0 : n < 0) : Wire.isNum n = false := by simp [Wire.isNum]; omega
theorem isStr_yes {n : Int} (h0 : 0 ≤ n) : Wire.isStr n = decide (n < 3) := by simp [Wire.isStr, h0]
theorem isStr_no {n : Int} (h0 : n < 0) : Wire.isStr n = false := by simp [Wire.isStr]; omega

set_option maxHeartbeats 400000 in
theorem isNumber_any (n : Int) (w : World) :
    Calls Tryz.prog 140 #[.int .i64 n] w fun e w' => e = .returned (.bool (Wire.isNum n)) ∧ w' = w := by
  by_cases h : n < 0
  all_goals
    go_enter Tryz.func140, Tryz.ntmps140
    go_wp2
    go_ret
  · exact ⟨ret_b (isNum_no h).symm, rfl⟩
  · exact ⟨ret_b (isNum_yes (by omega)).symm, rfl⟩

set_option maxHeartbeats 400000 in
theorem isStream_any (n : Int) (w : World) :
    Calls Tryz.prog 87 #[.int .i64 n] w fun e w' => e = .returned (.bool (Wire.isStr n)) ∧ w' = w := by
  by_cases h : n < 0
  all_goals
    go_enter Tryz.func87, Tryz.ntmps87
    go_wp2
    go_ret
  · exact ⟨ret_b (isStr_no h).symm, rfl⟩
  · exact ⟨ret_b (isStr_yes (by omega)).symm, rfl⟩

theorem ackBody_yes {s : ByteArray} (h : (s.size : Int) = 1) (hp : 0 < s.size) : Wire.ackBody s = decide ((s[0].toNat : Int) ≤ 7) := by
  have h1 : s.size = 1 := by omega
  have h2 : s.data.toList.getD 0 0 = s[0] := by
    have : (0 : Nat) < s.data.toList.length := by simpa using hp
    rw [List.getD_eq_getElem?_getD, List.getElem?_eq_getElem this]; rfl
  rw [Wire.ackBody, h2, decide_eq_true h1, Bool.true_and]
  by_cases h3 : s[0].toNat ≤ 7
  · rw [decide_eq_true h3, decide_eq_true (by omega)]
  · rw [decide_eq_false h3, decide_eq_false (by omega)]
theorem ackBody_no {s : ByteArray} (h : ¬ (s.size : Int) = 1) : Wire.ackBody s = false := by
  have h1 : ¬ s.size = 1 := by omega
  simp [Wire.ackBody, h1]

set_option maxHeartbeats 400000 in
theorem isAckBody_any (s : ByteArray) (w : World) :
    Calls Tryz.prog 142 #[.string s] w fun e w' => e = .returned (.bool (Wire.ackBody s)) ∧ w' = w := by
  by_cases h : (s.size : Int) = 1
  · have hp : 0 < s.size := by omega
    go_enter Tryz.func142, Tryz.ntmps142
    go_wp2
    go_ret
    exact ⟨ret_b (ackBody_yes h hp).symm, rfl⟩
  · go_enter Tryz.func142, Tryz.ntmps142
    go_wp2
    go_ret
    exact ⟨ret_b (ackBody_no h).symm, rfl⟩

theorem or4 (c0 c1 c2 c3 : UInt8) :
    bits BinOp.or IntKind.u32 (bits BinOp.or IntKind.u32 (bits BinOp.or IntKind.u32 ((c0.toNat : Int) % 4294967296) ((c1.toNat : Int) % 4294967296 * 256 % 4294967296))
      ((c2.toNat : Int) % 4294967296 * 65536 % 4294967296)) ((c3.toNat : Int) % 4294967296 * 16777216 % 4294967296) = Wire.num4 c0 c1 c2 c3 := by
  have h0 := c0.toNat_lt; have h1 := c1.toNat_lt; have h2 := c2.toNat_lt; have h3 := c3.toNat_lt
  have e0 : (c0.toNat : Int) % 4294967296 = c0.toNat := by omega
  have e1 : (c1.toNat : Int) % 4294967296 * 256 % 4294967296 = c1.toNat * 256 := by omega
  have e2 : (c2.toNat : Int) % 4294967296 * 65536 % 4294967296 = c2.toNat * 65536 := by omega
  have e3 : (c3.toNat : Int) % 4294967296 * 16777216 % 4294967296 = c3.toNat * 16777216 := by omega
  rw [e0, e1, e2, e3, u32_or8 (c0.toNat : Int) ((c1.toNat : Int) * 256) (by omega) (by omega) (by omega) (by omega) (by omega),
    u32_or16 ((c0.toNat : Int) + (c1.toNat : Int) * 256) ((c2.toNat : Int) * 65536) (by omega) (by omega) (by omega) (by omega) (by omega),
    u32_or24 ((c0.toNat : Int) + (c1.toNat : Int) * 256 + (c2.toNat : Int) * 65536) ((c3.toNat : Int) * 16777216) (by omega) (by omega) (by omega) (by omega) (by omega)]
  unfold Wire.num4; omega

set_option maxHeartbeats 400000 in
theorem number_bytes (b off len cap : Nat) (c0 c1 c2 c3 : UInt8) (w : World) (hl : 4 ≤ len)
    (h0 : w.cell? ⟨b, off, none⟩ = some (.int .u8 c0.toNat)) (h1 : w.cell? ⟨b, off + 1, none⟩ = some (.int .u8 c1.toNat))
    (h2 : w.cell? ⟨b, off + 2, none⟩ = some (.int .u8 c2.toNat)) (h3 : w.cell? ⟨b, off + 3, none⟩ = some (.int .u8 c3.toNat)) :
    Calls Tryz.prog 95 #[.slice (some ⟨b, off, none⟩) len cap] w fun e w' => e = .returned (.int .u32 (Wire.num4 c0 c1 c2 c3)) ∧ ∃ n, w' = w.drewN n := by
  go_enter Tryz.func95, Tryz.ntmps95
  go_wp2
  go_quiet (fail)
  go_wp2
  go_ret
  exact ⟨ret_i (or4 _ _ _ _), _, rfl⟩

set_option maxHeartbeats 400000 in
theorem number_string (s : ByteArray) (w : World) (h0 : 0 < s.size) (h1 : 1 < s.size) (h2 : 2 < s.size) (h3 : 3 < s.size) :
    Calls Tryz.prog 199 #[.string s] w fun e w' => e = .returned (.int .u32 (Wire.num4 s[0] s[1] s[2] s[3])) ∧ ∃ n, w' = w.drewN n := by
  have i0 : (0 : Int) < (s.size : Int) := by omega
  have i1 : (1 : Int) < (s.size : Int) := by omega
  have i2 : (2 : Int) < (s.size : Int) := by omega
  have i3 : (3 : Int) < (s.size : Int) := by omega
  go_enter Tryz.func199, Tryz.ntmps199
  go_wp2
  go_quiet (fail)
  go_wp2
  go_ret
  exact ⟨ret_i (or4 _ _ _ _), _, rfl⟩

theorem take_all {l : List UInt8} {k len : Nat} (hlen : l.length = len) (hk : k ≤ len) (h : ¬ k < len) : l.take k = l := List.take_of_length_le (by omega)
theorem sum_round {l : List UInt8} {k : Nat} (hk : k < l.length) :
    (Wire.sum (l.take k) * 31 % 4294967296 + (l[k].toNat : Int) % 4294967296) % 4294967296 = Wire.sum (l.take (k + 1)) := by
  rw [Wire.sum_take l k hk, Wire.sumStep, List.getD_eq_getElem?_getD, List.getElem?_eq_getElem hk]
  simp

set_option maxHeartbeats 400000 in
theorem sum_bytes (b off len cap : Nat) (l : List UInt8) (w : World) (hlen : l.length = len) (hm : len ≤ maxLen)
    (hc : ∀ i, i < len → w.cell? ⟨b, off + i, none⟩ = some (.int .u8 (l.getD i 0).toNat)) :
    Calls Tryz.prog 136 #[.slice (some ⟨b, off, none⟩) len cap] w fun e w' => e = .returned (.int .u32 (Wire.sum l)) ∧ w' = w := by
  unfold maxLen at hm
  go_enter Tryz.func136, Tryz.ntmps136
  go_wp2
  go_loop [3, 8] (fun s i => ∃ k : Nat, k ≤ len ∧ i = .int .i64 k ∧ s = .int .u32 (Wire.sum (l.take k))) (fun _ i => len - (intOf i).toNat)
  case atStart => exact ⟨0, Nat.zero_le _, rfl, rfl⟩
  case round =>
    obtain ⟨k, hk, rfl, rfl⟩ := hrel
    have hcell : k < len → w.cell? ⟨b, off + k, none⟩ = some (.int .u8 (l.getD k 0).toNat) := fun _ => hc k (by omega)
    by_cases hlt : k < len
    · go_wp2
      go_round
      case rel => exact ⟨k + 1, by omega, by go_num, congrArg (Value.int .u32) (sum_round (by omega))⟩
      case measure => simp [intOf]; omega
    · have ht : Hid (l.take k = l) := take_all hlen hk hlt
      go_wp2
      go_ret
      exact ⟨congrArg (fun l => Ending.returned (.int .u32 (Wire.sum l))) ht.out, rfl⟩

theorem numAt_zero (x : ByteArray) (h : 4 ≤ x.size) : Wire.num4 (x[0]'(by omega)) (x[1]'(by omega)) (x[2]'(by omega)) (x[3]'(by omega)) = Wire.numAt x.data.toList 0 := by
  have g : ∀ i (hi : i < x.size), x.data.toList.getD i 0 = x[i] := by
    intro i hi
    have hl : i < x.data.toList.length := by simpa using hi
    rw [List.getD_eq_getElem?_getD, List.getElem?_eq_getElem hl]; rfl
  unfold Wire.numAt
  rw [g 0 (by omega), g (0 + 1) (by omega), g (0 + 2) (by omega), g (0 + 3) (by omega)]
theorem numAt_extract (s : ByteArray) (a : Nat) (h : a + 4 ≤ s.size) : Wire.numAt (s.extract a s.size).data.toList 0 = Wire.numAt s.data.toList a := by
  have g : ∀ i, i < 4 → (s.extract a s.size).data.toList.getD i 0 = s.data.toList.getD (a + i) 0 := by
    intro i hi
    have hz : s.data.size = s.size := rfl
    simp only [ByteArray.data_extract, Array.toList_extract, List.getD_eq_getElem?_getD, List.extract_eq_take_drop, List.getElem?_take, List.getElem?_drop]
    rw [if_pos (by omega)]
  unfold Wire.numAt
  rw [g 0 (by omega), g (0 + 1) (by omega), g (0 + 2) (by omega), g (0 + 3) (by omega)]
  simp only [Nat.zero_add, Nat.add_zero]
theorem number_str (x : ByteArray) (w : World) (h : 4 ≤ x.size) :
    Calls Tryz.prog 199 #[.string x] w fun e w' => e = .returned (.int .u32 (Wire.numAt x.data.toList 0)) ∧ ∃ n, w' = w.drewN n := by
  have := number_string x w (by omega) (by omega) (by omega) (by omega)
  rw [numAt_zero x h] at this
  exact this

def upTo (s : ByteArray) (k : Nat) : Prop := ∀ j, j < k → Wire.numAt s.data.toList (4 * j) ≤ 2147483647
theorem upTo_zero (s : ByteArray) : upTo s 0 := fun _ h => absurd h (by omega)
theorem upTo_succ {s : ByteArray} {k : Nat} (h : upTo s k) (h' : Wire.numAt s.data.toList (4 * k) ≤ 2147483647) : upTo s (k + 1) := fun j hj => by
  by_cases e : j = k
  · rw [e]; exact h'
  · exact h j (by omega)
theorem welBody_no {s : ByteArray} {k : Nat} (hk : k < 3) (h' : 2147483647 < Wire.numAt s.data.toList (4 * k)) : Wire.welBody s = false := by
  have : k = 0 ∨ k = 1 ∨ k = 2 := by omega
  unfold Wire.welBody
  rcases this with rfl | rfl | rfl <;> simp at h' ⊢ <;> omega
theorem welBody_yes {s : ByteArray} (h : (s.size : Int) = 12) (h' : upTo s 3) : Wire.welBody s = true := by
  have a0 := h' 0 (by omega); have a1 := h' 1 (by omega); have a2 := h' 2 (by omega)
  simp at a0 a1 a2
  unfold Wire.welBody
  simp [a0, a1, a2]; omega

theorem modify_push (a : Array Obj) (o : Obj) (f : Obj → Obj) : (a.push o).modify a.size f = a.push (f o) := by
  apply Array.ext
  · simp
  · intro j h1 h2
    simp only [Array.getElem_modify, Array.getElem_push]
    simp at h1
    by_cases hj : a.size = j
    · subst hj; simp
    · have : j < a.size := by omega
      simp [hj, this]
theorem set_last {w : World} {C : Array Value} {T : TypeId} {b : Nat} (i : Nat) (v : Value) (n : Nat) (hb : b = w.heap.size) : ((w.alloc (.cells C T)).drewN n).setCell ⟨b, i, none⟩ v = (w.alloc (.cells (C.setIfInBounds i v) T)).drewN n := by
  subst hb
  unfold World.setCell World.alloc World.drewN
  simp only [modify_push]
  rfl
/-- What Committed has laid into its array behind k rounds. -/
def com3 (n0 n1 n2 : Int) : Nat → Array Value
  | 0 => #[.int .i64 0, .int .i64 0, .int .i64 0]
  | 1 => #[.int .i64 n0, .int .i64 0, .int .i64 0]
  | 2 => #[.int .i64 n0, .int .i64 n1, .int .i64 0]
  | _ => #[.int .i64 n0, .int .i64 n1, .int .i64 n2]
theorem numAt_nonneg (l : List UInt8) (i : Nat) : 0 ≤ Wire.numAt l i ∧ Wire.numAt l i < 4294967296 := by
  unfold Wire.numAt Wire.num4
  have h0 := (l.getD i 0).toNat_lt; have h1 := (l.getD (i+1) 0).toNat_lt; have h2 := (l.getD (i+2) 0).toNat_lt; have h3 := (l.getD (i+3) 0).toNat_lt
  omega

set_option maxHeartbeats 1000000 in
theorem Committed_any (s : ByteArray) (w : World) (h : s.size = 12) :
    Calls Tryz.prog 151 #[.string s] w fun e w' => e = .returned (.agg #[.int .i64 (Wire.numAt s.data.toList 0), .int .i64 (Wire.numAt s.data.toList 4), .int .i64 (Wire.numAt s.data.toList 8)]) ∧ Below w.heap.size w w' := by
  have g : ∀ k, 0 < k → k < 3 → ∀ w, Calls Tryz.prog 199 #[.string (s.extract (4 * k) s.size)] w fun e w' => e = .returned (.int .u32 (Wire.numAt s.data.toList (4 * k))) ∧ ∃ n, w' = w.drewN n := by
    intro k _ hk w
    have hx := numAt_extract s (4 * k) (by omega)
    have hsz : (s.extract (4 * k) s.size).size = s.size - 4 * k := by simp
    rw [← hx]
    exact number_str _ w (by omega)
  have g0 := hide (fun w => number_str s w (by omega)); have g1 := hide (g 1 (by omega) (by omega)); have g2 := hide (g 2 (by omega) (by omega))
  clear g
  have i4 : (4 : Int) ≤ (s.size : Int) := by omega
  have i8 : (8 : Int) ≤ (s.size : Int) := by omega
  have m4 : 4 ≤ s.size := by omega
  have m8 : 8 ≤ s.size := by omega
  clear h
  simp only [Nat.mul_one, Nat.reduceMul] at g0 g1 g2
  have b0 := numAt_nonneg s.data.toList 0
  have b1 := numAt_nonneg s.data.toList 4
  have b2 := numAt_nonneg s.data.toList 8
  generalize Wire.numAt s.data.toList 0 = n0 at g0 b0 ⊢
  generalize Wire.numAt s.data.toList 4 = n1 at g1 b1 ⊢
  generalize Wire.numAt s.data.toList 8 = n2 at g2 b2 ⊢
  obtain ⟨b00, b01⟩ := b0
  obtain ⟨b10, b11⟩ := b1
  obtain ⟨b20, b21⟩ := b2
  go_enter Tryz.func151, Tryz.ntmps151
  go_wp2
  go_loopw [5] (fun i wr => ∃ k : Nat, k ≤ 3 ∧ i = .int .i64 k ∧ ∃ n, wr = ((w.alloc (.cells (com3 n0 n1 n2 0) 98)).alloc (.cells (com3 n0 n1 n2 k) 98)).drewN n) (fun i _ => 3 - (intOf i).toNat)
  case atStart => exact ⟨0, by omega, rfl, 0, rfl⟩
  case round =>
    obtain ⟨k, hk, rfl, n, rfl⟩ := hrel
    obtain rfl | rfl | rfl | rfl : k = 0 ∨ k = 1 ∨ k = 2 ∨ k = 3 := by omega
    all_goals simp only [com3]
    · go_wp2_with (go_at_call 199; refine ((unhide g0) _).mono ?_; rintro e w' ⟨rfl, n', rfl⟩)
      go_roundw
      case rel => exact ⟨1, by omega, rfl, n + n', set_last (w := w.alloc _) 0 (.int .i64 n0) (n + n') (by simp)⟩
      case measure => simp [intOf]
    · go_wp2_with (go_at_call 199; refine ((unhide g1) _).mono ?_; rintro e w' ⟨rfl, n', rfl⟩)
      go_roundw
      case rel => exact ⟨2, by omega, rfl, n + n', set_last (w := w.alloc _) 1 (.int .i64 n1) (n + n') (by simp)⟩
      case measure => simp [intOf]
    · go_wp2_with (go_at_call 199; refine ((unhide g2) _).mono ?_; rintro e w' ⟨rfl, n', rfl⟩)
      go_roundw
      case rel => exact ⟨3, by omega, rfl, n + n', set_last (w := w.alloc _) 2 (.int .i64 n2) (n + n') (by simp)⟩
      case measure => simp [intOf]
    · go_wp2
      exact bodyPost_ret (v := .agg #[.int .i64 n0, .int .i64 n1, .int .i64 n2]) (by simp [results, Tryz.results151, go_sem]) rfl ⟨rfl, (((below_drewN (((Below.refl _ _).alloc (Nat.le_refl _) _).alloc (by simp) _) _).setCell (Nat.le_refl _) _).setCell (Nat.le_refl _) _).setCell (Nat.le_refl _) _⟩

set_option maxHeartbeats 1000000 in
theorem isWelcomeBody_any (s : ByteArray) (w : World) :
    Calls Tryz.prog 141 #[.string s] w fun e w' => e = .returned (.bool (Wire.welBody s)) ∧ Below w.heap.size w w' := by
  by_cases h : (s.size : Int) = 12
  · have HC := hide (Committed_any s w (by omega))
    have b0 := numAt_nonneg s.data.toList 0
    have b1 := numAt_nonneg s.data.toList 4
    have b2 := numAt_nonneg s.data.toList 8
    have HW : Hid (Wire.welBody s = (decide (Wire.numAt s.data.toList 0 ≤ 2147483647) && (decide (Wire.numAt s.data.toList 4 ≤ 2147483647) && decide (Wire.numAt s.data.toList 8 ≤ 2147483647)))) := by
      have : s.size = 12 := by omega
      show _ = _
      simp [Wire.welBody, this]
    generalize Wire.numAt s.data.toList 0 = n0 at HC b0 HW
    generalize Wire.numAt s.data.toList 4 = n1 at HC b1 HW
    generalize Wire.numAt s.data.toList 8 = n2 at HC b2 HW
    obtain ⟨b00, b01⟩ := b0
    obtain ⟨b10, b11⟩ := b1
    obtain ⟨b20, b21⟩ := b2
    have i0 : ∀ w : World, (Instr.index 98 (.agg #[.int .i64 n0, .int .i64 n1, .int .i64 n2]) (.int .i64 0)).run Tryz.prog w = .ok (.int .i64 n0) w := fun _ => by kernel_rfl
    have i1 : ∀ w : World, (Instr.index 98 (.agg #[.int .i64 n0, .int .i64 n1, .int .i64 n2]) (.int .i64 1)).run Tryz.prog w = .ok (.int .i64 n1) w := fun _ => by kernel_rfl
    have i2 : ∀ w : World, (Instr.index 98 (.agg #[.int .i64 n0, .int .i64 n1, .int .i64 n2]) (.int .i64 2)).run Tryz.prog w = .ok (.int .i64 n2) w := fun _ => by kernel_rfl
    go_enter Tryz.func141, Tryz.ntmps141
    go_upto_region 4 with (go_at_call 151; refine (unhide HC).mono ?_; rintro e w1 ⟨rfl, hb1⟩; have HB := hide hb1; clear hb1)
    clear h
    go_loop [10] (fun i => ∃ k : Nat, k ≤ 3 ∧ i = .int .i64 k ∧ (0 < k → n0 ≤ 2147483647) ∧ (1 < k → n1 ≤ 2147483647) ∧ (2 < k → n2 ≤ 2147483647)) (fun i => 3 - (intOf i).toNat)
    case atStart => exact ⟨0, by omega, rfl, by omega, by omega, by omega⟩
    case round =>
      obtain ⟨k, hk, rfl, k0, k1, k2⟩ := hrel
      obtain rfl | rfl | rfl | rfl : k = 0 ∨ k = 1 ∨ k = 2 ∨ k = 3 := by omega
      · by_cases hm : n0 ≤ 2147483647
        · go_wp2_with (go_at_call 140; refine (isNumber_any _ _).mono ?_; rw [isNum_yes b00, decide_eq_true hm]; rintro e w' ⟨rfl, rfl⟩)
          go_round
          case rel => exact ⟨1, by omega, rfl, by omega, by omega, by omega⟩
          case measure => simp [intOf]
        · go_wp2_with (go_at_call 140; refine (isNumber_any _ _).mono ?_; rw [isNum_yes b00, decide_eq_false hm]; rintro e w' ⟨rfl, rfl⟩)
          go_ret
          exact ⟨ret_b (by rw [unhide HW, decide_eq_false (Int.not_le.mpr (show 2147483647 < n0 by assumption))]; rfl), unhide HB⟩
      · by_cases hm : n1 ≤ 2147483647
        · go_wp2_with (go_at_call 140; refine (isNumber_any _ _).mono ?_; rw [isNum_yes b10, decide_eq_true hm]; rintro e w' ⟨rfl, rfl⟩)
          go_round
          case rel => exact ⟨2, by omega, rfl, by omega, by omega, by omega⟩
          case measure => simp [intOf]
        · go_wp2_with (go_at_call 140; refine (isNumber_any _ _).mono ?_; rw [isNum_yes b10, decide_eq_false hm]; rintro e w' ⟨rfl, rfl⟩)
          go_ret
          exact ⟨ret_b (by rw [unhide HW, decide_eq_false (Int.not_le.mpr (show 2147483647 < n1 by assumption))]; simp), unhide HB⟩
      · by_cases hm : n2 ≤ 2147483647
        · go_wp2_with (go_at_call 140; refine (isNumber_any _ _).mono ?_; rw [isNum_yes b20, decide_eq_true hm]; rintro e w' ⟨rfl, rfl⟩)
          go_round
          case rel => exact ⟨3, by omega, rfl, by omega, by omega, by omega⟩
          case measure => simp [intOf]
        · go_wp2_with (go_at_call 140; refine (isNumber_any _ _).mono ?_; rw [isNum_yes b20, decide_eq_false hm]; rintro e w' ⟨rfl, rfl⟩)
          go_ret
          exact ⟨ret_b (by rw [unhide HW, decide_eq_false (Int.not_le.mpr (show 2147483647 < n2 by assumption))]; simp), unhide HB⟩
      · go_wp2
        go_ret
        exact ⟨ret_b (by rw [unhide HW, decide_eq_true (k0 (by omega)), decide_eq_true (k1 (by omega)), decide_eq_true (k2 (by omega))]; rfl), unhide HB⟩
  · go_enter Tryz.func141, Tryz.ntmps141
    go_wp2
    go_ret
    exact ⟨ret_b (by simp [Wire.welBody]; omega), Below.refl _ _⟩

theorem one4 {k : IntKind} {a b c d : Int} : ∀ u ∈ [Value.int k a, .int k b, .int k c, .int k d], u.oneCell' = true := by
  intro u hu; simp at hu; rcases hu with rfl | rfl | rfl | rfl <;> rfl
theorem grownBy_trans_new {w w1 : World} {o : Obj} {row : Option Nat} (h : (w.alloc o).grownBy w1 row) : w.grownBy w1 row := by
  refine ⟨h.os, h.tape, h.output, by have := h.size; simp at this; omega, fun k hk hr => ?_⟩
  rw [h.block k (by simp; omega) hr]
  exact Below.heap_alloc _ _ _ hk

set_option maxRecDepth 100000 in
set_option maxHeartbeats 400000 in
theorem appendNumber_any (B : Nat) (n : Int) (v : Value) (l : List UInt8) (w : World) (hl : l.length ≤ 1000) (hB : B ≤ w.heap.size) (hn0 : 0 ≤ n)
    (hown : Owns B w v l) :
    Calls Tryz.prog 135 #[v, .int .u32 n] w fun e w' => ∃ v', e = .returned v' ∧ Owns B w' v' (l ++ Wire.le4 n) ∧ w.grownBy w' v.ownBlock := by
  have hle := bv_le4 hn0
  obtain ⟨i0, hi, hz0, hz1, hz2⟩ := info_parts info5
  have HW := hide hown
  have HL := hide hle
  clear hle hown
  go_enter Tryz.func135, Tryz.ntmps135
  go_wp2_with (at_builtin; refine wpList_append_own _ rfl _ _ 44 rfl B 5 i0 (.int .u8 0) 1 1 Tryz.underlying44 hi hz0 hz1 hz2 rfl (by decide) v l.length (bv l) rfl ((unhide HW).alloc _) ⟨w.heap.size, 0, none⟩ 4 4 [.int .u8 (n % 256), .int .u8 (n / 256 % 256), .int .u8 (n / 65536 % 256), .int .u8 (n / 16777216 % 256)] rfl rfl cells_new one4 ?c3 ?c4 ?c5 ?_)
  case c3 => unfold maxLen; omega
  case c4 => omega
  case c5 => simp; omega
  intro v' w1 hown' hgrow _
  go_wp2
  go_ret
  refine ⟨v', rfl, ?_, ?_⟩
  · unfold Owns
    rw [bv_append, unhide HL]
    simpa [Wire.length_le4] using hown'
  · exact grownBy_trans_new hgrow
end Go.Proofs.YtamafdcnbcoegaaGreat
