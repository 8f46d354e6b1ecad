/-
  The wire, in plain mathematics: what has bytes is read from them, and what is read has those bytes.
-/
import Derived.Test.YtamafdcnbcoegaaGreatWire
namespace Go.Proofs.YtamafdcnbcoegaaGreat
namespace Wire

theorem le4_num4 (a b c d : UInt8) : le4 (num4 a b c d) = [a, b, c, d] := by
  have ha := a.toNat_lt; have hb := b.toNat_lt; have hc := c.toNat_lt; have hd := d.toNat_lt
  have e : (num4 a b c d).toNat = a.toNat + b.toNat * 256 + c.toNat * 65536 + d.toNat * 16777216 := by unfold num4; omega
  unfold le4
  rw [e]
  have e0 : (a.toNat + b.toNat * 256 + c.toNat * 65536 + d.toNat * 16777216) % 256 = a.toNat := by omega
  have e1 : (a.toNat + b.toNat * 256 + c.toNat * 65536 + d.toNat * 16777216) / 256 % 256 = b.toNat := by omega
  have e2 : (a.toNat + b.toNat * 256 + c.toNat * 65536 + d.toNat * 16777216) / 65536 % 256 = c.toNat := by omega
  have e3 : (a.toNat + b.toNat * 256 + c.toNat * 65536 + d.toNat * 16777216) / 16777216 % 256 = d.toNat := by omega
  rw [e0, e1, e2, e3]; simp
theorem num4_le4 {n : Int} (h0 : 0 ≤ n) (h1 : n < 4294967296) :
    num4 (UInt8.ofNat (n.toNat % 256)) (UInt8.ofNat (n.toNat / 256 % 256)) (UInt8.ofNat (n.toNat / 65536 % 256)) (UInt8.ofNat (n.toNat / 16777216 % 256)) = n := by
  unfold num4
  simp
  omega

/-- Eleven bytes and more. -/
theorem eleven {l : List UInt8} (h : 11 ≤ l.length) : ∃ c0 c1 c2 c3 c4 c5 c6 c7 c8 c9 c10 r, l = c0 :: c1 :: c2 :: c3 :: c4 :: c5 :: c6 :: c7 :: c8 :: c9 :: c10 :: r := by
  match l, h with
  | c0 :: c1 :: c2 :: c3 :: c4 :: c5 :: c6 :: c7 :: c8 :: c9 :: c10 :: r, _ => exact ⟨_, _, _, _, _, _, _, _, _, _, _, _, rfl⟩

/-- The last four. -/
theorem last_four {r : List UInt8} {n : Nat} (h : r.length = n + 4) : r = r.take n ++ [r.getD n 0, r.getD (n + 1) 0, r.getD (n + 2) 0, r.getD (n + 3) 0] := by
  apply List.ext_getElem?
  intro i
  by_cases hi : i < n
  · rw [List.getElem?_append_left (by simp; omega), List.getElem?_take, if_pos hi]
  · rw [List.getElem?_append_right (by simp; omega)]
    have hl : (r.take n).length = n := by simp; omega
    rw [hl]
    by_cases h4 : i < n + 4
    · have : i = n ∨ i = n + 1 ∨ i = n + 2 ∨ i = n + 3 := by omega
      have g : ∀ j, j < r.length → r[j]? = some (r.getD j 0) := by intro j hj; simp [List.getD_eq_getElem?_getD, hj]
      rw [g i (by omega)]
      rcases this with rfl | rfl | rfl | rfl <;> simp
    · rw [List.getElem?_eq_none (by omega), List.getElem?_eq_none (by simp; omega)]

theorem numAt_cons11 (c0 c1 c2 c3 c4 c5 c6 c7 c8 c9 c10 : UInt8) (r : List UInt8) (n : Nat) :
    numAt (c0 :: c1 :: c2 :: c3 :: c4 :: c5 :: c6 :: c7 :: c8 :: c9 :: c10 :: r) (n + 11) = num4 (r.getD n 0) (r.getD (n + 1) 0) (r.getD (n + 2) 0) (r.getD (n + 3) 0) := by
  simp [numAt, List.getD_eq_getElem?_getD]

/-- What is whole is the bytes of its parts. -/
theorem whole_bytes {l : List UInt8} (h : whole l = true) : bytes (kindOf l) (epochOf l) (streamOf l) (seqOf l) (bodyOf l).data.toList = l := by
  unfold whole at h
  simp only [Bool.and_eq_true, decide_eq_true_eq] at h
  obtain ⟨h15, hl, hs⟩ := h
  obtain ⟨c0, c1, c2, c3, c4, c5, c6, c7, c8, c9, c10, r, rfl⟩ := eleven (l := l) (by omega)
  simp only [List.length_cons, List.getD_cons_succ, List.getD_cons_zero] at hl h15
  generalize hn : c10.toNat = n at hl
  have hr : r.length = n + 4 := by omega
  have hlen : (c0 :: c1 :: c2 :: c3 :: c4 :: c5 :: c6 :: c7 :: c8 :: c9 :: c10 :: r).length - 4 = n + 11 := by simp; omega
  rw [hlen, numAt_cons11] at hs
  have hb : (bodyOf (c0 :: c1 :: c2 :: c3 :: c4 :: c5 :: c6 :: c7 :: c8 :: c9 :: c10 :: r)).data.toList = r.take n := by
    unfold bodyOf
    rw [hlen]
    simp
  have hf : front (kindOf (c0 :: c1 :: c2 :: c3 :: c4 :: c5 :: c6 :: c7 :: c8 :: c9 :: c10 :: r)) (epochOf (c0 :: c1 :: c2 :: c3 :: c4 :: c5 :: c6 :: c7 :: c8 :: c9 :: c10 :: r))
      (streamOf (c0 :: c1 :: c2 :: c3 :: c4 :: c5 :: c6 :: c7 :: c8 :: c9 :: c10 :: r)) (seqOf (c0 :: c1 :: c2 :: c3 :: c4 :: c5 :: c6 :: c7 :: c8 :: c9 :: c10 :: r)) (r.take n)
      = c0 :: c1 :: c2 :: c3 :: c4 :: c5 :: c6 :: c7 :: c8 :: c9 :: c10 :: r.take n := by
    have e1 : epochOf (c0 :: c1 :: c2 :: c3 :: c4 :: c5 :: c6 :: c7 :: c8 :: c9 :: c10 :: r) = num4 c1 c2 c3 c4 := rfl
    have e2 : seqOf (c0 :: c1 :: c2 :: c3 :: c4 :: c5 :: c6 :: c7 :: c8 :: c9 :: c10 :: r) = num4 c6 c7 c8 c9 := rfl
    have e3 : kindOf (c0 :: c1 :: c2 :: c3 :: c4 :: c5 :: c6 :: c7 :: c8 :: c9 :: c10 :: r) = c0.toNat := rfl
    have e4 : streamOf (c0 :: c1 :: c2 :: c3 :: c4 :: c5 :: c6 :: c7 :: c8 :: c9 :: c10 :: r) = c5.toNat := rfl
    have e5 : (r.take n).length = n := by simp; omega
    have a0 := c0.toNat_lt; have a5 := c5.toNat_lt; have a10 := c10.toNat_lt
    unfold front
    rw [e1, e2, e3, e4, e5, le4_num4, le4_num4, ← hn]
    simp
  unfold bytes
  rw [hb, hf]
  have htk : (c0 :: c1 :: c2 :: c3 :: c4 :: c5 :: c6 :: c7 :: c8 :: c9 :: c10 :: r).take (n + 11) = c0 :: c1 :: c2 :: c3 :: c4 :: c5 :: c6 :: c7 :: c8 :: c9 :: c10 :: r.take n := by simp
  rw [htk] at hs
  rw [← hs, le4_num4]
  have := last_four hr
  simp only [List.cons_append]
  rw [← this]

theorem length_front (k e s q : Int) (b : List UInt8) : (front k e s q b).length = 11 + b.length := by
  simp [front, length_le4]; omega
theorem length_bytes (k e s q : Int) (b : List UInt8) : (bytes k e s q b).length = 15 + b.length := by
  simp [bytes, length_front, length_le4]; omega
theorem at10_bytes (k e s q : Int) (b : List UInt8) (hb : b.length < 256) : ((bytes k e s q b).getD 10 0).toNat = b.length := by
  simp [bytes, front, le4]
  omega

/-- Bytes that say another number than they are many are not whole. -/
theorem whole_not {l : List UInt8} (h : l.length ≠ 15 + (l.getD 10 0).toNat) : whole l = false := by
  unfold whole
  rw [decide_eq_false h]; simp

/-- A frame's parts are read from its bytes. -/
theorem parts_bytes {k e s q : Int} {b : ByteArray} (hk : 0 ≤ k ∧ k < 256) (he : 0 ≤ e ∧ e < 4294967296) (hs : 0 ≤ s ∧ s < 256) (hq : 0 ≤ q ∧ q < 4294967296) (hb : b.size < 256) :
    whole (bytes k e s q b.data.toList) = true ∧ kindOf (bytes k e s q b.data.toList) = k ∧ epochOf (bytes k e s q b.data.toList) = e ∧ streamOf (bytes k e s q b.data.toList) = s ∧
      seqOf (bytes k e s q b.data.toList) = q ∧ bodyOf (bytes k e s q b.data.toList) = b := by
  have hbl : b.data.toList.length = b.size := by simp
  have hl := length_bytes k e s q b.data.toList
  have hlf := length_front k e s q b.data.toList
  have htake : (bytes k e s q b.data.toList).take ((bytes k e s q b.data.toList).length - 4) = front k e s q b.data.toList := by
    rw [hl]; unfold bytes
    rw [List.take_append_of_le_length (by omega), List.take_of_length_le (by omega)]
  have hsr := sum_range (front k e s q b.data.toList)
  refine ⟨?_, ?_, ?_, ?_, ?_, ?_⟩
  · unfold whole
    have hnum : numAt (bytes k e s q b.data.toList) ((bytes k e s q b.data.toList).length - 4) = sum (front k e s q b.data.toList) := by
      have hz : (bytes k e s q b.data.toList).length - 4 = (front k e s q b.data.toList).length := by omega
      rw [hz]
      unfold numAt bytes
      generalize front k e s q b.data.toList = f at *
      have g : ∀ i, (f ++ le4 (sum f)).getD (f.length + i) 0 = (le4 (sum f)).getD i 0 := by
        intro i
        rw [List.getD_eq_getElem?_getD, List.getD_eq_getElem?_getD, List.getElem?_append_right (by omega)]
        congr 2
        omega
      have g0 := g 0
      rw [Nat.add_zero] at g0
      rw [g0, g 1, g 2, g 3]
      exact num4_le4 hsr.1 hsr.2
    rw [htake, hnum, at10_bytes k e s q _ (by omega)]
    simp [hl]
  · simp [kindOf, bytes, front]; omega
  · have := num4_le4 he.1 he.2
    simpa [epochOf, numAt, bytes, front, le4] using this
  · simp [streamOf, bytes, front, le4]; omega
  · have := num4_le4 hq.1 hq.2
    simpa [seqOf, numAt, bytes, front, le4] using this
  · unfold bodyOf
    rw [htake]
    apply ByteArray.ext
    simp [front, le4]
end Wire
end Go.Proofs.YtamafdcnbcoegaaGreat
