/-
  The wire, in plain mathematics: what a frame is, its bytes, what bytes are read as. Nothing of the program.
-/
import Derived.Below
namespace Go.Proofs.YtamafdcnbcoegaaGreat
namespace Wire

/-- A number from 0 to 2147483647. -/
def isNum (n : Int) : Bool := decide (0 ≤ n) && decide (n ≤ 2147483647)
/-- A stream. -/
def isStr (n : Int) : Bool := decide (0 ≤ n) && decide (n < 3)
/-- One step of the sum. -/
def sumStep (s : Int) (c : UInt8) : Int := (s * 31 + (c.toNat : Int)) % 4294967296
/-- The sum of bytes. -/
def sum (l : List UInt8) : Int := l.foldl sumStep 7

theorem sumStep_range (s : Int) (c : UInt8) : 0 ≤ sumStep s c ∧ sumStep s c < 4294967296 := by
  unfold sumStep; omega
theorem foldl_range (l : List UInt8) (s : Int) (h : 0 ≤ s ∧ s < 4294967296) : 0 ≤ l.foldl sumStep s ∧ l.foldl sumStep s < 4294967296 := by
  induction l generalizing s with
  | nil => exact h
  | cons c l ih => exact ih _ (sumStep_range s c)
theorem sum_range (l : List UInt8) : 0 ≤ sum l ∧ sum l < 4294967296 := foldl_range l 7 (by omega)
theorem sum_snoc (l : List UInt8) (c : UInt8) : sum (l ++ [c]) = sumStep (sum l) c := by simp [sum]
theorem sum_take (l : List UInt8) (k : Nat) (h : k < l.length) : sum (l.take (k + 1)) = sumStep (sum (l.take k)) (l.getD k 0) := by
  rw [List.take_succ_eq_append_getElem h, sum_snoc]
  simp [List.getD, h]

/-- A number of four bytes, the lowest first. -/
def num4 (c0 c1 c2 c3 : UInt8) : Int := (c0.toNat : Int) + (c1.toNat : Int) * 256 + (c2.toNat : Int) * 65536 + (c3.toNat : Int) * 16777216
/-- The number that stands at a place of a list of bytes. -/
def numAt (l : List UInt8) (i : Nat) : Int := num4 (l.getD i 0) (l.getD (i + 1) 0) (l.getD (i + 2) 0) (l.getD (i + 3) 0)
/-- A number's four bytes. -/
def le4 (n : Int) : List UInt8 := [UInt8.ofNat (n.toNat % 256), UInt8.ofNat (n.toNat / 256 % 256), UInt8.ofNat (n.toNat / 65536 % 256), UInt8.ofNat (n.toNat / 16777216 % 256)]

theorem num4_range (c0 c1 c2 c3 : UInt8) : 0 ≤ num4 c0 c1 c2 c3 ∧ num4 c0 c1 c2 c3 < 4294967296 := by
  have := c0.toNat_lt; have := c1.toNat_lt; have := c2.toNat_lt; have := c3.toNat_lt
  unfold num4; omega
theorem numAt_range (l : List UInt8) (i : Nat) : 0 ≤ numAt l i ∧ numAt l i < 4294967296 := num4_range _ _ _ _
theorem length_le4 (n : Int) : (le4 n).length = 4 := rfl

/-- Three numbers of four bytes each. -/
def welBody (b : ByteArray) : Bool := decide (b.size = 12) && (decide (numAt b.data.toList 0 ≤ 2147483647) && (decide (numAt b.data.toList 4 ≤ 2147483647) && decide (numAt b.data.toList 8 ≤ 2147483647)))
/-- One byte, of three bits. -/
def ackBody (b : ByteArray) : Bool := decide (b.size = 1) && decide ((b.data.toList.getD 0 0).toNat ≤ 7)
/-- Is it a frame? -/
def proper (k e s q : Int) (b : ByteArray) : Bool :=
  isNum e && (if k = 1 ∨ k = 5 then decide (s = 0) && (decide (q = 0) && decide (b.size = 0))
  else if k = 2 then decide (s = 0) && (decide (q = 0) && welBody b)
  else if k = 3 then isStr s && (decide (q ≠ 0) && (isNum q && decide (b.size ≤ 20)))
  else if k = 4 then isStr s && (isNum q && ackBody b)
  else false)

/-- All of a frame's bytes but the sum. -/
def front (k e s q : Int) (b : List UInt8) : List UInt8 :=
  [UInt8.ofNat (k.toNat % 256)] ++ le4 e ++ [UInt8.ofNat (s.toNat % 256)] ++ le4 q ++ [UInt8.ofNat (b.length % 256)] ++ b
/-- A frame's bytes. -/
def bytes (k e s q : Int) (b : List UInt8) : List UInt8 := front k e s q b ++ le4 (sum (front k e s q b))

/-- Bytes are as many as they say, and their sum is right. -/
def whole (l : List UInt8) : Bool :=
  decide (15 ≤ l.length) && (decide (l.length = 15 + (l.getD 10 0).toNat) && decide (numAt l (l.length - 4) = sum (l.take (l.length - 4))))
/-- The parts that bytes tell. -/
def kindOf (l : List UInt8) : Int := (l.getD 0 0).toNat
def epochOf (l : List UInt8) : Int := numAt l 1
def streamOf (l : List UInt8) : Int := (l.getD 5 0).toNat
def seqOf (l : List UInt8) : Int := numAt l 6
def bodyOf (l : List UInt8) : ByteArray := ⟨((l.take (l.length - 4)).drop 11).toArray⟩
/-- Are they a frame's? -/
def reads (l : List UInt8) : Bool := whole l && proper (kindOf l) (epochOf l) (streamOf l) (seqOf l) (bodyOf l)

end Wire
end Go.Proofs.YtamafdcnbcoegaaGreat
