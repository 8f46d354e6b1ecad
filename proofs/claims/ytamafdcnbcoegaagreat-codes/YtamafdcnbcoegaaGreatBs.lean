/-
  Small words and laws for all walks: facts kept from the walk, a list of bytes that the call owns, append onto it.
-/
import Derived.Test.YtamafdcnbcoegaaGreatRows
import Derived.Test.YtamafdcnbcoegaaGreatWire
import Derived.WalkKit
import Derived.WalkSpells
import Derived.WalkLawsBesides
import Derived.Deep.QuietTactic
import Derived.BigQuiet
import Derived.Lib.EndianBits
import Derived.Lib.AppendStr
import Derived.Deep.Cut
import Derived.Deep.CutRange
import Derived.Deep.CutBlock
namespace Go.Proofs.YtamafdcnbcoegaaGreat
open Go.RowKit

theorem hide {p : Prop} (h : p) : Hid p := h
theorem unhide {p : Prop} (h : Hid p) : p := h
theorem ret_of {a b : Value} (h : a = b) : Ending.returned a = Ending.returned b := by rw [h]
theorem ret_b {a b : Bool} (h : a = b) : Ending.returned (.bool a) = Ending.returned (.bool b) := by rw [h]
theorem ret_i {k : IntKind} {a b : Int} (h : a = b) : Ending.returned (.int k a) = Ending.returned (.int k b) := by rw [h]
theorem cellN {w : World} {a : Addr} {v : Value} (n : Nat) (h : w.cell? a = some v) : (w.drewN n).cell? a = some v := h

/-- A list of bytes as cells. -/
def bv (l : List UInt8) : List Value := l.map fun c => .int .u8 c.toNat
theorem bv_append (l m : List UInt8) : bv (l ++ m) = bv l ++ bv m := by simp [bv]
theorem bv_length (l : List UInt8) : (bv l).length = l.length := by simp [bv]
theorem bv_get {l : List UInt8} {i : Nat} (h : i < l.length) : (bv l)[i]? = some (.int .u8 (l.getD i 0).toNat) := by
  simp [bv, h]
theorem bv_oneCell (l : List UInt8) : ∀ u ∈ bv l, u.oneCell' = true := by
  intro u hu; simp only [bv, List.mem_map] at hu; obtain ⟨c, _, rfl⟩ := hu; rfl
theorem bv_le4 {n : Int} (h0 : 0 ≤ n) : bv (Wire.le4 n) = [.int .u8 (n % 256), .int .u8 (n / 256 % 256), .int .u8 (n / 65536 % 256), .int .u8 (n / 16777216 % 256)] := by
  obtain ⟨m, rfl⟩ := Int.eq_ofNat_of_zero_le h0
  simp [bv, Wire.le4]
theorem bv_byte {n : Int} (h0 : 0 ≤ n) (h1 : n < 256) : bv [UInt8.ofNat (n.toNat % 256)] = [.int .u8 n] := by
  obtain ⟨m, rfl⟩ := Int.eq_ofNat_of_zero_le h0
  have : m % 256 = m := by omega
  simp [bv, this]
theorem bv_str (s : ByteArray) : Lib.strCells s = bv s.data.toList := rfl

theorem info5 : (Tryz.prog.info? 5).map (fun i => (i.zero, i.size, i.bytes)) = some (some (.int .u8 0), 1, 1) := by kernel_rfl
theorem cells_new {w : World} {l : List Value} {e : TypeId} : ∀ j u, l[j]? = some u → (w.alloc (.cells l.toArray e)).cell? ((⟨w.heap.size, 0, none⟩ : Addr).add j) = some u := by
  intro j u h
  by_cases hj : j = 0
  · subst hj; simpa [Addr.add] using h
  · simpa [Addr.add, hj] using h

/-- The slice is the call's own (its block is B or later), and holds these bytes. -/
def Owns (B : Nat) (w : World) (v : Value) (l : List UInt8) : Prop := w.ownsRow B 5 1 v l.length (bv l)
theorem Owns.alloc {B : Nat} {w : World} {v : Value} {l : List UInt8} (h : Owns B w v l) (o : Obj) : Owns B (w.alloc o) v l := World.ownsRow.alloc h o
theorem Owns.drewN {B : Nat} {w : World} {v : Value} {l : List UInt8} (h : Owns B w v l) (n : Nat) : Owns B (w.drewN n) v l := h
theorem owns_nil (B : Nat) (w : World) : Owns B w (.slice none 0 0) [] := World.ownsRow_nil _ _ _ _
theorem Owns.mono {B B' : Nat} {w : World} {v : Value} {l : List UInt8} (h : Owns B w v l) (hB : B' ≤ B) : Owns B' w v l := by
  obtain ⟨h1, h2⟩ := h
  refine ⟨h1, ?_⟩
  rcases h2 with h2 | ⟨g, cap, cur, e, hb, r⟩
  · exact .inl h2
  · exact .inr ⟨g, cap, cur, e, by omega, r⟩
/-- What is owned below a block stays so where all below it is as it was. -/
theorem Owns.below {B C : Nat} {w w' : World} {v : Value} {l : List UInt8} (h : Owns B w v l) (hb : Below C w w') (hC : ∀ g, v.ownBlock = some g → g < C) : Owns B w' v l := by
  obtain ⟨h1, h2⟩ := h
  refine ⟨h1, ?_⟩
  rcases h2 with h2 | ⟨g, cap, cur, e, hB, hh, r⟩
  · exact .inl h2
  · subst e
    exact .inr ⟨g, cap, cur, rfl, hB, by rw [hb.block g (hC g rfl)]; exact hh, r⟩
theorem Owns.lt {B : Nat} {w : World} {v : Value} {l : List UInt8} (h : Owns B w v l) : ∀ g, v.ownBlock = some g → B ≤ g ∧ g < w.heap.size := World.ownsRow.lt h
/-- A list that is not empty has an address. -/
theorem Owns.addr {B : Nat} {w : World} {v : Value} {l : List UInt8} (h : Owns B w v l) (hl : 0 < l.length) :
    ∃ g cap, v = .slice (some ⟨g, 0, none⟩) l.length cap ∧ B ≤ g ∧ g < w.heap.size ∧ l.length ≤ cap ∧ cap ≤ maxLen ∧ ∀ i, i < l.length → w.cell? ⟨g, 0 + i, none⟩ = some (.int .u8 (l.getD i 0).toNat) := by
  have h0 := h
  obtain ⟨h1, h2⟩ := h
  rcases h2 with ⟨_, h2⟩ | ⟨g, cap, cur, e, hB, hh, hc1, hc2, _, ht⟩
  · omega
  · subst e
    refine ⟨g, cap, rfl, hB, lt_of_block hh, hc1, hc2, fun i hi => ?_⟩
    have := World.ownsRow.cellAt h0 i (by omega)
    rw [Nat.zero_add, this, bv_get hi]
theorem Owns.shape {B : Nat} {w : World} {v : Value} {l : List UInt8} (h : Owns B w v l) : ∃ ad cap, v = .slice ad l.length cap ∧ l.length ≤ cap := by
  obtain ⟨h1, h2⟩ := h
  rcases h2 with ⟨e, h2⟩ | ⟨g, cap, cur, e, hB, hh, hc1, hc2, _, ht⟩
  · exact ⟨none, 0, by rw [h2]; exact e, by omega⟩
  · exact ⟨_, cap, e, hc1⟩

theorem below_grown_new {B : Nat} {w w' : World} {row : Option Nat} (hg : w.grownBy w' row) (hB : B ≤ w.heap.size) (hr : ∀ k, row = some k → B ≤ k) : Below B w w' :=
  (Below.refl B w).grown hg hB hr

/-- append of bytes that lie somewhere onto bytes that the call owns. -/
theorem wp_app_bytes {ops : Array Oper} {rest : List Oper} {o : Oper} {a : Act} {Q : Exit → Act → World → Prop} {w : World} (hgd : o.guard = none) (s x : Operand)
    (ho : o.op = .call { callee := .builtin .append, args := #[s, x], argTypes := #[44, 44] }) (B : Nat) (v : Value) (l : List UInt8) (hown : Owns B w v l) (hs : a.eval s = v)
    (ad : Addr) (m c : Nat) (news : List UInt8) (hx : a.eval x = .slice (some ad) m c) (hl : news.length = m) (hnews : ∀ j u, (bv news)[j]? = some u → w.cell? (ad.add j) = some u)
    (hsz : l.length + m ≤ 140737488355328) (hB : B ≤ w.heap.size)
    (h : ∀ v' w', Owns B w' v' (l ++ news) → w.grownBy w' v.ownBlock → wpList Tryz.prog ops Q rest (a.put o.dst v') w') : wpList Tryz.prog ops Q (o :: rest) a w := by
  obtain ⟨i0, hi, hz0, hz1, hz2⟩ := info_parts info5
  refine wpList_append_own (P := Tryz.prog) _ hgd s x 44 ho B 5 i0 (.int .u8 0) 1 1 Tryz.underlying44 hi hz0 hz1 hz2 rfl (by decide) v l.length (bv l) hs hown ad m c (bv news) hx
    (by rw [bv_length, hl]; omega) hnews (bv_oneCell news) (by unfold maxLen; omega) (by omega) hB ?_
  intro v' w' h1 h2 _
  refine h v' w' ?_ h2
  unfold Owns
  rw [bv_append, List.length_append, hl]
  exact h1

/-- append of one byte, 'b = append(b, x)': x lies in a block of its own. -/
theorem wp_app_byte {ops : Array Oper} {rest : List Oper} {o : Oper} {a : Act} {Q : Exit → Act → World → Prop} {w : World} (hgd : o.guard = none) (s x : Operand)
    (ho : o.op = .call { callee := .builtin .append, args := #[s, x], argTypes := #[44, 44] }) (B : Nat) (v : Value) (l : List UInt8) (n : Int) (hown : Owns B w v l) (hs : a.eval s = v)
    (hx : a.eval x = .slice (some ⟨w.heap.size, 0, none⟩) 1 1) (h0 : 0 ≤ n) (h1 : n < 256)
    (hsz : l.length + 1 ≤ 140737488355328) (hB : B ≤ w.heap.size)
    (h : ∀ v' w', Owns B w' v' (l ++ [UInt8.ofNat (n.toNat % 256)]) → w.grownBy w' v.ownBlock → wpList Tryz.prog ops Q rest (a.put o.dst v') w') :
    wpList Tryz.prog ops Q (o :: rest) a (w.alloc (.cells #[.int .u8 n] 5)) := by
  refine wp_app_bytes (w := w.alloc (.cells #[.int .u8 n] 5)) hgd s x ho B v l (hown.alloc _) hs ⟨w.heap.size, 0, none⟩ 1 1 [UInt8.ofNat (n.toNat % 256)] hx rfl
    (by rw [bv_byte h0 h1]; exact cells_new) hsz (by simp; omega) ?_
  intro v' w' h2 h3
  refine h v' w' h2 ⟨h3.os, h3.tape, h3.output, by have := h3.size; simp at this; omega, fun k hk hr => ?_⟩
  rw [h3.block k (by simp; omega) hr]
  exact Below.heap_alloc _ _ _ hk

/-- append of a string's bytes. -/
theorem wp_app_str {ops : Array Oper} {rest : List Oper} {o : Oper} {a : Act} {Q : Exit → Act → World → Prop} {w : World} (hgd : o.guard = none) (s x : Operand)
    (ho : o.op = .call { callee := .builtin .append, args := #[s, x], argTypes := #[44, 9] }) (B : Nat) (v : Value) (l : List UInt8) (hown : Owns B w v l) (hs : a.eval s = v)
    (str : ByteArray) (hx : a.eval x = .string str) (hsz : l.length + str.size ≤ 140737488355328) (hB : B ≤ w.heap.size)
    (h : ∀ v' w', Owns B w' v' (l ++ str.data.toList) → w.grownBy w' v.ownBlock → wpList Tryz.prog ops Q rest (a.put o.dst v') w') : wpList Tryz.prog ops Q (o :: rest) a w := by
  obtain ⟨i0, hi, hz0, hz1, hz2⟩ := info_parts info5
  obtain ⟨v', w', hr, h1, h2, _⟩ := Lib.run_append_own_string (P := Tryz.prog) w B 44 9 o.type 5 i0 Tryz.underlying44 Tryz.underlying9 hi hz0 hz1 hz2 v l.length (bv l) hown str
    (by unfold maxLen; omega) hsz hB
  refine wpList_plain hgd fun K hK' => ?_
  unfold Oper.wp execOp
  simp only [ho, resolve, invoke, builtin, Sem.run_bind, Sem.run_pure, Result.andThen_ok, List.map_toArray, List.map_cons, List.map_nil, hs, hx, hr]
  refine hK' _ _ (h v' w' ?_ h2)
  unfold Owns
  rw [bv_append, List.length_append, ← bv_str]
  have : str.data.toList.length = str.size := by simp
  rw [this]
  exact h1

/-- make([]byte, 0, n). -/
theorem wp_make_bytes {ops : Array Oper} {rest : List Oper} {o : Oper} {a : Act} {Q : Exit → Act → World → Prop} {w : World} (hgd : o.guard = none) (l c : Operand)
    (ho : o.op = Op.makeSlice 44 l c) (B : Nat) (kl kc : IntKind) (C : Int) (n : Nat) (hl : a.eval l = .int kl 0) (hc : a.eval c = .int kc C) (hC : C = (n : Int)) (hsz : n ≤ 140737488355328) (hB : B ≤ w.heap.size)
    (h : ∀ w', Owns B w' (.slice (some ⟨w.heap.size, 0, none⟩) 0 n) [] → w.grownBy w' none → wpList Tryz.prog ops Q rest (a.put o.dst (.slice (some ⟨w.heap.size, 0, none⟩) 0 n)) w') :
    wpList Tryz.prog ops Q (o :: rest) a w := by
  obtain ⟨i0, hi, hz0, hz1, hz2⟩ := info_parts info5
  exact wpList_make_own (P := Tryz.prog) w hgd l c 44 ho B 5 i0 (.int .u8 0) 1 Tryz.underlying44 hi hz0 hz1 kl kc C n hl hc hC (by rw [hz2]; omega) (by unfold maxLen; omega) hB h

/-- The walk goes on in whatever world has R. -/
theorem wp_world {P : Program} {c : Code} {Q : Exit → Act → World → Prop} {a : Act} {w : World} (R : World → Prop) (h : R w) (k : ∀ w, R w → c.wp P Q a w) : c.wp P Q a w := k w h

/-- string(b), b bytes that lie somewhere. -/
theorem conv_str {w : World} {b off n cap : Nat} {l : List UInt8} (hl : l.length = n) (hc : ∀ i, i < n → w.cell? ⟨b, off + i, none⟩ = some (.int .u8 (l.getD i 0).toNat)) :
    (convert 44 9 (.slice (some ⟨b, off, none⟩) n cap)).run Tryz.prog w = .ok (.string ⟨l.toArray⟩) w := by
  have h := run_convert_bytes_arg (P := Tryz.prog) w 44 5 Tryz.underlying44 Tryz.underlying5 b off n cap (l.map fun c => (c.toNat : Int)) (by simp [hl])
    (fun i hi => by rw [hc i hi]; simp [List.getD_eq_getElem?_getD, List.getElem?_map]; cases h : l[i]? <;> simp) 9 Tryz.underlying9
  have e : strOfNums (l.map fun c => (c.toNat : Int)) = ⟨l.toArray⟩ := by
    unfold strOfNums
    rw [List.map_map]
    have : (fun n : Int => UInt8.ofNat n.toNat) ∘ (fun c : UInt8 => (c.toNat : Int)) = id := by funext c; simp
    rw [this, List.map_id]
  rw [e] at h
  exact h
end Go.Proofs.YtamafdcnbcoegaaGreat
