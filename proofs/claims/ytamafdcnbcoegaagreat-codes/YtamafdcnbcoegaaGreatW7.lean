/-
  Laws on copy, on make and on the conversion of a string into bytes.
-/
import Derived.Test.YtamafdcnbcoegaaGreatW6
import Derived.Laws.CopyOwn
import Derived.Laws.IdiomStrings
namespace Go.Proofs.YtamafdcnbcoegaaGreat
open Go.RowKit

/-- copy of bytes onto a list of the call's own that is as long. -/
theorem wp_copy_bytes {ops : Array Oper} {rest : List Oper} {o : Oper} {a : Act} {Q : Exit → Act → World → Prop} {w : World} (hgd : o.guard = none) (d s : Operand)
    (ho : o.op = .call { callee := .builtin .copy, args := #[d, s], argTypes := #[44, 44] }) (B g cap : Nat) (l0 l : List UInt8) (v : Value)
    (hown : Owns B w (.slice (some ⟨g, 0, none⟩) l.length cap) l0) (hd : a.eval d = .slice (some ⟨g, 0, none⟩) l.length cap) (hat : BytesAt w v l) (hl : 0 < l.length) (hs : a.eval s = v)
    (h : ∀ w', Owns B w' (.slice (some ⟨g, 0, none⟩) l.length cap) l → w.grownBy w' (some g) → wpList Tryz.prog ops Q rest (a.put o.dst (.int .i64 l.length)) w') :
    wpList Tryz.prog ops Q (o :: rest) a w := by
  obtain ⟨ad, cap', rfl, hc1, hc2, hc3⟩ := hat
  obtain ⟨b, off, rfl, hc⟩ := hc3 hl
  obtain ⟨h1, h2⟩ := hown
  rcases h2 with ⟨h2, _⟩ | ⟨g', cap'', cur, e, hB, hh, hca, hcb, hcs, ht⟩
  · cases h2
  injection e with e1 e2 e3
  injection e1 with e1
  injection e1 with e1
  subst e1 e3
  obtain ⟨i0, hi, hz0, hz1, hz2⟩ := info_parts info5
  have hcur : cur.size = cap := by simpa using hcs
  refine wpList_copy_own hgd d s 44 44 ho 5 Tryz.underlying44 (by rw [hi]; simp [hz1]) g 0 l.length cap ⟨b, off, none⟩ l.length cap' hd hs cur 5 hh (bv l) (by rw [bv_length]; simp) ?_ ?_ (bv_oneCell l) ?_
  · intro j u hj
    have hjl : j < l.length := by
      have := (List.getElem?_eq_some_iff.1 hj).1
      rw [bv_length] at this; exact this
    rw [bv_get hjl] at hj
    cases hj
    by_cases hj0 : j = 0
    · subst hj0; simpa [Addr.add] using hc 0 hjl
    · simpa [Addr.add, hj0] using hc j hjl
  · rw [bv_length]; omega
  · rw [bv_length]
    refine h _ ⟨by rw [bv_length]; omega, .inr ⟨g, cap, _, rfl, hB, setRow_heap w g cur _ 5 _ hh, by omega, hcb, ?_, ?_⟩⟩ ⟨rfl, rfl, rfl, by simp [World.setRow], fun k _ hk => setRow_other w g k _ (fun e => hk (by rw [e]))⟩
    · simp [bv_length]; omega
    · simp [bv_length]

/-- make([]byte, n). -/
theorem wp_make_full {ops : Array Oper} {rest : List Oper} {o : Oper} {a : Act} {Q : Exit → Act → World → Prop} {w : World} (hgd : o.guard = none) (l c : Operand)
    (ho : o.op = Op.makeSlice 44 l c) (B : Nat) (kl kc : IntKind) (L C : Int) (n : Nat) (hl : a.eval l = .int kl L) (hc : a.eval c = .int kc C) (hL : L = (n : Int)) (hC : C = (n : Int)) (hsz : n ≤ 281474976710656) (hB : B ≤ w.heap.size)
    (h : ∀ w', Owns B w' (.slice (some ⟨w.heap.size, 0, none⟩) n n) (List.replicate n 0) → w.grownBy w' none → wpList Tryz.prog ops Q rest (a.put o.dst (.slice (some ⟨w.heap.size, 0, none⟩) n n)) w') :
    wpList Tryz.prog ops Q (o :: rest) a w := by
  obtain ⟨i0, hi, hz0, hz1, hz2⟩ := info_parts info5
  refine wpList_make_full (P := Tryz.prog) w hgd l c 44 ho B 5 i0 (.int .u8 0) 1 Tryz.underlying44 hi hz0 hz1 kl kc L C n hl hc hL hC (by rw [hz2]; omega) (by unfold maxLen; omega) hB ?_
  intro w' h1 h2
  refine h w' ?_ h2
  unfold Owns
  have e : bv (List.replicate n 0) = (madeCells (Value.int .u8 0).cells (n * 1)).toList := by
    show _ = (madeCells #[Value.int .u8 0] (n * 1)).toList
    rw [toList_madeCells_one, Nat.mul_one]; simp [bv]
  rw [e, List.length_replicate]
  exact h1

/-- []byte(s). -/
theorem conv_bytes (w : World) (s : ByteArray) (hs : s.size ≤ 140737488355328) :
    ∃ v w', (convert 9 44 (.string s)).run Tryz.prog w = .ok v w' ∧ BytesAt w' v s.data.toList ∧ Below w.heap.size w w' := by
  refine ⟨_, _, run_bytes_of_string w 9 44 5 s Tryz.underlying9 Tryz.underlying44 Tryz.underlying5, ?_, ?_⟩
  · have hl : s.data.toList.length = s.size := by simp
    refine ⟨_, _, by rw [hl], by rw [hl]; exact grownCap_ge w s.size 0 5, by omega, fun _ => ⟨w.heap.size, 0, rfl, fun i hi => ?_⟩⟩
    rw [hl] at hi
    generalize hC : bytesRow s (grownCap w s.size 0 5) = C
    have hcell : (w.drew.alloc (.cells C 5 (C.size, C.size + 1))).cell? ⟨w.heap.size, 0 + i, none⟩ = C[0 + i]? := by
      unfold World.cell?
      have : (w.drew.alloc (.cells C 5 (C.size, C.size + 1))).heap[w.heap.size]? = some (.cells C 5 (C.size, C.size + 1)) := by
        show (w.heap.push _)[w.heap.size]? = _
        simp
      rw [this]; rfl
    rw [hcell, ← hC, Nat.zero_add]
    have hi2 : i < s.data.size := hi
    unfold bytesRow
    rw [Array.getElem?_append_left (by simpa using hi2)]
    have he : s.data[i]? = some s.data[i] := Array.getElem?_eq_getElem hi2
    simp [he]
  · exact ((Below.refl _ _).drew).alloc (Nat.le_refl _) _

end Go.Proofs.YtamafdcnbcoegaaGreat
