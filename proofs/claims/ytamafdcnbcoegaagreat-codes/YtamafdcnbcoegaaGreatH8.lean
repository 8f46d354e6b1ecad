/-
  Walks of courierlaw's bytes that are lent: lent.
-/
import Derived.Test.YtamafdcnbcoegaaGreatH7
import Derived.Lib.BufferWrite
namespace Go.Proofs.YtamafdcnbcoegaaGreat
open Go.RowKit

theorem lib_cells (l : List UInt8) : Lib.byteCells l = bv l := rfl
/-- copy of a text into a list of the call's own that is as long or longer. -/
theorem wp_copy_str {ops : Array Oper} {rest : List Oper} {o : Oper} {a : Act} {Q : Exit → Act → World → Prop} {w : World} (hgd : o.guard = none) (d s : Operand)
    (ho : o.op = .call { callee := .builtin .copy, args := #[d, s], argTypes := #[44, 9] }) (g n : Nat) (l0 : List UInt8) (str : ByteArray)
    (hown : w.ownsRow 0 5 1 (.slice (some ⟨g, 0, none⟩) n n) n (bv l0)) (hd : a.eval d = .slice (some ⟨g, 0, none⟩) n n) (hs : a.eval s = .string str) (hle : str.size ≤ n) (hl0 : l0.length = n)
    (h : ∀ w', w'.ownsRow 0 5 1 (.slice (some ⟨g, 0, none⟩) n n) n (bv (str.data.toList ++ l0.drop str.size)) → w.grownBy w' (some g) → wpList Tryz.prog ops Q rest (a.put o.dst (.int .i64 str.size)) w') :
    wpList Tryz.prog ops Q (o :: rest) a w := by
  refine wpList_plain hgd fun K hK => ?_
  obtain ⟨h1, h2⟩ := id hown
  rcases h2 with ⟨h2, _⟩ | ⟨g', cap'', cur, e, hB, hh, hca, hcb, hcs, ht⟩
  · cases h2
  injection e with e1 e2 e3
  injection e1 with e1
  injection e1 with e1
  subst e1 e3
  obtain ⟨i0, hi, hz0, hz1, hz2⟩ := info_parts info5
  have hcur : cur.size = n := by simpa using hcs
  have hr := Lib.run_copy_row_string (P := Tryz.prog) w 44 9 o.type 5 g 0 n n str cur 5 Tryz.underlying44 (by rw [hi]; simp [hz1]) hh hle (by omega)
  unfold Oper.wp execOp
  simp only [ho, resolve, invoke, builtin, Sem.run_bind, Sem.run_pure, Result.andThen_ok, List.map_toArray, List.map_cons, List.map_nil, hs, hd, hr]
  have hcl : cur.toList = bv l0 := by
    rw [← ht, List.take_of_length_le (by simp [hcur])]
  refine hK _ _ (h _ ⟨by rw [bv_length]; simp; omega, .inr ⟨g, n, _, rfl, hB, setRow_heap w g cur _ _ _ hh, hca, hcb, ?_, ?_⟩⟩ ⟨rfl, rfl, rfl, by simp, ?_⟩)
  · simp [lib_cells, bv_length, hcur]; omega
  · simp only [List.take_zero, List.nil_append, Nat.zero_add, lib_cells, hcl]
    rw [bv_append, List.take_of_length_le (by simp [bv_length]; omega)]
    simp [bv]
  · intro k hk hne
    exact setRow_other w g k _ (fun e => hne (by rw [e]))

/-- Lent bytes while they are written. -/
def partL (s : ByteArray) (j : Nat) : List UInt8 := s.data.toList ++ (List.replicate j 201 ++ List.replicate (8 - j) 0)
theorem partL_length (s : ByteArray) {j : Nat} (h : j ≤ 8) : (partL s j).length = s.size + 8 := by simp [partL]; omega
theorem partL_set (s : ByteArray) {j : Nat} (h : j < 8) : (partL s j).set (s.size + j) 201 = partL s (j + 1) := by
  have hl : s.data.toList.length = s.size := by simp
  unfold partL
  rw [List.set_append_right _ _ (by omega), hl, Nat.add_sub_cancel_left]
  congr 1
  match j, h with
  | 0, _ => rfl
  | 1, _ => rfl
  | 2, _ => rfl
  | 3, _ => rfl
  | 4, _ => rfl
  | 5, _ => rfl
  | 6, _ => rfl
  | 7, _ => rfl
theorem partL_zero (s : ByteArray) : s.data.toList ++ (List.replicate (s.size + 8) (0 : UInt8)).drop s.size = partL s 0 := by simp [partL]
theorem partL_all (s : ByteArray) : partL s 8 = lentL s := by simp [partL, lentL]
theorem bv_put (l : List UInt8) (k : Nat) : bv (l.set k 201) = (bv l).set k (.int .u8 201) := by simp [bv]
end Go.Proofs.YtamafdcnbcoegaaGreat
