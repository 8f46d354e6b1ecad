/-
  Part 13 of a proof: K19, L24, L25, U3, L26, U5, N1, T8, N2, N3, N4, N5, N6.
-/
import Derived.Maps.AppendAt
import Derived.Test.YtamafdcnbcoegaaGreatFu12
namespace Go.Proofs.YtamafdcnbcoegaaGreat
open Go.RowKit

/-- The program's sink in memory, behind the courier's own door. -/
def CsAt (w : World) (v : Nat) (a : Mod.Sk) (U : Nat → Prop) : Prop :=
  ∃ p sh st c, w.heap[v]? = some (.cells #[ptrTo p] 93 (0, 0)) ∧ PkAt w p a.epoch a.logs sh st c ∧ Sound st ∧ OnSh a.held sh ∧ SkMore a ∧ U = fun k => k = v ∨ PkU p c k
theorem csAt_lt {w : World} {v : Nat} {a : Mod.Sk} {U : Nat → Prop} (h : CsAt w v a U) : ∀ k, U k → k < w.heap.size := by
  obtain ⟨p, sh, st, c, hb, H, _, _, _, rfl⟩ := h
  rintro k (rfl | hk)
  · exact lt_of_block hb
  · exact H.lt k hk
theorem csAt_far {w w' : World} {v : Nat} {a : Mod.Sk} {U E : Nat → Prop} (h : CsAt w v a U) (hf : Far E w w') (hE : ∀ k, U k → ¬ E k) : CsAt w' v a U := by
  obtain ⟨p, sh, st, c, hb, H, h1, h2, h3, rfl⟩ := h
  exact ⟨p, sh, st, c, hf.blk hb (hE v (.inl rfl)), H.far hf (fun k hk => hE k (.inr hk)), h1, h2, h3, rfl⟩
theorem FramesOut.up {B B' : Nat} {z : World} {lv : Value} {fs : List Value} {Fl : List ByteArray} {U : Nat → Prop} (h : FramesOut B z lv fs Fl (fun _ => False)) (hB : B' ≤ B) (hU : ∀ k, U k → k < B) : FramesOut B' z lv fs Fl U := by
  refine ⟨h.len, ownsRow_monoB h.row hB, fun j v hj => ownsRow_monoB (h.each j v hj) hB, h.apart, fun k hk hu => ?_⟩
  have := hU k hu
  rcases hk with hk | hk
  · have := (World.ownsRow.lt h.row k hk).1
    omega
  · obtain ⟨j, hj, u, hu2, hk⟩ := hk
    have := (World.ownsRow.lt (h.each j u hu2) k hk).1
    omega
theorem cs_not {w : World} {p e : Nat} {logs : Nat → List ByteArray} {sh : Nat → List (Nat × Value)} {st : Mod.Stv} {c : Sv} (H : PkAt w p e logs sh st c) {v q : Nat} (hb : w.heap[v]? = some (.cells #[ptrTo q] 93 (0, 0))) : ¬ PkU p c v :=
  pk_not_cells H hb (by decide) (by decide) (by decide) (by decide) (by decide) (by decide) (by decide) (by decide)
set_option maxHeartbeats 1000000 in
theorem csDeliver_any {w : World} {v : Nat} {a : Mod.Sk} {U : Nat → Prop} (bs : Value) (l : List UInt8) (h : CsAt w v a U) (G : SkGood a) (hat : BytesAt w bs l) :
    Calls Tryz.prog 27 #[ptrTo v, bs] w fun r w' =>
      ∃ lv fs U', r = .returned (.tuple #[lv, .int .i64 (skSays a l).1]) ∧ FramesOut w.heap.size w' lv fs (skSays a l).2.2 U' ∧ CsAt w' v (skSays a l).2.1 U' ∧ Far U w w' ∧ ∀ k, U' k → U k ∨ w.heap.size ≤ k := by
  obtain ⟨p, sh, st, c, hb, H, hs, O, M, rfl⟩ := h
  have c0 : w.cell? ⟨v, 0, none⟩ = some (ptrTo p) := blk_cell (i := 0) hb
  have HD := hide (sinkDeliver_any H hs G M O bs l hat)
  have hM := skMore_says M l
  obtain ⟨a2, ha2⟩ : ∃ a2, a2 = (skSays a l).2.1 := ⟨_, rfl⟩
  obtain ⟨er, her⟩ : ∃ er, er = (skSays a l).1 := ⟨_, rfl⟩
  obtain ⟨Fl, hFl⟩ : ∃ Fl, Fl = (skSays a l).2.2 := ⟨_, rfl⟩
  rw [← ha2, ← her, ← hFl] at HD ⊢
  rw [← ha2] at hM
  have hnv := cs_not H hb
  have HH := hide (And.intro hb hM)
  clear H hb hM ha2 her hFl hat
  unfold ptrTo at c0 HD
  show Calls Tryz.prog _ #[.pointer (some ⟨v, 0, none⟩), bs] w _
  go_enter Tryz.func27, Tryz.ntmps27
  go_wp2_with (go_at_call 56; refine (unhide HD).mono ?_; rintro r y ⟨lv, fs, x, rfl, k1, k2, k3⟩; replace k1 := hide k1; replace k2 := hide k2; replace k3 := hide k3)
  go_ret2
  obtain ⟨sh2, st2, ⟨c2, K, F, N, t1, t2⟩, hs2, O2⟩ := unhide k1
  obtain ⟨hb, hM⟩ := unhide HH
  have hbx := F.blk hb hnv
  have hB := unhide k2
  refine ⟨lv, fs, fun k => k = v ∨ PkU p c2 k, rfl, (unhide k3).up F.size ?_, ⟨p, sh2, st2, c2, (hB.block _ (lt_of_block hbx)).trans hbx, K.far (far_below (E := fun _ => False) hB) (fun _ _ h => h), hs2, O2, hM, rfl⟩, ?_, ?_⟩
  · rintro k (rfl | hk)
    · exact lt_of_block hbx
    · exact K.lt k hk
  · exact (F.mono (fun k _ h => .inr h)).trans (far_below (E := fun _ => False) hB) (fun _ _ h => h.elim)
  · rintro k (rfl | hk)
    · exact .inl (.inl rfl)
    · exact (N k hk).imp .inr id
theorem csEpoch_any {w : World} {v : Nat} {a : Mod.Sk} {U : Nat → Prop} (h : CsAt w v a U) :
    Calls Tryz.prog 42 #[ptrTo v] w fun r w' => r = .returned (.int .i64 a.epoch) ∧ Below w.heap.size w w' := by
  obtain ⟨p, sh, st, c, hb, H, hs, O, M, rfl⟩ := h
  have c0 : w.cell? ⟨v, 0, none⟩ = some (ptrTo p) := blk_cell (i := 0) hb
  have HD := hide (sinkEpoch_any H)
  clear H hb
  unfold ptrTo at *
  go_enter Tryz.func42, Tryz.ntmps42
  go_wp2_with (go_at_call 67; refine (unhide HD).mono ?_; rintro r y ⟨rfl, rfl⟩)
  go_ret
  exact ⟨rfl, Below.refl _ _⟩
theorem csLog_any {w : World} {v : Nat} {a : Mod.Sk} {U : Nat → Prop} (i : Int) (h : CsAt w v a U) :
    Calls Tryz.prog 32 #[ptrTo v, .int .i64 i] w fun r w' =>
      ∃ lv, r = .returned lv ∧ w'.ownsRow w.heap.size 9 1 lv (if 0 ≤ i ∧ i < 3 then a.logs i.toNat else []).length (strs (if 0 ≤ i ∧ i < 3 then a.logs i.toNat else [])) ∧ Below w.heap.size w w' := by
  obtain ⟨p, sh, st, c, hb, H, hs, O, M, rfl⟩ := h
  have c0 : w.cell? ⟨v, 0, none⟩ = some (ptrTo p) := blk_cell (i := 0) hb
  have HD := hide (sinkLog_any H hs i)
  obtain ⟨xs, hxs⟩ : ∃ xs, xs = if 0 ≤ i ∧ i < 3 then a.logs i.toNat else [] := ⟨_, rfl⟩
  rw [← hxs] at HD ⊢
  clear H hb hxs
  unfold ptrTo at *
  go_enter Tryz.func32, Tryz.ntmps32
  go_wp2_with (go_at_call 60; refine (unhide HD).mono ?_; rintro r y ⟨lv, rfl, k1, k2⟩; replace k1 := hide k1; replace k2 := hide k2)
  go_ret
  exact ⟨lv, rfl, unhide k1, unhide k2⟩
theorem csOpen_zero {w : World} (bs : Value) (hat : BytesAt w bs (List.replicate 7808 0)) :
    Calls Tryz.prog 38 #[bs] w fun r w' =>
      ∃ v U, r = .returned (.tuple #[ptrTo v, .int .i64 0]) ∧ CsAt w' v { epoch := 0, logs := fun _ => [], held := [] } U ∧ Below w.heap.size w w' ∧ ∀ k, U k → w.heap.size ≤ k := by
  obtain ⟨m, hm⟩ : ∃ m, m = 122 := ⟨_, rfl⟩
  have hm64 : 7808 = m * 64 := by omega
  rw [hm64] at hat
  have HD := hide (sinkOpen_zero w bs m hm hat)
  clear hat hm64 hm
  unfold ptrTo at *
  go_enter Tryz.func38, Tryz.ntmps38
  go_wp2_with (go_at_call 65; refine (unhide HD).mono ?_; rintro r y ⟨p, st, c, rfl, K, hs, hb, hU⟩; replace K := hide K; replace hb := hide hb; replace hU := hide hU)
  go_ret2
  have hb := unhide hb
  refine ⟨y.heap.size, _, rfl, ⟨p, _, st, c, heap_alloc_new _ _, (unhide K).far (far_below (E := fun _ => False) ((Below.refl _ _).alloc (Nat.le_refl _) _)) (fun _ _ h => h), hs, onSh_nil, skMore_new, rfl⟩, hb.alloc hb.size _, ?_⟩
  rintro k (rfl | hk)
  · exact hb.size
  · exact (unhide hU) k hk
/-- The program's sink. -/
def theSink : SinkC where
  At := CsAt
  lt := csAt_lt
  far := csAt_far
  deliver := csDeliver_any
  epoch := csEpoch_any
  log := fun i h _ => csLog_any i h
  opened := csOpen_zero
end Go.Proofs.YtamafdcnbcoegaaGreat
namespace Go.Proofs.YtamafdcnbcoegaaGreat
open Go.RowKit
def tickFr (a : Mod.Ag) (t s : Nat) : List ByteArray := (Mod.sendOut a.epoch t a.fl s).map fun l => ⟨l.toArray⟩
theorem tickFr_succ (a : Mod.Ag) (t s : Nat) : tickFr a t (s + 1) = tickFr a t s ++ sentFr (tickAg a t s) s t 4 := by
  unfold tickFr sentFr
  rw [tickAg_fl]
  show (Mod.sendOut a.epoch t a.fl s ++ (Mod.sendTo a.epoch s (a.fl s) t 4).2).map _ = _
  rw [List.map_append]
  rfl
theorem get_app {α : Type} {l r : List α} {j : Nat} {u : α} (h : (l ++ r)[j]? = some u) : (l[j]? = some u ∧ j < l.length) ∨ (r[j - l.length]? = some u ∧ l.length ≤ j) := by
  by_cases hj : j < l.length
  · rw [List.getElem?_append_left hj] at h; exact .inl ⟨h, hj⟩
  · rw [List.getElem?_append_right (by omega)] at h; exact .inr ⟨h, by omega⟩
theorem framesOut_app {B : Nat} {x y z : World} {lv lv2 lv' : Value} {fs fs2 : List Value} {F F2 : List ByteArray} {U U' : Nat → Prop}
    (h1 : FramesOut B x lv fs F U) (h2 : FramesOut x.heap.size y lv2 fs2 F2 U') (hF : Far U x y) (hN : ∀ k, U' k → U k ∨ x.heap.size ≤ k) (hUl : ∀ k, U' k → k < y.heap.size) (hB : B ≤ x.heap.size)
    (hr : z.ownsRow B 44 1 lv' (fs.length + fs2.length) (fs ++ fs2)) (hg : y.grownBy z lv.ownBlock) (hl : lv'.ownBlock = lv.ownBlock ∨ lv'.ownBlock = some y.heap.size) : FramesOut B z lv' (fs ++ fs2) (F ++ F2) U' := by
  have hlen1 := h1.len
  have hlen2 := h2.len
  have hxy := hF.size
  have hlvb : ∀ k, lv.ownBlock = some k → B ≤ k ∧ k < x.heap.size := fun k hk => h1.lt k (.inl hk)
  have old : ∀ (j : Nat) (u : Value), fs[j]? = some u → ∀ k, u.ownBlock = some k → B ≤ k ∧ k < x.heap.size ∧ ¬ U k ∧ lv.ownBlock ≠ some k := fun j u hj k hk => by
    have hd : Done fs fs.length k := ⟨j, (List.getElem?_eq_some_iff.1 hj).1, u, hj, hk⟩
    have h3 := h1.lt k (.inr hd)
    exact ⟨h3.1, h3.2, h1.clear k (.inr hd), own_ty (own0 (h1.each j u hj)) (own0 h1.row) (by decide) hk⟩
  have new : ∀ (j : Nat) (u : Value), fs2[j]? = some u → ∀ k, u.ownBlock = some k → x.heap.size ≤ k ∧ k < y.heap.size ∧ ¬ U' k := fun j u hj k hk => by
    have hd : Done fs2 fs2.length k := ⟨j, (List.getElem?_eq_some_iff.1 hj).1, u, hj, hk⟩
    have h3 := h2.lt k (.inr hd)
    exact ⟨h3.1, h3.2, h2.clear k (.inr hd)⟩
  refine ⟨by simp [hlen1, hlen2], by simpa using hr, fun j u hj => ?_, fun j1 j2 u1 u2 hj1 hj2 hjn k hk1 hk2 => ?_, fun k hk hu => ?_⟩
  · rcases get_app hj with ⟨hj, hjl⟩ | ⟨hj, hjl⟩
    · have e : ((F ++ F2).map fun b => b.data.toList).getD j [] = (F.map fun b => b.data.toList).getD j [] := by
        rw [List.getD_eq_getElem?_getD, List.getD_eq_getElem?_getD, List.map_append, List.getElem?_append_left (by simp; omega)]
      rw [e]
      exact ownsRow_keep (h1.each j u hj) (fun k hk => by
        obtain ⟨q1, q2, q3, q4⟩ := old j u hj k hk
        exact (hg.block k (by omega) (fun e => q4 e.symm)).trans (hF.rest k q2 q3))
    · have e : ((F ++ F2).map fun b => b.data.toList).getD j [] = (F2.map fun b => b.data.toList).getD (j - fs.length) [] := by
        rw [List.getD_eq_getElem?_getD, List.getD_eq_getElem?_getD, List.map_append, List.getElem?_append_right (by simp; omega)]
        simp [hlen1]
      rw [e]
      refine ownsRow_monoB (ownsRow_keep (h2.each _ u hj) (fun k hk => ?_)) hB
      obtain ⟨q1, q2, q3⟩ := new _ u hj k hk
      exact hg.block k q2 (fun e => by have := (hlvb k e.symm).2; omega)
  · rcases get_app hj1 with ⟨a1, b1⟩ | ⟨a1, b1⟩ <;> rcases get_app hj2 with ⟨a2, b2⟩ | ⟨a2, b2⟩
    · exact h1.apart j1 j2 u1 u2 a1 a2 hjn k hk1 hk2
    · have := old j1 u1 a1 k hk1; have := new _ u2 a2 k hk2; omega
    · have := old j2 u2 a2 k hk2; have := new _ u1 a1 k hk1; omega
    · exact h2.apart _ _ u1 u2 a1 a2 (by omega) k hk1 hk2
  · rcases hk with hk | ⟨j, hj, u, hju, hk⟩
    · rcases hl with e | e
      · rw [e] at hk
        have h3 := hlvb k hk
        rcases hN k hu with h4 | h4
        · exact h1.clear k (.inl hk) h4
        · omega
      · rw [e] at hk
        injection hk with hk
        have := hUl k hu
        omega
    · rcases get_app hju with ⟨a1, b1⟩ | ⟨a1, b1⟩
      · obtain ⟨q1, q2, q3, q4⟩ := old j u a1 k hk
        rcases hN k hu with h4 | h4
        · exact q3 h4
        · omega
      · exact (new _ u a1 k hk).2.2 hu
end Go.Proofs.YtamafdcnbcoegaaGreat
namespace Go.Proofs.YtamafdcnbcoegaaGreat
open Go.RowKit
/-- append(s, x...) of lists of one's own. -/
theorem wpList_cat_own {ops : Array Oper} {rest : List Oper} {o : Oper} {a : Act} {Q : Exit → Act → World → Prop} {w : World} (hgd : o.guard = none) (s x : Operand) (t : TypeId) (ho : o.op = .call { callee := .builtin .append, args := #[s, x], argTypes := #[t, t] })
    (base : Nat) (e : TypeId) (z : Value) (size bytes : Nat) (ht : Tryz.prog.underlying t = some (.slice e)) (hinfo : (Tryz.prog.info? e).map (fun i => (i.zero, i.size, i.bytes)) = some (some z, size, bytes)) (hzs : z.cells.size = size) (hsz : 0 < size)
    (v : Value) (n : Nat) (xs : List Value) (hown : w.ownsRow base e size v n xs) (hs : a.eval s = v) (base2 : Nat) (v2 : Value) (m : Nat) (news : List Value) (hown2 : w.ownsRow base2 e size v2 m news) (hx : a.eval x = v2)
    (h1 : ∀ u ∈ news, u.oneCell' = true) (h63 : n + m ≤ maxLen) (hb : (n + m) * bytes ≤ 140737488355328) (hbase : base ≤ w.heap.size)
    (h : ∀ v' w', w'.ownsRow base e size v' (n + m) (xs ++ news) → w.grownBy w' v.ownBlock → (v'.ownBlock = v.ownBlock ∨ v'.ownBlock = some w.heap.size) → wpList Tryz.prog ops Q rest (a.put o.dst v') w') : wpList Tryz.prog ops Q (o :: rest) a w := by
  obtain ⟨i0, hi, hz0, hz1, hz2⟩ := info_parts2 hinfo
  rcases hown2.2 with ⟨rfl, rfl⟩ | ⟨g, cap, cur, rfl, hg1, hg2, hg3, hg4, hg5, hg6⟩
  · have hn : news = [] := by have := hown2.1; simpa using this
    subst hn
    refine wpList_plain hgd fun K hK => ?_
    have hrun : (Builtin.append_ #[t, t] o.type #[v, .slice none 0 0]).run Tryz.prog w = .ok v w := by
      rcases hown.2 with ⟨rfl, rfl⟩ | ⟨g, cap, cur, rfl, _, _, hnc, _⟩
      · simp [Builtin.append_, run_underlying ht, sizeOf, typeInfo, hi, Builtin.lenOf, Builtin.firstCells]
      · simp [Builtin.append_, run_underlying ht, sizeOf, typeInfo, hi, Builtin.lenOf, Builtin.firstCells, hnc, storeCells]
    unfold Oper.wp
    simp [execOp, ho, resolve, invoke, builtin, hs, hx, hrun, Result.andThen]
    exact hK _ _ (h v w (by simpa using hown) (World.grownBy.refl _ _) (.inl rfl))
  · refine wpList_append_own_at w hgd s x t ho base e i0 z size bytes ht hi hz0 hz1 hz2 hzs hsz v n xs hs hown ⟨g, 0, none⟩ m cap news hx hown2.1 ?_ h1 h63 hb hbase (fun v' w' q1 q2 _ q4 => h v' w' q1 q2 q4)
    intro j u hj
    have hjl : j < m * size := by
      rw [← hown2.1]
      exact (List.getElem?_eq_some_iff.1 hj).1
    have := World.ownsRow.cellAt hown2 j hjl
    rw [hj] at this
    rw [add_mk, Nat.zero_add]
    exact this
theorem sentFr_cnt (a : Mod.Ag) (i t : Nat) : (sentFr a i t 4).length ≤ 4 := by
  unfold sentFr
  rw [List.length_map]
  exact sendTo_cnt _ _ _ _ _
theorem tickFr_cnt (a : Mod.Ag) (t : Nat) : ∀ j, (tickFr a t j).length ≤ 4 * j
  | 0 => Nat.le_refl _
  | j + 1 => by
    have ih := tickFr_cnt a t j
    have h := sentFr_cnt (tickAg a t j) j t
    rw [tickFr_succ, List.length_append]
    omega
theorem FramesOut.one {B : Nat} {w : World} {lv : Value} {fs : List Value} {Fl : List ByteArray} {U : Nat → Prop} (h : FramesOut B w lv fs Fl U) : ∀ u ∈ fs, u.oneCell' = true := by
  intro u hu
  obtain ⟨j, hj, rfl⟩ := List.getElem_of_mem hu
  obtain ⟨ad, cap, e, _⟩ := (own_rowO (h.each j _ (List.getElem?_eq_getElem hj))).shape
  rw [e]
  rfl
/-- Frames that came out, and the agent behind it. -/
def AgOut (w z : World) (p : Nat) (a' : Mod.Ag) (c : Av) (lv : Value) (fs : List Value) (F : List ByteArray) : Prop :=
  ∃ c', FramesOut w.heap.size z lv fs F (PaU p c') ∧ (∃ g free sh pl st, PaAt z p g a'.ticks a'.welcome a'.fenced free sh st c' ∧ Sound st ∧ OnAg a' st.opening g free sh pl) ∧ Far (PaU p c) w z ∧ (∀ k, PaU p c' k → PaU p c k ∨ w.heap.size ≤ k) ∧ c'.s = c.s ∧ c'.rv = c.rv
section
variable {w : World} {p : Nat} {g : Nat → Nat} {free : List Nat} {sh : Nat → List (Nat × Value)} {st : Mod.Stv} {c : Av} {a : Mod.Ag} {pl : Nat → List Nat}
set_option maxRecDepth 100000 in
set_option maxHeartbeats 8000000 in
theorem agTick_send (H : PaAt w p g a.ticks a.welcome a.fenced free sh st c) (hs : Sound st) (O : OnAg a st.opening g free sh pl) (htk : a.ticks ≤ 1000000000) (hbnd : ∀ i, i < 3 → (a.fl i).base + (a.fl i).kept.length < 4294967296) (hbod : ∀ i, i < 3 → ∀ x ∈ (a.fl i).kept, x.1.size ≤ 20 ∧ x.2 ≤ 1000000000000) (hf : a.fenced = false) (hw : a.welcome = true) :
    Calls Tryz.prog 53 #[ptrTo p] w fun r z => ∃ lv fs, r = .returned lv ∧ AgOut w z p a.tick.1 c lv fs (a.tick.2.map fun l => ⟨l.toArray⟩) := by
  have c23 : w.cell? ⟨p, 23, none⟩ = some (.int .i64 a.ticks) := by rw [blk_cell H.ks.blk, H.ks.at']
  have f23 : w.frozen? ⟨p, 23, none⟩ = false := blk_free (i := 23) H.ks.blk
  obtain ⟨t2, ht2⟩ : ∃ t2, t2 = a.ticks + 1 := ⟨_, rfl⟩
  rw [tick_send hf hw, ← ht2]
  have HT := hide ht2
  have HSD := fun (wr : World) (c2 : Av) (sh2 : Nat → List (Nat × Value)) (j : Nat) (hj : j < 3) (K : PaAt wr p g (tickAg a t2 j).ticks (tickAg a t2 j).welcome (tickAg a t2 j).fenced free sh2 st c2) (O2 : OnAg (tickAg a t2 j) st.opening g free sh2 pl) =>
    agSend_any K O2 j hj (by show t2 ≠ 0; omega) (by show t2 ≤ _; omega) (by rw [tickAg_fl]; exact hbnd j hj) (by rw [tickAg_fl]; exact hbod j hj)
  have HSEND := hide HSD
  have HH := hide (And.intro H (And.intro hs O))
  have hsd := hs.1
  clear H O hs ht2 HSD hbnd hbod
  unfold ptrTo at *
  go_enter Tryz.func53, Tryz.ntmps53
  go_upto_region 2 with fail
  refine wp_world (fun x => PaStep w x p g t2 a.welcome a.fenced free sh st c) ?_ ?_
  · rw [show ((a.ticks : Int) + 1) = ((t2 : Nat) : Int) by have := unhide HT; omega]
    exact paStep_tick (unhide HH).1 t2
  clear c23 f23
  rintro x hst
  obtain ⟨c1, K1, F1, N1, s1, s2⟩ := hst
  have d25 : x.cell? ⟨p, 25, none⟩ = some (.bool false) := by rw [blk_cell K1.ks.blk, K1.ks.ae, hf]
  have d24 : x.cell? ⟨p, 24, none⟩ = some (.bool true) := by rw [blk_cell K1.ks.blk, K1.ks.aw, hw]
  have d0 : x.cell? ⟨p, 0, none⟩ = some (.pointer (some ⟨c1.s, 0, none⟩)) := by rw [blk_cell K1.ks.blk, K1.ks.a0]; rfl
  have hID := storeIsDead_any K1.stt
  rw [hsd] at hID
  have HID := hide hID
  have HS := hide (⟨c1, K1, F1, N1, s1, s2⟩ : PaStep w x p g t2 a.welcome a.fenced free sh st c)
  clear K1 F1 N1 s1 s2 hID
  unfold ptrTo at *
  go_wp2_with (go_at_call 86; refine (unhide HID).mono ?_; rintro r y ⟨rfl, hyw⟩; obtain rfl : x = y := hyw.symm)
  go_loopw [3, 4, 33] (fun v _ i wr => ∃ j : Nat, j ≤ 3 ∧ i = .int .i64 j ∧ ∃ fs c2 sh2, FramesOut w.heap.size wr v fs (tickFr a t2 j) (PaU p c2) ∧ PaAt wr p g (tickAg a t2 j).ticks (tickAg a t2 j).welcome (tickAg a t2 j).fenced free sh2 st c2 ∧ OnAg (tickAg a t2 j) st.opening g free sh2 pl ∧ Far (PaU p c) w wr ∧ (∀ k, PaU p c2 k → PaU p c k ∨ w.heap.size ≤ k) ∧ c2.s = c.s ∧ c2.rv = c.rv) (fun _ _ i _ => 3 - (intOf i).toNat)
  case atStart =>
    obtain ⟨c2, K2, F2, N2, s1, s2⟩ := unhide HS
    refine ⟨0, by omega, rfl, [], c2, sh, ⟨rfl, World.ownsRow_nil _ _ _ _, (fun j v hj => by simp at hj), (fun i j u v hi => by simp at hi), fun k hk => ?_⟩, K2, ?_, F2, N2, s1, s2⟩
    · rcases hk with h | ⟨j, hj, _⟩
      · cases h
      · simp at hj
    · rw [tickAg_zero]
      exact (unhide HH).2.2.flags t2 a.welcome a.fenced
  case round =>
    obtain ⟨j, hj, rfl, fs, c2, sh2, m1, m2, m3, m4, m5, m6, m7⟩ := hrel
    clear HS HID d0 d24 d25
    by_cases hlt : j < 3
    · have HSJ := hide ((unhide HSEND) wr c2 sh2 j hlt m2 m3)
      have hj0 : (0 : Int) ≤ (j : Int) := by omega
      have hj3 : (j : Int) < 3 := by omega
      have hcnt := tickFr_cnt a t2 j
      have hsc := sentFr_cnt (tickAg a t2 j) j (tickAg a t2 j).ticks
      obtain ⟨n1, hn1⟩ : ∃ n, n = fs.length := ⟨_, rfl⟩
      have hl1 : n1 ≤ 8 := by have := m1.len; omega
      have HN1 := hide hn1
      have hzw := m4.size
      have hrow1 := m1.row
      rw [← hn1] at hrow1
      obtain ⟨ad, cap, rfl, _⟩ := (own_rowO hrow1).shape
      have HR1 := hide hrow1
      clear hrow1 hn1 hcnt
      have HM := hide (And.intro m1 (And.intro m2 (And.intro m4 (And.intro m5 (And.intro m6 m7)))))
      clear m1 m2 m3 m4 m5 m6 m7
      unfold ptrTo at HSJ
      go_upto_region 10 with fail
      go_upto_region 11 with (first
        | (go_at_call 93; (refine (unhide HSJ).mono ?_; rintro r y ⟨lv2, fs2, c3, sh3, rfl, k1, k2, k3, k4, k5, k6, k7⟩; obtain ⟨n2, hn2⟩ : ∃ n, n = fs2.length := ⟨_, rfl⟩; have hl2 : n2 ≤ 4 := (by have := k1.len; omega); have hrow2 := k1.row; rw [← hn2] at hrow2; have HN2 := hide hn2; have hyz := k4.size; obtain ⟨ad2, cap2, e2, _⟩ := (own_rowO hrow2).shape; subst e2; have HR2 := hide hrow2; clear hrow2 hn2; have HK := hide (And.intro k1 (And.intro k2 (And.intro k3 (And.intro k4 (And.intro k5 (And.intro k6 k7)))))); clear k1 k2 k3 k4 k5 k6 k7))
        | (at_builtin; (refine wpList_cat_own rfl (.tmp 36) (.tmp 39) 38 rfl w.heap.size 44 (.slice none 0 0) 1 24 Tryz.underlying38 (by kernel_rfl) rfl (by decide) (.slice ad n1 cap) n1 fs (ownsRow_keep (unhide HR1) (fun k hk => (unhide HK).2.2.2.1.rest k ((unhide HM).1.lt k (.inl hk)).2 ((unhide HM).1.clear k (.inl hk)))) rfl wr.heap.size (.slice ad2 n2 cap2) n2 fs2 (unhide HR2) rfl (unhide HK).1.one (by unfold maxLen; omega) (by omega) (by omega) ?_; intro v' w1 hown' hgrow hat; obtain ⟨ad3, cap3, e3, _⟩ := (own_rowO hown').shape; subst e3; have HV := hide (And.intro hown' (And.intro hgrow hat)); clear hown' hgrow hat)))
      go_wp2
      go_roundw
      case rel =>
        obtain ⟨m1, m2, m4, m5, m6, m7⟩ := unhide HM
        obtain ⟨k1, k2, k3, k4, k5, k6, k7⟩ := unhide HK
        obtain ⟨q1, q2, q3⟩ := unhide HV
        have hF := framesOut_app (lv := .slice ad n1 cap) m1 k1 k4 k5 k2.lt m4.size (by rw [← unhide HN1, ← unhide HN2]; exact q1) q2 q3
        have hno : ∀ k, PaU p c3 k → ¬ (Value.slice ad n1 cap).ownBlock = some k := fun k hu e => by
          have h1 := m1.lt k (.inl e)
          rcases k5 k hu with h2 | h2
          · exact m1.clear k (.inl e) h2
          · omega
        have FG := far_grown q2
        refine ⟨j + 1, by omega, by go_num, fs ++ fs2, c3, sh3, ?_, k2.far FG (fun k hu e => hno k hu (by simpa using e)), ?_, (m4.trans k4 (fun k hk hu => ?_)).trans FG (fun k hk e => ?_), fun k hu => ?_, k6.trans m6, k7.trans m7⟩
        · rw [tickFr_succ]
          exact hF
        · have := k3
          rw [show (tickAg a t2 j).ticks = t2 from rfl, tickAg_succ] at this
          exact this
        · rcases m5 k hu with h | h
          · exact h
          · omega
        · have := (m1.lt k (.inl (by simpa using e))).1
          omega
        · rcases k5 k hu with h | h
          · exact m5 k h
          · exact .inr (by omega)
      case measure => simp [intOf]; omega
    · have hj3 : j = 3 := by omega
      subst hj3
      have HM := hide (And.intro m1 (And.intro m2 (And.intro m3 (And.intro m4 (And.intro m5 (And.intro m6 m7))))))
      obtain ⟨ad, cap, rfl, _⟩ := (own_rowO m1.row).shape
      clear m1 m2 m3 m4 m5 m6 m7
      go_wp2
      go_ret
      obtain ⟨m1, m2, m3, m4, m5, m6, m7⟩ := unhide HM
      exact ⟨_, fs, rfl, c2, m1, ⟨g, free, sh2, pl, st, m2, (unhide HH).2.1, m3⟩, m4, m5, m6, m7⟩
end
end Go.Proofs.YtamafdcnbcoegaaGreat
namespace Go.Proofs.YtamafdcnbcoegaaGreat
open Go.RowKit

section
variable {top N : Nat} {C : AgentC top} {w x y : World} {q sv rp f : Nat} {a ar ap : Mod.Ag} {r : RRest} {kv kvc hk hkc : Nat → Value} {U U' : Nat → Prop} {left : Int} {i : Int} {s : ByteArray}
end
theorem refuses_0 {a : Mod.Ag} {i : Int} {n : Nat} (h : a.refuses i n = 0) : (0 ≤ i ∧ i < 3) ∧ n ≤ 20 ∧ a.room < 24 := by
  unfold Mod.Ag.refuses at h
  split at h
  · simp at h
  · split at h
    · simp at h
    · split at h
      · simp at h
      · omega

end Go.Proofs.YtamafdcnbcoegaaGreat
namespace Go.Proofs.YtamafdcnbcoegaaGreat
open Go.RowKit

theorem agOut_of {w x z : World} {p : Nat} {a' : Mod.Ag} {c : Av} {lv : Value} {fs : List Value} {F : List ByteArray} (h : AgIs w x p a' c) (hb : Below x.heap.size x z) (hf : FramesOut x.heap.size z lv fs F (fun _ => False)) : AgOut w z p a' c lv fs F := by
  obtain ⟨g, free, sh, pl, st, ⟨c', K, F', N, s1, s2⟩, hs, O⟩ := h
  exact ⟨c', hf.up F'.size K.lt, ⟨g, free, sh, pl, st, K.below hb, hs, O⟩, F'.trans (far_below hb) (fun _ _ h => h), N, s1, s2⟩
section
variable {w : World} {p : Nat} {g : Nat → Nat} {free : List Nat} {sh : Nat → List (Nat × Value)} {st : Mod.Stv} {c : Av} {a : Mod.Ag} {pl : Nat → List Nat}
theorem agTick_any {N : Nat} (H : PaAt w p g a.ticks a.welcome a.fenced free sh st c) (hs : Sound st) (O : OnAg a st.opening g free sh pl) (G : AgGood N a) (hN : N < 1000000000) :
    Calls Tryz.prog 53 #[ptrTo p] w fun r z => ∃ lv fs, r = .returned lv ∧ AgOut w z p a.tick.1 c lv fs (a.tick.2.map fun l => ⟨l.toArray⟩) := by
  have htk : a.ticks ≤ 1000000000 := by have := G.tk; omega
  cases hf : a.fenced with
  | true =>
    refine (agTick_fenced H hs O htk hf).mono ?_
    rintro r z ⟨rfl, h⟩
    have ht : a.tick.2 = [] := by unfold Mod.Ag.tick; rw [if_pos hf]
    rw [ht]
    exact ⟨_, [], rfl, agOut_of h (Below.refl _ _) ⟨rfl, World.ownsRow_nil _ _ _ _, (fun j v hj => by simp at hj), (fun i j u v hi => by simp at hi), fun k hk => fun h => h⟩⟩
  | false =>
    cases hw : a.welcome with
    | false =>
      refine (agTick_hello H hs O htk G.ep hf hw).mono ?_
      rintro r z ⟨lv, fs, x, rfl, h1, h2, h3⟩
      exact ⟨lv, fs, rfl, agOut_of h1 h2 h3⟩
    | true => exact agTick_send H hs O htk (fun i hi => by have := G.sum i hi; omega) (fun i hi x hx => ⟨(G.bod i hi x hx).1, by have := (G.bod i hi x hx).2; omega⟩) hf hw
end
/-- The program's agent in memory, behind the courier's own door. -/
def CaAt (w : World) (v : Nat) (a : Mod.Ag) (U : Nat → Prop) : Prop :=
  ∃ p g free sh pl st c, w.heap[v]? = some (.cells #[ptrTo p] 90 (0, 0)) ∧ PaAt w p g a.ticks a.welcome a.fenced free sh st c ∧ Sound st ∧ OnAg a st.opening g free sh pl ∧ U = fun k => k = v ∨ PaU p c k
theorem caAt_lt {w : World} {v : Nat} {a : Mod.Ag} {U : Nat → Prop} (h : CaAt w v a U) : ∀ k, U k → k < w.heap.size := by
  obtain ⟨p, g, free, sh, pl, st, c, hb, H, _, _, rfl⟩ := h
  rintro k (rfl | hk)
  · exact lt_of_block hb
  · exact H.lt k hk
theorem caAt_far {w w' : World} {v : Nat} {a : Mod.Ag} {U E : Nat → Prop} (h : CaAt w v a U) (hf : Far E w w') (hE : ∀ k, U k → ¬ E k) : CaAt w' v a U := by
  obtain ⟨p, g, free, sh, pl, st, c, hb, H, h1, h2, rfl⟩ := h
  exact ⟨p, g, free, sh, pl, st, c, hf.blk hb (hE v (.inl rfl)), H.far hf (fun k hk => hE k (.inr hk)), h1, h2, rfl⟩
section
variable {w z : World} {p v : Nat} {g : Nat → Nat} {tk : Nat} {wel fen : Bool} {free : List Nat} {sh : Nat → List (Nat × Value)} {st : Mod.Stv} {c : Av} {a a' : Mod.Ag} {U : Nat → Prop} {N : Nat}
theorem ca_not (H : PaAt w p g tk wel fen free sh st c) {q : Nat} (hb : w.heap[v]? = some (.cells #[ptrTo q] 90 (0, 0))) : ¬ PaU p c v :=
  pa_not_cells H hb (by decide) (by decide) (by decide) (by decide) (by decide) (by decide) (by decide)
theorem caAt_is (hb : w.heap[v]? = some (.cells #[ptrTo p] 90 (0, 0))) (hnv : ¬ PaU p c v) (h : AgIs w z p a' c) :
    ∃ U', CaAt z v a' U' ∧ Far (fun k => k = v ∨ PaU p c k) w z ∧ ∀ k, U' k → (k = v ∨ PaU p c k) ∨ w.heap.size ≤ k := by
  obtain ⟨g, free, sh, pl, st, ⟨c', K, F', Nn, s1, s2⟩, hs, O⟩ := h
  refine ⟨_, ⟨p, g, free, sh, pl, st, c', F'.blk hb hnv, K, hs, O, rfl⟩, F'.mono (fun _ _ h => .inr h), ?_⟩
  rintro k (rfl | hk)
  · exact .inl (.inl rfl)
  · exact (Nn k hk).imp .inr id
theorem caSubmit_any (i : Int) (s : ByteArray) (h : CaAt w v a U) (G : AgGood N a) (hN : N < 1000000000) :
    Calls Tryz.prog 21 #[ptrTo v, .int .i64 i, .string s] w fun r w' =>
      ∃ U', r = .returned (.int .i64 (a.refuses i s.size)) ∧ CaAt w' v (agSubmits a i s) U' ∧ Far U w w' ∧ ∀ k, U' k → U k ∨ w.heap.size ≤ k := by
  obtain ⟨p, g, free, sh, pl, st, c, hb, H, hs, O, rfl⟩ := h
  have c0 : w.cell? ⟨v, 0, none⟩ = some (ptrTo p) := blk_cell (i := 0) hb
  have hA : Calls Tryz.prog 52 #[ptrTo p, .int .i64 i, .string s] w fun r z => r = .returned (.int .i64 (a.refuses i s.size)) ∧ AgIs w z p (agSubmits a i s) c := by
    unfold agSubmits
    by_cases h0 : a.refuses i s.size = 0
    · rw [if_pos h0]
      obtain ⟨⟨h1, h2⟩, h3, h4⟩ := refuses_0 h0
      obtain ⟨n, rfl⟩ := Int.eq_ofNat_of_zero_le h1
      refine (agSubmit_ok H hs O (i := n) (by omega) s h3 h4 (by have := G.sum n (by omega); omega)).mono ?_
      rintro r z ⟨rfl, h⟩
      exact ⟨by rw [h0], h⟩
    · rw [if_neg h0]
      refine (agSubmit_no H hs O i s h0).mono ?_
      rintro r z ⟨rfl, rfl⟩
      exact ⟨rfl, agIs_refl H hs O⟩
  have HA := hide hA
  have HB := hide (And.intro hb (ca_not H hb))
  generalize agSubmits a i s = a2 at *
  generalize a.refuses i s.size = e at *
  clear H O hs hb hA
  unfold ptrTo at *
  go_enter Tryz.func21, Tryz.ntmps21
  go_wp2_with (go_at_call 52; refine (unhide HA).mono ?_; rintro r y ⟨rfl, k1⟩; replace k1 := hide k1)
  go_ret
  obtain ⟨U', h1, h2, h3⟩ := caAt_is (unhide HB).1 (unhide HB).2 (unhide k1)
  exact ⟨U', rfl, h1, h2, h3⟩
theorem caDeliver_any (bs : Value) (l : List UInt8) (h : CaAt w v a U) (G : AgGood N a) (hN : N < 1000000000) (hat : BytesAt w bs l) :
    Calls Tryz.prog 28 #[ptrTo v, bs] w fun r w' =>
      ∃ U', r = .returned (.int .i64 (agSays a l).1) ∧ CaAt w' v (agSays a l).2 U' ∧ Far U w w' ∧ ∀ k, U' k → U k ∨ w.heap.size ≤ k := by
  obtain ⟨p, g, free, sh, pl, st, c, hb, H, hs, O, rfl⟩ := h
  have c0 : w.cell? ⟨v, 0, none⟩ = some (ptrTo p) := blk_cell (i := 0) hb
  have HA := hide (agDeliver_any H hs O (fun i hi => by have := G.sum i hi; omega) bs l hat)
  have HB := hide (And.intro hb (ca_not H hb))
  generalize (agSays a l).2 = a2 at *
  generalize (agSays a l).1 = e at *
  clear H O hs hb hat
  unfold ptrTo at c0 HA
  show Calls Tryz.prog _ #[.pointer (some ⟨v, 0, none⟩), bs] w _
  go_enter Tryz.func28, Tryz.ntmps28
  go_wp2_with (go_at_call 57; refine (unhide HA).mono ?_; rintro r y ⟨rfl, k1⟩; replace k1 := hide k1)
  go_ret
  obtain ⟨U', h1, h2, h3⟩ := caAt_is (unhide HB).1 (unhide HB).2 (unhide k1)
  exact ⟨U', rfl, h1, h2, h3⟩
theorem caTick_any (h : CaAt w v a U) (G : AgGood N a) (hN : N < 1000000000) :
    Calls Tryz.prog 24 #[ptrTo v] w fun r w' =>
      ∃ lv fs U', r = .returned lv ∧ FramesOut w.heap.size w' lv fs (a.tick.2.map fun l => ⟨l.toArray⟩) U' ∧ CaAt w' v a.tick.1 U' ∧ Far U w w' ∧ ∀ k, U' k → U k ∨ w.heap.size ≤ k := by
  obtain ⟨p, g, free, sh, pl, st, c, hb, H, hs, O, rfl⟩ := h
  have c0 : w.cell? ⟨v, 0, none⟩ = some (ptrTo p) := blk_cell (i := 0) hb
  have HA := hide (agTick_any H hs O G hN)
  have hvl := lt_of_block hb
  have HB := hide (And.intro hb (ca_not H hb))
  generalize a.tick.1 = a2 at *
  generalize a.tick.2 = fr at *
  clear H O hs hb
  unfold ptrTo at *
  go_enter Tryz.func24, Tryz.ntmps24
  go_wp2_with (go_at_call 53; refine (unhide HA).mono ?_; rintro r y ⟨lv, fs, rfl, k1⟩; replace k1 := hide k1)
  go_ret
  obtain ⟨c', k1, ⟨g2, free2, sh2, pl2, st2, K, hs2, O2⟩, F, Nn, s1, s2⟩ := unhide k1
  obtain ⟨hb, hnv⟩ := unhide HB
  refine ⟨lv, fs, fun k => k = v ∨ PaU p c' k, rfl, k1.apartU ?_, ⟨p, g2, free2, sh2, pl2, st2, c', F.blk hb hnv, K, hs2, O2, rfl⟩, F.mono (fun _ _ h => .inr h), ?_⟩
  · rintro k hk (rfl | hu)
    · have := (k1.lt k hk).1; omega
    · exact k1.clear k hk hu
  · rintro k (rfl | hk)
    · exact .inl (.inl rfl)
    · exact (Nn k hk).imp .inr id
theorem caEpoch_any (h : CaAt w v a U) :
    Calls Tryz.prog 39 #[ptrTo v] w fun r w' => r = .returned (.int .i64 a.epoch) ∧ Below w.heap.size w w' := by
  obtain ⟨p, g, free, sh, pl, st, c, hb, H, hs, O, rfl⟩ := h
  have c0 : w.cell? ⟨v, 0, none⟩ = some (ptrTo p) := blk_cell (i := 0) hb
  have hD := agEpoch_any H
  rw [O.ep] at hD
  have HD := hide hD
  clear H hb hD O
  unfold ptrTo at *
  go_enter Tryz.func39, Tryz.ntmps39
  go_wp2_with (go_at_call 66; refine (unhide HD).mono ?_; rintro r y ⟨rfl, hy⟩; obtain rfl : w = y := hy.symm)
  go_ret
  exact ⟨rfl, Below.refl _ _⟩
theorem caSpool_any (i : Int) (h : CaAt w v a U) :
    Calls Tryz.prog 26 #[ptrTo v, .int .i64 i] w fun r w' =>
      ∃ lv, r = .returned lv ∧ w'.ownsRow w.heap.size 9 1 lv (agSpools a i).length (strs (agSpools a i)) ∧ Below w.heap.size w w' := by
  obtain ⟨p, g, free, sh, pl, st, c, hb, H, hs, O, rfl⟩ := h
  have c0 : w.cell? ⟨v, 0, none⟩ = some (ptrTo p) := blk_cell (i := 0) hb
  have HD := hide (agSpool_any H hs O i)
  generalize agSpools a i = xs at *
  clear H hb O
  unfold ptrTo at *
  go_enter Tryz.func26, Tryz.ntmps26
  go_wp2_with (go_at_call 55; refine (unhide HD).mono ?_; rintro r y ⟨lv, rfl, k1, k2⟩; replace k1 := hide k1; replace k2 := hide k2)
  go_ret
  exact ⟨lv, rfl, unhide k1, unhide k2⟩
theorem caOpen_zero {w : World} (bs : Value) (hat : BytesAt w bs (List.replicate 1664 0)) :
    Calls Tryz.prog 37 #[bs] w fun r w' =>
      ∃ v U, r = .returned (.tuple #[ptrTo v, .int .i64 0]) ∧ CaAt w' v { epoch := 1, ticks := 0, welcome := false, fenced := false, fl := fun _ => { base := 0, kept := [], held := [] } } U ∧ Below w.heap.size w w' ∧ ∀ k, U k → w.heap.size ≤ k := by
  obtain ⟨m, hm⟩ : ∃ m, m = 26 := ⟨_, rfl⟩
  have hm64 : 1664 = m * 64 := by omega
  rw [hm64] at hat
  have HD := hide (agOpen_zero w bs m hm hat)
  clear hat hm64 hm
  unfold ptrTo at *
  go_enter Tryz.func37, Tryz.ntmps37
  go_wp2_with (go_at_call 64; refine (unhide HD).mono ?_; rintro r y ⟨p, st, c, rfl, K, hs, hop, hb, hU⟩; replace K := hide K; replace hb := hide hb; replace hU := hide hU)
  go_ret2
  have hb := unhide hb
  refine ⟨y.heap.size, _, rfl, ⟨p, _, _, _, _, st, c, heap_alloc_new _ _, (unhide K).below ((Below.refl _ _).alloc (Nat.le_refl _) _), hs, by rw [hop]; exact onAg_zero, rfl⟩, hb.alloc hb.size _, ?_⟩
  rintro k (rfl | hk)
  · exact hb.size
  · exact (unhide hU) k hk
end
/-- The program's agent. -/
def theAgent : AgentC 1000000000 where
  At := CaAt
  lt := caAt_lt
  far := caAt_far
  submit := caSubmit_any
  deliver := caDeliver_any
  tick := caTick_any
  epoch := caEpoch_any
  spool := caSpool_any
  opened := caOpen_zero
end Go.Proofs.YtamafdcnbcoegaaGreat
namespace Go.Proofs.YtamafdcnbcoegaaGreat
open Go.RowKit

theorem sendTo_small (e s : Nat) (f : Mod.Flow) (t : Nat) (hb : ∀ x ∈ f.kept, x.1.size ≤ 20) : ∀ i, (Mod.sendTo e s f t i).2.length ≤ i ∧ ∀ l ∈ (Mod.sendTo e s f t i).2, l.length ≤ 35
  | 0 => ⟨Nat.le_refl _, fun l hl => by cases hl⟩
  | i + 1 => by
    obtain ⟨h1, h2⟩ := sendTo_small e s f t hb i
    rw [Mod.sendTo]
    split
    · exact ⟨by omega, h2⟩
    · rename_i x hx
      split
      · refine ⟨by simp; omega, fun l hl => ?_⟩
        rw [List.mem_append, List.mem_singleton] at hl
        rcases hl with hl | rfl
        · exact h2 l hl
        · have := hb x (List.mem_of_getElem? hx)
          rw [Wire.length_bytes]
          simp
          omega
      · exact ⟨by omega, h2⟩
theorem tick_small {N : Nat} {a : Mod.Ag} (G : AgGood N a) : a.tick.2.length ≤ 12 ∧ ∀ l ∈ a.tick.2, l.length ≤ 35 := by
  unfold Mod.Ag.tick
  split
  · exact ⟨by simp, fun l hl => by cases hl⟩
  · split
    · refine ⟨by simp, fun l hl => ?_⟩
      rw [List.mem_singleton] at hl
      rw [hl, Wire.length_bytes]
      simp
    · have h := fun s (hs : s < 3) => sendTo_small a.epoch s (a.fl s) (a.ticks + 1) (fun x hx => (G.bod s hs x hx).1) 4
      have h0 := h 0 (by omega)
      have h1 := h 1 (by omega)
      have h2 := h 2 (by omega)
      simp only [Mod.sendOut, List.nil_append]
      refine ⟨by simp only [List.length_append]; omega, fun l hl => ?_⟩
      rw [List.mem_append, List.mem_append] at hl
      rcases hl with (hl | hl) | hl
      · exact h0.2 l hl
      · exact h1.2 l hl
      · exact h2.2 l hl

end Go.Proofs.YtamafdcnbcoegaaGreat
namespace Go.Proofs.YtamafdcnbcoegaaGreat
open Go.RowKit

theorem FramesOut.off {B : Nat} {w : World} {lv : Value} {fs : List Value} {Fl : List ByteArray} {U : Nat → Prop} (h : FramesOut B w lv fs Fl U) : FramesOut B w lv fs Fl (fun _ => False) := ⟨h.len, h.row, h.each, h.apart, fun _ _ e => e⟩
theorem skGood_says {a : Mod.Sk} (G : SkGood a) (l : List UInt8) : SkGood (skSays a l).2.1 := by
  unfold skSays
  cases hr : Wire.reads l
  · exact G
  · rw [if_pos rfl]
    have hp := hr
    unfold Wire.reads at hp
    rw [Bool.and_eq_true] at hp
    have hp2 := proper_small hp.2
    exact skGood_reply G _ _ _ _ _ (by have := hp2.2.2.1; omega) hp2.2.1.2
theorem agGood_says {N : Nat} {a : Mod.Ag} (G : AgGood N a) (l : List UInt8) : AgGood N (agSays a l).2 := by
  unfold agSays
  split
  · exact agGood_deliver G _ _ _ _ _
  · exact G
theorem agGood_submits {N : Nat} {a : Mod.Ag} (G : AgGood N a) (i : Int) (s : ByteArray) : AgGood (N + 1) (agSubmits a i s) := by
  unfold agSubmits
  split
  · rename_i h
    exact agGood_submit G _ _ (refuses_0 h).2.1
  · exact G.mono (Nat.le_succ _)
/-- Blocks below B and those of G are as they were. -/
def Same (B : Nat) (G : Nat → Prop) (x y : World) : Prop := Far (fun j => B ≤ j ∧ ¬ G j) x y
theorem Same.refl (B : Nat) (G : Nat → Prop) (x : World) : Same B G x x := Far.refl _ _
theorem Same.trans {B : Nat} {G G' : Nat → Prop} {x y z : World} (h : Same B G x y) (h' : Same B G' y z) (hG : ∀ j, j < x.heap.size → G j → G' j) : Same B G x z :=
  Far.trans h h' (fun j hj e => ⟨e.1, fun g => e.2 (hG j hj g)⟩)
theorem Same.bel {B : Nat} {G : Nat → Prop} {x y : World} (h : Same B G x y) (hB : B ≤ x.heap.size) : Below B x y := Far.below h hB (fun k hk e => by omega)
/-- The two ends; G: blocks that are none of theirs. -/
structure Ends {top : Nat} (C : AgentC top) (D : SinkC) (B N : Nat) (x : World) (va vs : Nat) (a : Mod.Ag) (k : Mod.Sk) (G : Nat → Prop) : Prop where
  all : ∃ (U V : Nat → Prop), C.At x va a U ∧ D.At x vs k V ∧ (∀ j, U j → ¬ V j) ∧ (∀ j, U j → B ≤ j) ∧ (∀ j, V j → B ≤ j) ∧ (∀ j, G j → j < x.heap.size ∧ ¬ U j ∧ ¬ V j)
  ga : AgGood N a
  gk : SkGood k
  bx : B ≤ x.heap.size
section
variable {top : Nat} {C : AgentC top} {D : SinkC} {B N : Nat} {x y : World} {va vs : Nat} {a : Mod.Ag} {k : Mod.Sk} {G : Nat → Prop}
/-- Blocks of G, blocks below B and new blocks may be written. -/
theorem Ends.far {E : Nat → Prop} (h : Ends C D B N x va vs a k G) (hF : Far E x y) (hE : ∀ j, E j → G j ∨ j < B) : Ends C D B N y va vs a k G := by
  obtain ⟨U, V, h1, h2, h3, h4, h5, h6⟩ := h.all
  refine ⟨⟨U, V, C.far h1 hF (fun j hu e => ?_), D.far h2 hF (fun j hu e => ?_), h3, h4, h5, fun j hj => ⟨Nat.lt_of_lt_of_le (h6 j hj).1 hF.size, (h6 j hj).2⟩⟩, h.ga, h.gk, Nat.le_trans h.bx hF.size⟩
  · rcases hE j e with e | e
    · exact (h6 j e).2.1 hu
    · have := h4 j hu; omega
  · rcases hE j e with e | e
    · exact (h6 j e).2.2 hu
    · have := h5 j hu; omega
theorem Ends.below (h : Ends C D B N x va vs a k G) (hb : Below x.heap.size x y) : Ends C D B N y va vs a k G := h.far (E := fun _ => False) (far_below hb) (fun _ e => e.elim)
theorem Ends.mono {G' : Nat → Prop} {M : Nat} (h : Ends C D B N x va vs a k G) (hG : ∀ j, G' j → G j) (hM : N ≤ M) : Ends C D B M x va vs a k G' := by
  obtain ⟨U, V, h1, h2, h3, h4, h5, h6⟩ := h.all
  exact ⟨⟨U, V, h1, h2, h3, h4, h5, fun j hj => h6 j (hG j hj)⟩, h.ga.mono hM, h.gk, h.bx⟩
/-- New blocks are none of theirs. -/
theorem Ends.more (h : Ends C D B N x va vs a k G) (hb : Below x.heap.size x y) : Ends C D B N y va vs a k (fun j => G j ∨ (x.heap.size ≤ j ∧ j < y.heap.size)) := by
  have h' := h.below hb
  obtain ⟨U, V, h1, h2, h3, h4, h5, h6⟩ := h.all
  have hu := C.lt h1
  have hv := D.lt h2
  have F : Far (fun _ => False) x y := far_below hb
  refine ⟨⟨U, V, C.far h1 F (fun _ _ e => e), D.far h2 F (fun _ _ e => e), h3, h4, h5, fun j hj => ?_⟩, h.ga, h.gk, h'.bx⟩
  rcases hj with hj | hj
  · exact ⟨Nat.lt_of_lt_of_le (h6 j hj).1 hb.size, (h6 j hj).2⟩
  · exact ⟨hj.2, fun e => by have := hu j e; omega, fun e => by have := hv j e; omega⟩
theorem Ends.submit (h : Ends C D B N x va vs a k G) (hN : N < top) (i : Int) (s : ByteArray) :
    Calls Tryz.prog 21 #[ptrTo va, .int .i64 i, .string s] x fun r y => r = .returned (.int .i64 (a.refuses i s.size)) ∧ Ends C D B (N + 1) y va vs (agSubmits a i s) k G ∧ Same B G x y := by
  obtain ⟨U, V, h1, h2, h3, h4, h5, h6⟩ := h.all
  have hv := D.lt h2
  refine (C.submit i s h1 h.ga hN).mono ?_
  rintro r y ⟨U', rfl, k1, k2, k3⟩
  have hsz := k2.size
  have hu := C.lt k1
  refine ⟨rfl, ⟨⟨U', V, k1, D.far h2 k2 (fun j hj e => h3 j e hj), fun j hj e => ?_, fun j hj => ?_, h5, fun j hj => ⟨Nat.lt_of_lt_of_le (h6 j hj).1 hsz, fun e => ?_, (h6 j hj).2.2⟩⟩, agGood_submits h.ga i s, h.gk, Nat.le_trans h.bx hsz⟩, k2.mono (fun j _ e => ⟨h4 j e, fun g => (h6 j g).2.1 e⟩)⟩
  · rcases k3 j hj with e' | e'
    · exact h3 j e' e
    · have := hv j e; omega
  · rcases k3 j hj with e' | e'
    · exact h4 j e'
    · have := h.bx; omega
  · rcases k3 j e with e' | e'
    · exact (h6 j hj).2.1 e'
    · have := (h6 j hj).1; omega
theorem Ends.hear (h : Ends C D B N x va vs a k G) (hN : N < top) (bs : Value) (l : List UInt8) (hat : BytesAt x bs l) :
    Calls Tryz.prog 28 #[ptrTo va, bs] x fun r y => r = .returned (.int .i64 (agSays a l).1) ∧ Ends C D B N y va vs (agSays a l).2 k G ∧ Same B G x y := by
  obtain ⟨U, V, h1, h2, h3, h4, h5, h6⟩ := h.all
  have hv := D.lt h2
  refine (C.deliver bs l h1 h.ga hN hat).mono ?_
  rintro r y ⟨U', rfl, k1, k2, k3⟩
  have hsz := k2.size
  have hu := C.lt k1
  refine ⟨rfl, ⟨⟨U', V, k1, D.far h2 k2 (fun j hj e => h3 j e hj), fun j hj e => ?_, fun j hj => ?_, h5, fun j hj => ⟨Nat.lt_of_lt_of_le (h6 j hj).1 hsz, fun e => ?_, (h6 j hj).2.2⟩⟩, agGood_says h.ga l, h.gk, Nat.le_trans h.bx hsz⟩, k2.mono (fun j _ e => ⟨h4 j e, fun g => (h6 j g).2.1 e⟩)⟩
  · rcases k3 j hj with e' | e'
    · exact h3 j e' e
    · have := hv j e; omega
  · rcases k3 j hj with e' | e'
    · exact h4 j e'
    · have := h.bx; omega
  · rcases k3 j e with e' | e'
    · exact (h6 j hj).2.1 e'
    · have := (h6 j hj).1; omega
theorem Ends.tick (h : Ends C D B N x va vs a k G) (hN : N < top) :
    Calls Tryz.prog 24 #[ptrTo va] x fun r y => ∃ lv fs, r = .returned lv ∧ FramesOut x.heap.size y lv fs (a.tick.2.map fun l => ⟨l.toArray⟩) (fun _ => False) ∧ Ends C D B (N + 1) y va vs a.tick.1 k (fun j => G j ∨ Outs lv fs j) ∧ Same B G x y := by
  obtain ⟨U, V, h1, h2, h3, h4, h5, h6⟩ := h.all
  have hv := D.lt h2
  refine (C.tick h1 h.ga hN).mono ?_
  rintro r y ⟨lv, fs, U', rfl, hO, k1, k2, k3⟩
  have hsz := k2.size
  have hu := C.lt k1
  refine ⟨lv, fs, rfl, hO.off, ⟨⟨U', V, k1, D.far h2 k2 (fun j hj e => h3 j e hj), fun j hj e => ?_, fun j hj => ?_, h5, fun j hj => ?_⟩, agGood_tick h.ga, h.gk, Nat.le_trans h.bx hsz⟩, k2.mono (fun j _ e => ⟨h4 j e, fun g => (h6 j g).2.1 e⟩)⟩
  · rcases k3 j hj with e' | e'
    · exact h3 j e' e
    · have := hv j e; omega
  · rcases k3 j hj with e' | e'
    · exact h4 j e'
    · have := h.bx; omega
  · rcases hj with hj | hj
    · refine ⟨Nat.lt_of_lt_of_le (h6 j hj).1 hsz, fun e => ?_, (h6 j hj).2.2⟩
      rcases k3 j e with e' | e'
      · exact (h6 j hj).2.1 e'
      · have := (h6 j hj).1; omega
    · have hl := hO.lt j hj
      exact ⟨hl.2, hO.clear j hj, fun e => by have := hv j e; omega⟩
theorem Ends.take (h : Ends C D B N x va vs a k G) (bs : Value) (l : List UInt8) (hat : BytesAt x bs l) :
    Calls Tryz.prog 27 #[ptrTo vs, bs] x fun r y => ∃ lv fs, r = .returned (.tuple #[lv, .int .i64 (skSays k l).1]) ∧ FramesOut x.heap.size y lv fs (skSays k l).2.2 (fun _ => False) ∧ Ends C D B N y va vs a (skSays k l).2.1 (fun j => G j ∨ Outs lv fs j) ∧ Same B G x y := by
  obtain ⟨U, V, h1, h2, h3, h4, h5, h6⟩ := h.all
  have hu := C.lt h1
  refine (D.deliver bs l h2 h.gk hat).mono ?_
  rintro r y ⟨lv, fs, V', rfl, hO, k1, k2, k3⟩
  have hsz := k2.size
  refine ⟨lv, fs, rfl, hO.off, ⟨⟨U, V', C.far h1 k2 (fun j hj e => h3 j hj e), k1, fun j hj e => ?_, h4, fun j hj => ?_, fun j hj => ?_⟩, h.ga, skGood_says h.gk l, Nat.le_trans h.bx hsz⟩, k2.mono (fun j _ e => ⟨h5 j e, fun g => (h6 j g).2.2 e⟩)⟩
  · rcases k3 j e with e' | e'
    · exact h3 j hj e'
    · have := hu j hj; omega
  · rcases k3 j hj with e' | e'
    · exact h5 j e'
    · have := h.bx; omega
  · rcases hj with hj | hj
    · refine ⟨Nat.lt_of_lt_of_le (h6 j hj).1 hsz, (h6 j hj).2.1, fun e => ?_⟩
      rcases k3 j e with e' | e'
      · exact (h6 j hj).2.2 e'
      · have := (h6 j hj).1; omega
    · have hl := hO.lt j hj
      exact ⟨hl.2, fun e => by have := hu j e; omega, hO.clear j hj⟩
theorem Ends.spool (h : Ends C D B N x va vs a k G) (i : Int) :
    Calls Tryz.prog 26 #[ptrTo va, .int .i64 i] x fun r y => ∃ lv, r = .returned lv ∧ y.ownsRow x.heap.size 9 1 lv (agSpools a i).length (strs (agSpools a i)) ∧ Ends C D B N y va vs a k (fun j => G j ∨ (x.heap.size ≤ j ∧ j < y.heap.size)) ∧ Below x.heap.size x y := by
  obtain ⟨U, V, h1, _⟩ := h.all
  refine (C.spool i h1).mono ?_
  rintro r y ⟨lv, rfl, k1, k2⟩
  exact ⟨lv, rfl, k1, h.more k2, k2⟩
end
end Go.Proofs.YtamafdcnbcoegaaGreat
namespace Go.Proofs.YtamafdcnbcoegaaGreat
open Go.RowKit

def pickN (c : Int) (n : Nat) : Nat := ((if c < 0 then -(c + 1) else c) % (n : Int)).toNat
theorem pickN_lt (c : Int) {n : Nat} (hn : 0 < n) : pickN c n < n := by
  unfold pickN
  have h1 := Int.emod_lt_of_pos (if c < 0 then -(c + 1) else c) (show (0 : Int) < n by omega)
  have h2 := Int.emod_nonneg (if c < 0 then -(c + 1) else c) (show (n : Int) ≠ 0 by omega)
  omega
end Go.Proofs.YtamafdcnbcoegaaGreat
namespace Go.Proofs.YtamafdcnbcoegaaGreat
open Go.RowKit

set_option maxRecDepth 100000 in
set_option maxHeartbeats 1000000 in
theorem keepAgent_any {top : Nat} (C : AgentC top) (w : World) :
    Calls Tryz.prog 18 #[] w fun r y => ∃ v U, r = .returned (ptrTo v) ∧ C.At y v { epoch := 1, ticks := 0, welcome := false, fenced := false, fl := fun _ => { base := 0, kept := [], held := [] } } U ∧ Below w.heap.size w y ∧ ∀ j, U j → w.heap.size ≤ j := by
  go_enter Tryz.func18, Tryz.ntmps18
  go_wp2_with (at_make; refine wp_make_full rfl _ _ rfl w.heap.size _ _ _ _ 1664 rfl rfl rfl rfl (by omega) (Nat.le_refl _) ?_; intro w1 hown1 hg1; have b1 := hide (below_grown_new (B := w.heap.size) hg1 (Nat.le_refl _) (by simp)); have HA := hide (Owns.at hown1); clear hown1 hg1)
  refine (C.opened _ (unhide HA)).mono ?_
  rintro r y ⟨v, U, rfl, k1, k2, k3⟩
  have HK := hide (And.intro k1 (And.intro k2 k3))
  clear k1 k2 k3
  unfold ptrTo
  go_wp2
  go_ret
  obtain ⟨k1, k2, k3⟩ := unhide HK
  have hb := unhide b1
  exact ⟨v, U, rfl, k1, hb.trans (k2.mono hb.size), fun j hj => Nat.le_trans hb.size (k3 j hj)⟩
set_option maxRecDepth 100000 in
set_option maxHeartbeats 1000000 in
theorem keepSink_any (D : SinkC) (w : World) :
    Calls Tryz.prog 19 #[] w fun r y => ∃ v U, r = .returned (ptrTo v) ∧ D.At y v { epoch := 0, logs := fun _ => [], held := [] } U ∧ Below w.heap.size w y ∧ ∀ j, U j → w.heap.size ≤ j := by
  go_enter Tryz.func19, Tryz.ntmps19
  go_wp2_with (at_make; refine wp_make_full rfl _ _ rfl w.heap.size _ _ _ _ 7808 rfl rfl rfl rfl (by omega) (Nat.le_refl _) ?_; intro w1 hown1 hg1; have b1 := hide (below_grown_new (B := w.heap.size) hg1 (Nat.le_refl _) (by simp)); have HA := hide (Owns.at hown1); clear hown1 hg1)
  refine (D.opened _ (unhide HA)).mono ?_
  rintro r y ⟨v, U, rfl, k1, k2, k3⟩
  have HK := hide (And.intro k1 (And.intro k2 k3))
  clear k1 k2 k3
  unfold ptrTo
  go_wp2
  go_ret
  obtain ⟨k1, k2, k3⟩ := unhide HK
  have hb := unhide b1
  exact ⟨v, U, rfl, k1, hb.trans (k2.mono hb.size), fun j hj => Nat.le_trans hb.size (k3 j hj)⟩

set_option maxRecDepth 100000 in
theorem keepPick_any (c : Int) (n : Nat) (w : World) (hc : -9223372036854775808 ≤ c ∧ c ≤ 9223372036854775807) (hn : 0 < n) (hn6 : n ≤ 100000000) :
    Calls Tryz.prog 22 #[.int .i64 c, .int .i64 n] w fun r w' => r = .returned (.int .i64 (pickN c n)) ∧ w' = w := by
  have hn0 : ¬ (n : Int) = 0 := by omega
  have hn1 : ¬ (n : Int) = -1 := by omega
  have hb : ((n : Int) == 0) = false := by simp; omega
  have HJ : Hid ((pickN c n : Int) = (if c < 0 then -(c + 1) else c) % (n : Int)) := by
    have h2 := Int.emod_nonneg (if c < 0 then -(c + 1) else c) hn0
    unfold pickN
    show _ = _
    omega
  generalize pickN c n = j at HJ
  obtain ⟨d, hd⟩ : ∃ d, d = if c < 0 then -(c + 1) else c := ⟨_, rfl⟩
  rw [← hd] at HJ
  have hd0 : 0 ≤ d ∧ d ≤ 9223372036854775807 := by rw [hd]; split <;> omega
  by_cases h : c < 0
  · rw [if_pos h] at hd
    have hw1 : IntKind.i64.wrap (c + 1) = c + 1 := by rw [IntKind.wrap_i64]; omega
    have hw2 : IntKind.i64.wrap (-(c + 1)) = d := by rw [IntKind.wrap_i64]; omega
    clear hd
    go_enter Tryz.func22, Tryz.ntmps22
    go_wp2
    go_ret
    exact ⟨ret_i (unhide HJ).symm, rfl⟩
  · rw [if_neg h] at hd
    subst hd
    go_enter Tryz.func22, Tryz.ntmps22
    go_wp2
    go_ret
    exact ⟨ret_i (unhide HJ).symm, rfl⟩

/-- A number's digits. -/
def digL (n : Nat) : List UInt8 := if n < 10 then [UInt8.ofNat (48 + n)] else digL (n / 10) ++ [UInt8.ofNat (48 + n % 10)]
def digB (n : Nat) : ByteArray := ⟨(digL n).toArray⟩
theorem digL_len : ∀ (k n : Nat), n < 10 ^ (k + 1) → (digL n).length ≤ k + 1
  | 0, n, h => by
    rw [digL, if_pos (by simpa using h)]
    simp
  | k + 1, n, h => by
    rw [digL]
    split
    · simp
    · have := digL_len k (n / 10) (by rw [Nat.pow_succ] at h; omega)
      simp
      omega
theorem digB_size {n : Nat} (h : n < 10000000000) : (digB n).size ≤ 10 := by
  have := digL_len 9 n (by omega)
  simpa [digB, ByteArray.size] using this
theorem digB_eq (n : Nat) : digB n = if n < 10 then ⟨#[UInt8.ofNat (48 + n % 10)]⟩ else digB (n / 10) ++ ⟨#[UInt8.ofNat (48 + n % 10)]⟩ := by
  unfold digB
  conv => lhs; rw [digL]
  split
  · rename_i h
    rw [Nat.mod_eq_of_lt h]
  · apply ByteArray.ext
    simp
set_option maxRecDepth 100000 in
set_option maxHeartbeats 1000000 in
theorem digits_any (n : Nat) (w : World) (hn : n ≤ 1000000000) : Calls Tryz.prog 23 #[.int .i64 n] w fun r y => r = .returned (.string (digB n)) ∧ Below w.heap.size w y := by
  have ih : ¬ n < 10 → ∀ x, Hid (Calls Tryz.prog 23 #[.int .i64 (n / 10 : Nat)] x fun r y => r = .returned (.string (digB (n / 10))) ∧ Below x.heap.size x y) := fun h x => digits_any (n / 10) x (by omega)
  have hconv : (convert 44 9 (.slice (some ⟨w.heap.size, 0, none⟩) 1 1)).run Tryz.prog (w.alloc (.cells #[.int .u8 (48 + (n : Int) % 10)] 5)) = .ok (.string ⟨#[UInt8.ofNat (48 + n % 10)]⟩) (w.alloc (.cells #[.int .u8 (48 + (n : Int) % 10)] 5)) :=
    conv_str (l := [UInt8.ofNat (48 + n % 10)]) (b := w.heap.size) (off := 0) (n := 1) (cap := 1) rfl (fun i hi => by
      obtain rfl : i = 0 := by omega
      rw [blk_cell (heap_alloc_new w _)]
      simp only [List.getD_cons_zero, UInt8.toNat_ofNat']
      have : ((48 + n % 10) % 2 ^ 8 : Nat) = 48 + n % 10 := by omega
      rw [this]
      simp)
  have hb := hide ((Below.refl w.heap.size w).alloc (Nat.le_refl _) (.cells #[.int .u8 (48 + (n : Int) % 10)] 5))
  have hd0 : Hid (digB n = if n < 10 then ⟨#[UInt8.ofNat (48 + n % 10)]⟩ else digB (n / 10) ++ ⟨#[UInt8.ofNat (48 + n % 10)]⟩) := digB_eq n
  obtain ⟨cc, hcc⟩ : ∃ cc, cc = UInt8.ofNat (48 + n % 10) := ⟨_, rfl⟩
  rw [← hcc] at hconv hd0
  clear hcc
  by_cases h : n < 10
  · have hi : (n : Int) < 10 := by omega
    have hd : Hid (digB n = ⟨#[cc]⟩) := (unhide hd0).trans (if_pos h)
    clear ih
    go_enter Tryz.func23, Tryz.ntmps23
    go_wp2
    go_ret
    exact ⟨by rw [unhide hd]; rfl, unhide hb⟩
  · have hi : ¬ (n : Int) < 10 := by omega
    have hd : Hid (digB n = digB (n / 10) ++ ⟨#[cc]⟩) := (unhide hd0).trans (if_neg h)
    clear hd0
    have ih := ih h
    have hdz : (digB (n / 10)).size ≤ 10 := digB_size (by omega)
    generalize digB (n / 10) = db at ih hd hdz
    have hdz2 : ¬ 9223372036854775807 < db.size + 1 := by omega
    obtain ⟨m, hm⟩ : ∃ m, m = n / 10 := ⟨_, rfl⟩
    rw [← hm] at ih
    have hq : (n : Int).tdiv 10 = (m : Int) := by rw [Int.tdiv_eq_ediv_of_nonneg (by omega)]; omega
    have hq2 : (n : Int) / 10 = (m : Int) := by omega
    have hw : IntKind.i64.wrap (m : Int) = (m : Int) := by rw [IntKind.wrap_i64]; omega
    clear hm
    go_enter Tryz.func23, Tryz.ntmps23
    go_wp2_with (go_at_call 23; refine (unhide (ih _)).mono ?_; rintro r y ⟨rfl, hy⟩; have HY := hide ((unhide hb).trans (hy.mono (unhide hb).size)); clear hy)
    go_ret
    exact ⟨by rw [unhide hd]; rfl, unhide HY⟩
  termination_by n
  decreasing_by omega

theorem str_eq_false {a b : ByteArray} (h : a ≠ b) : (a.toList == b.toList) = false := by
  rw [toList_data, toList_data]
  cases hc : (a.data.toList == b.data.toList) with
  | false => rfl
  | true =>
    rw [beq_iff_eq] at hc
    exact absurd (by cases a; cases b; simp at hc; rw [hc]) h
set_option maxRecDepth 100000 in
set_option maxHeartbeats 2000000 in
theorem keepSame_any (w : World) (v u : Value) (A B : List ByteArray) (hv : ListAt w v (strs A)) (hu : ListAt w u (strs B)) (hz : A.length ≤ 1000000000) :
    Calls Tryz.prog 33 #[v, u] w fun r y => r = .returned (.bool (decide (A = B))) ∧ ∃ q, y = w.drewN q := by
  obtain ⟨la, lc, hlv, hl1, hl2, hl3⟩ := hv
  obtain ⟨ma, mc, hmv, hm1, hm2, hm3⟩ := hu
  rw [strs_length] at hlv hl1 hl3 hmv hm1 hm3
  subst hlv hmv
  have HL3 := hide hl3
  have HM3 := hide hm3
  clear hl3 hm3
  by_cases hlen : A.length = B.length
  · rw [← hlen] at HM3 hm1 ⊢
    have hne : ((A.length : Int) != (A.length : Int)) = false := by simp
    go_enter Tryz.func33, Tryz.ntmps33
    go_wp2
    go_loopw [5] (fun i wr => ∃ k : Nat, k ≤ A.length ∧ i = .int .i64 k ∧ A.take k = B.take k ∧ ∃ q, wr = w.drewN q) (fun i _ => A.length - (intOf i).toNat)
    case atStart => exact ⟨0, by omega, rfl, rfl, 0, rfl⟩
    case round =>
      obtain ⟨k, hk, rfl, hAB, q, rfl⟩ := hrel
      by_cases hlt : k < A.length
      · have hltB : k < B.length := by omega
        obtain ⟨g, o, rfl, _, hc⟩ := (unhide HL3) (by omega)
        obtain ⟨g2, o2, rfl, _, hc2⟩ := (unhide HM3) (by omega)
        have hx : (strs A)[k]? = some (.string A[k]) := by simp [strs, hlt]
        have hx2 : (strs B)[k]? = some (.string B[k]) := by simp [strs, hltB]
        have y1 := (hc k hlt).trans hx
        have y2 := (hc2 k hlt).trans hx2
        have HAB := hide hAB
        have hak : Hid (A[k]? = some A[k]) := List.getElem?_eq_getElem hlt
        have hbk : Hid (B[k]? = some B[k]) := List.getElem?_eq_getElem hltB
        clear hc hc2 hx hx2 hAB
        generalize A[k] = ak at y1 hak
        generalize B[k] = bk at y2 hbk
        by_cases he : ak = bk
        · subst he
          have hee : (ak.toList == ak.toList) = true := beq_self_eq_true _
          go_wp2
          go_quiet (fail)
          go_wp2
          go_roundw
          case rel => exact ⟨k + 1, by omega, by go_num, by rw [List.take_add_one, List.take_add_one, unhide HAB, unhide hak, unhide hbk], q + nq, by simp⟩
          case measure => simp [intOf]; omega
        · have hee := str_eq_false he
          have hd : decide (A = B) = false := by
            rw [decide_eq_false_iff_not]
            intro e
            have h1 := unhide hak
            rw [e, unhide hbk] at h1
            injection h1 with h1
            exact he h1.symm
          go_wp2
          go_quiet (fail)
          go_wp2
          go_ret
          exact ⟨by rw [hd]; rfl, q + nq, by simp⟩
      · have hd : decide (A = B) = true := by
          rw [decide_eq_true_iff]
          rw [List.take_of_length_le (by omega), List.take_of_length_le (by omega)] at hAB
          exact hAB
        go_wp2
        go_ret
        exact ⟨by rw [hd]; rfl, q, rfl⟩
  · have hd : decide (A = B) = false := by
      rw [decide_eq_false_iff_not]
      intro e
      exact hlen (by rw [e])
    have hne : ((A.length : Int) != (B.length : Int)) = true := by simp; omega
    go_enter Tryz.func33, Tryz.ntmps33
    go_wp2
    go_ret
    exact ⟨by rw [hd]; rfl, 0, rfl⟩
end Go.Proofs.YtamafdcnbcoegaaGreat
namespace Go.Proofs.YtamafdcnbcoegaaGreat
open Go.RowKit

/-- What an agent hears, one by one; was all of it taken? -/
def hearM : Mod.Ag × Bool → List ByteArray → Mod.Ag × Bool
  | s, [] => s
  | s, b :: r => hearM ((agSays s.1 b.data.toList).2, s.2 && ((agSays s.1 b.data.toList).1 == 0)) r
/-- What a sink is told, one by one, and what is answered is heard. -/
def tellM : Mod.Ag × Mod.Sk × Bool → List (List UInt8) → Mod.Ag × Mod.Sk × Bool
  | s, [] => s
  | s, l :: r => tellM ((hearM (s.1, s.2.2 && ((skSays s.2.1 l).1 == 0)) (skSays s.2.1 l).2.2).1, (skSays s.2.1 l).2.1, (hearM (s.1, s.2.2 && ((skSays s.2.1 l).1 == 0)) (skSays s.2.1 l).2.2).2) r
/-- A tick, and all that comes of it. -/
def exchM (a : Mod.Ag) (k : Mod.Sk) : Mod.Ag × Mod.Sk × Bool := tellM (a.tick.1, k, true) a.tick.2
theorem hearM_snoc (s : Mod.Ag × Bool) (l : List ByteArray) (b : ByteArray) : hearM s (l ++ [b]) = ((agSays (hearM s l).1 b.data.toList).2, (hearM s l).2 && ((agSays (hearM s l).1 b.data.toList).1 == 0)) := by
  induction l generalizing s with
  | nil => rfl
  | cons x r ih => exact ih _
theorem tellM_snoc (s : Mod.Ag × Mod.Sk × Bool) (l : List (List UInt8)) (b : List UInt8) : tellM s (l ++ [b]) = tellM (tellM s l) [b] := by
  induction l generalizing s with
  | nil => rfl
  | cons x r ih => exact ih _
/-- Of frames that came out the i-th. -/
theorem FramesOut.get {B : Nat} {w : World} {lv : Value} {fs : List Value} {Fl : List ByteArray} {U : Nat → Prop} (h : FramesOut B w lv fs Fl U) (i : Nat) (hi : i < Fl.length) : ∃ v, fs[i]? = some v ∧ Owns B w v Fl[i].data.toList := by
  have hl := h.len
  have hi2 : i < fs.length := by omega
  refine ⟨fs[i], List.getElem?_eq_getElem hi2, ?_⟩
  have := h.each i fs[i] (List.getElem?_eq_getElem hi2)
  rw [List.getD_eq_getElem?_getD, List.getElem?_map, List.getElem?_eq_getElem hi] at this
  exact this
set_option maxRecDepth 100000 in
set_option maxHeartbeats 8000000 in
theorem exchange_any {top : Nat} (C : AgentC top) (D : SinkC) (B N : Nat) (x : World) (va vs : Nat) (a : Mod.Ag) (k : Mod.Sk) (G : Nat → Prop) (H : Ends C D B N x va vs a k G) (hN : N + 1 < top) :
    Calls Tryz.prog 31 #[ptrTo va, ptrTo vs] x fun r y => r = .returned (.tuple #[.int .i64 a.tick.2.length, .bool (exchM a k).2.2]) ∧ Ends C D B (N + 1) y va vs (exchM a k).1 (exchM a k).2.1 G ∧ Same B G x y := by
  have HT := hide (H.tick (by omega))
  have hsm := (tick_small H.ga).1
  have HB := hide H.bx
  have HGX := hide (fun j (hj : G j) => (H.all.elim fun _ h => h.elim fun _ h => (h.2.2.2.2.2 j hj).1))
  have hex : exchM a k = tellM (a.tick.1, k, true) a.tick.2 := rfl
  rw [hex]
  obtain ⟨FL, hFL⟩ : ∃ FL, FL = a.tick.2 := ⟨_, rfl⟩
  rw [← hFL] at HT hsm ⊢
  generalize a.tick.1 = a1 at HT ⊢
  clear H hex hFL
  unfold ptrTo at *
  go_enter Tryz.func31, Tryz.ntmps31
  go_upto_region 2 with (go_at_call 24; refine (unhide HT).mono ?_; rintro r y ⟨lv, fs, rfl, k1, k2, k3⟩; obtain ⟨ad, cap, e, _⟩ := (own_rowO k1.row).shape; rw [show fs.length = FL.length by rw [k1.len]; simp] at e; subst e; have hzy := k3.size; have HO := hide k1; have HE := hide k2; have HS := hide k3; clear k1 k2 k3)
  go_wp2
  go_loopw [7, 8, 9, 10, 11, 12] (fun ok i _ _ _ _ wr => ∃ j : Nat, j ≤ FL.length ∧ i = .int .i64 j ∧ ok = .bool (tellM (a1, k, true) (FL.take j)).2.2 ∧ Ends C D B (N + 1) wr va vs (tellM (a1, k, true) (FL.take j)).1 (tellM (a1, k, true) (FL.take j)).2.1 (fun q => G q ∨ Outs (.slice ad FL.length cap) fs q) ∧ Same B (fun q => G q ∨ Outs (.slice ad FL.length cap) fs q) y wr) (fun _ i _ _ _ _ _ => FL.length - (intOf i).toNat)
  case atStart => exact ⟨0, by omega, rfl, rfl, unhide HE, Same.refl _ _ _⟩
  case round =>
    obtain ⟨j, hj, rfl, rfl, hE, hS⟩ := hrel
    obtain ⟨aj, kj, okj, hT3⟩ : ∃ a k' o, tellM (a1, k, true) (FL.take j) = (a, k', o) := ⟨_, _, _, rfl⟩
    rw [hT3] at hE ⊢
    by_cases hlt : j < FL.length
    · have hO2 := (unhide HO).keep (fun q hq => hS.rest q ((unhide HO).lt q hq).2 (fun e => e.2 (.inr hq)))
      obtain ⟨v, hv, hown⟩ := hO2.get j (by simpa using hlt)
      simp only [List.getElem_map] at hown
      have hlf : fs.length = FL.length := by rw [(unhide HO).len]; simp
      have hrow := hO2.row
      rw [hlf] at hrow
      have h0 : 0 < FL.length := by omega
      obtain ⟨g, c2, hadd⟩ := own_shapeB hrow h0
      injection hadd with hadd _ hcc
      subst hadd
      subst hcc
      have cj := World.ownsRow.cellAt hrow j (by omega)
      rw [hv] at cj
      obtain ⟨vad, vcap, ev, _⟩ := (own_rowO hown).shape
      rw [ev] at cj hown
      obtain ⟨nl, hnl⟩ : ∃ nl, nl = FL[j].length := ⟨_, rfl⟩
      have hTN : Hid (tellM (a1, k, true) (FL.take (j + 1)) = tellM (aj, kj, okj) [FL[j]]) := by
        show _ = _
        rw [List.take_add_one, List.getElem?_eq_getElem hlt]
        show tellM _ (FL.take j ++ [FL[j]]) = _
        rw [tellM_snoc, hT3]
      have hat := Owns.at hown
      have HD := hide (hE.take _ FL[j] (by simpa using hat))
      have htm : tellM (aj, kj, okj) [FL[j]] = ((hearM (aj, okj && ((skSays kj FL[j]).1 == 0)) (skSays kj FL[j]).2.2).1, (skSays kj FL[j]).2.1, (hearM (aj, okj && ((skSays kj FL[j]).1 == 0)) (skSays kj FL[j]).2.2).2) := rfl
      rw [htm] at hTN
      clear htm hat hown hv hrow
      have hFRl : (skSays kj FL[j]).2.2.length ≤ 1 := (skSays_small kj FL[j]).1
      generalize (skSays kj FL[j]).2.1 = k2 at HD hTN
      generalize (skSays kj FL[j]).1 = er at HD hTN
      generalize (skSays kj FL[j]).2.2 = FR at HD hTN hFRl
      have HE1 := hide hE
      have HS1 := hide hS
      have HO1 := hide hO2
      have hgl := (World.ownsRow.lt (unhide HO1).row g rfl).2
      have HJ := hide (And.intro hlt hj)
      have hjn : (j : Int) < (FL.length : Int) := by omega
      have hj0 : (0 : Int) ≤ (j : Int) := by omega
      have hcl : FL.length ≤ cap := by
        rcases (unhide HO1).row.2 with ⟨h, _⟩ | ⟨g', cap', cur, h, _, _, h2, _⟩
        · cases h
        · injection h with _ _ h3
          have := (unhide HO1).len
          simp at this
          omega
      unfold ptrTo at HD
      generalize hfl : FL[j].length = fl at *
      have HFL := hide hfl
      clear hfl
      cases okj with
      | false =>
        go_upto_region 7 with (go_at_call 27; refine (unhide HD).mono ?_; rintro r y1 ⟨lv2, fs2, rfl, k1, k2, k3⟩; obtain ⟨ad2, cap2, e, _⟩ := (own_rowO k1.row).shape; rw [k1.len] at e; subst e; have hzy2 := k3.size; have HO2 := hide k1; have HE2 := hide k2; have HS2 := hide k3; clear k1 k2 k3)
        go_upto_region 8 with fail
        simp only [Bool.false_and] at hTN
        clear HD cj hjn hj0
        go_wp2
        go_loopw [7, 11, 12] (fun ok i2 _ wr2 => ∃ j2 : Nat, j2 ≤ FR.length ∧ i2 = .int .i64 j2 ∧ ok = .bool (hearM (aj, false) (FR.take j2)).2 ∧ Ends C D B (N + 1) wr2 va vs (hearM (aj, false) (FR.take j2)).1 k2 (fun q => (G q ∨ Outs (.slice (some ⟨g, 0, none⟩) FL.length cap) fs q) ∨ Outs (.slice ad2 FR.length cap2) fs2 q) ∧ Same B (fun q => (G q ∨ Outs (.slice (some ⟨g, 0, none⟩) FL.length cap) fs q) ∨ Outs (.slice ad2 FR.length cap2) fs2 q) y1 wr2) (fun _ i2 _ _ => FR.length - (intOf i2).toNat)
        case atStart => exact ⟨0, by omega, rfl, rfl, unhide HE2, Same.refl _ _ _⟩
        case round =>
          obtain ⟨j2, hj2, rfl, rfl, hE3, hS3⟩ := hrel
          obtain ⟨a2, o2, hT2⟩ : ∃ a o, hearM (aj, false) (FR.take j2) = (a, o) := ⟨_, _, rfl⟩
          rw [hT2] at hE3 ⊢
          by_cases hlt2 : j2 < FR.length
          · have hO3 := (unhide HO2).keep (fun q hq => hS3.rest q ((unhide HO2).lt q hq).2 (fun e => e.2 (.inr hq)))
            obtain ⟨v2, hv2, hown2⟩ := hO3.get j2 hlt2
            have hlf2 := (unhide HO2).len
            have hrow2 := hO3.row
            rw [hlf2] at hrow2
            have h02 : 0 < FR.length := by omega
            obtain ⟨g2, c3, hadd2⟩ := own_shapeB hrow2 h02
            injection hadd2 with hadd2 _ hcc2
            subst hadd2
            subst hcc2
            have cj2 := World.ownsRow.cellAt hrow2 j2 (by omega)
            rw [hv2] at cj2
            obtain ⟨vad2, vcap2, ev2, _⟩ := (own_rowO hown2).shape
            rw [ev2] at cj2 hown2
            have hTN2 : Hid (hearM (aj, false) (FR.take (j2 + 1)) = ((agSays a2 FR[j2].data.toList).2, o2 && ((agSays a2 FR[j2].data.toList).1 == 0))) := by
              show _ = _
              rw [List.take_add_one, List.getElem?_eq_getElem hlt2]
              show hearM _ (FR.take j2 ++ [FR[j2]]) = _
              rw [hearM_snoc, hT2]
            have hat2 := Owns.at hown2
            have HD2 := hide (hE3.hear hN _ FR[j2].data.toList hat2)
            generalize (agSays a2 FR[j2].data.toList).2 = a3 at HD2 hTN2
            generalize (agSays a2 FR[j2].data.toList).1 = er2 at HD2 hTN2
            have hgl2 := (World.ownsRow.lt hO3.row g2 rfl).2
            have hcl2 : FR.length ≤ cap2 := by
              rcases hO3.row.2 with ⟨h, _⟩ | ⟨g', cap', cur, h, _, _, h2, _⟩
              · cases h
              · injection h with _ _ h3
                omega
            have hjn2 : (j2 : Int) < (FR.length : Int) := by omega
            have hj02 : (0 : Int) ≤ (j2 : Int) := by omega
            have HE3 := hide hE3
            have HS3 := hide hS3
            clear hat2 hown2 hv2 hrow2 hE3 hS3 hO3 hT2 ev2 hlf2
            unfold ptrTo at HD2
            generalize hfl2 : FR[j2].data.toList.length = fl2 at *
            have HFL2 := hide hfl2
            clear hfl2
            cases o2
            all_goals
              go_upto_region 12 with (go_at_call 28; refine (unhide HD2).mono ?_; rintro r y2 ⟨rfl, k1, k2⟩; have HE4 := hide k1; have HS4 := hide k2; clear k1 k2)
              simp only [Bool.false_and, Bool.true_and] at hTN2
              go_wp2
              go_roundw
              case rel => exact ⟨j2 + 1, by omega, by go_num, by rw [unhide hTN2], by rw [unhide hTN2]; exact unhide HE4, (unhide HS3).trans (unhide HS4) (fun _ _ h => h)⟩
              case measure => simp [intOf]; omega
          · have hj2e : j2 = FR.length := by omega
            subst hj2e
            rw [List.take_length] at hT2
            rw [hT2] at hTN
            have HE3 := hide hE3
            have HS3 := hide hS3
            clear hE3 hS3 hT2
            go_wp2
            go_roundw
            case rel =>
              refine ⟨j + 1, by have := (unhide HJ).1; omega, by go_num, by rw [unhide hTN], by rw [unhide hTN]; exact (unhide HE3).mono (fun q h => .inl h) (Nat.le_refl _), ?_⟩
              exact ((unhide HS1).trans (unhide HS2) (fun _ _ h => h)).trans (unhide HS3) (fun _ _ h => .inl h)
            case measure =>
              have := (unhide HJ).1
              simp [intOf]
              omega
      | true =>
        go_upto_region 7 with (go_at_call 27; refine (unhide HD).mono ?_; rintro r y1 ⟨lv2, fs2, rfl, k1, k2, k3⟩; obtain ⟨ad2, cap2, e, _⟩ := (own_rowO k1.row).shape; rw [k1.len] at e; subst e; have hzy2 := k3.size; have HO2 := hide k1; have HE2 := hide k2; have HS2 := hide k3; clear k1 k2 k3)
        go_upto_region 8 with fail
        simp only [Bool.true_and] at hTN
        obtain ⟨e0, he0⟩ : ∃ e0, e0 = (er == 0) := ⟨_, rfl⟩
        rw [← he0] at hTN
        rw [← he0]
        clear he0
        clear HD cj hjn hj0
        go_wp2
        go_loopw [7, 11, 12] (fun ok i2 _ wr2 => ∃ j2 : Nat, j2 ≤ FR.length ∧ i2 = .int .i64 j2 ∧ ok = .bool (hearM (aj, e0) (FR.take j2)).2 ∧ Ends C D B (N + 1) wr2 va vs (hearM (aj, e0) (FR.take j2)).1 k2 (fun q => (G q ∨ Outs (.slice (some ⟨g, 0, none⟩) FL.length cap) fs q) ∨ Outs (.slice ad2 FR.length cap2) fs2 q) ∧ Same B (fun q => (G q ∨ Outs (.slice (some ⟨g, 0, none⟩) FL.length cap) fs q) ∨ Outs (.slice ad2 FR.length cap2) fs2 q) y1 wr2) (fun _ i2 _ _ => FR.length - (intOf i2).toNat)
        case atStart => exact ⟨0, by omega, rfl, rfl, unhide HE2, Same.refl _ _ _⟩
        case round =>
          obtain ⟨j2, hj2, rfl, rfl, hE3, hS3⟩ := hrel
          obtain ⟨a2, o2, hT2⟩ : ∃ a o, hearM (aj, e0) (FR.take j2) = (a, o) := ⟨_, _, rfl⟩
          rw [hT2] at hE3 ⊢
          by_cases hlt2 : j2 < FR.length
          · have hO3 := (unhide HO2).keep (fun q hq => hS3.rest q ((unhide HO2).lt q hq).2 (fun e => e.2 (.inr hq)))
            obtain ⟨v2, hv2, hown2⟩ := hO3.get j2 hlt2
            have hlf2 := (unhide HO2).len
            have hrow2 := hO3.row
            rw [hlf2] at hrow2
            have h02 : 0 < FR.length := by omega
            obtain ⟨g2, c3, hadd2⟩ := own_shapeB hrow2 h02
            injection hadd2 with hadd2 _ hcc2
            subst hadd2
            subst hcc2
            have cj2 := World.ownsRow.cellAt hrow2 j2 (by omega)
            rw [hv2] at cj2
            obtain ⟨vad2, vcap2, ev2, _⟩ := (own_rowO hown2).shape
            rw [ev2] at cj2 hown2
            have hTN2 : Hid (hearM (aj, e0) (FR.take (j2 + 1)) = ((agSays a2 FR[j2].data.toList).2, o2 && ((agSays a2 FR[j2].data.toList).1 == 0))) := by
              show _ = _
              rw [List.take_add_one, List.getElem?_eq_getElem hlt2]
              show hearM _ (FR.take j2 ++ [FR[j2]]) = _
              rw [hearM_snoc, hT2]
            have hat2 := Owns.at hown2
            have HD2 := hide (hE3.hear hN _ FR[j2].data.toList hat2)
            generalize (agSays a2 FR[j2].data.toList).2 = a3 at HD2 hTN2
            generalize (agSays a2 FR[j2].data.toList).1 = er2 at HD2 hTN2
            have hgl2 := (World.ownsRow.lt hO3.row g2 rfl).2
            have hcl2 : FR.length ≤ cap2 := by
              rcases hO3.row.2 with ⟨h, _⟩ | ⟨g', cap', cur, h, _, _, h2, _⟩
              · cases h
              · injection h with _ _ h3
                omega
            have hjn2 : (j2 : Int) < (FR.length : Int) := by omega
            have hj02 : (0 : Int) ≤ (j2 : Int) := by omega
            have HE3 := hide hE3
            have HS3 := hide hS3
            clear hat2 hown2 hv2 hrow2 hE3 hS3 hO3 hT2 ev2 hlf2
            unfold ptrTo at HD2
            generalize hfl2 : FR[j2].data.toList.length = fl2 at *
            have HFL2 := hide hfl2
            clear hfl2
            cases o2
            all_goals
              go_upto_region 12 with (go_at_call 28; refine (unhide HD2).mono ?_; rintro r y2 ⟨rfl, k1, k2⟩; have HE4 := hide k1; have HS4 := hide k2; clear k1 k2)
              simp only [Bool.false_and, Bool.true_and] at hTN2
              go_wp2
              go_roundw
              case rel => exact ⟨j2 + 1, by omega, by go_num, by rw [unhide hTN2], by rw [unhide hTN2]; exact unhide HE4, (unhide HS3).trans (unhide HS4) (fun _ _ h => h)⟩
              case measure => simp [intOf]; omega
          · have hj2e : j2 = FR.length := by omega
            subst hj2e
            rw [List.take_length] at hT2
            rw [hT2] at hTN
            have HE3 := hide hE3
            have HS3 := hide hS3
            clear hE3 hS3 hT2
            go_wp2
            go_roundw
            case rel =>
              refine ⟨j + 1, by have := (unhide HJ).1; omega, by go_num, by rw [unhide hTN], by rw [unhide hTN]; exact (unhide HE3).mono (fun q h => .inl h) (Nat.le_refl _), ?_⟩
              exact ((unhide HS1).trans (unhide HS2) (fun _ _ h => h)).trans (unhide HS3) (fun _ _ h => .inl h)
            case measure =>
              have := (unhide HJ).1
              simp [intOf]
              omega
    · have hje : j = FL.length := by omega
      subst hje
      rw [List.take_length] at hT3
      have HE1 := hide hE
      have HS1 := hide hS
      clear hE hS
      go_wp2
      go_ret2
      exact ⟨rfl, (unhide HE1).mono (fun q h => .inl h) (Nat.le_refl _), (unhide HS).trans (unhide HS1) (fun _ _ h => .inl h)⟩
end Go.Proofs.YtamafdcnbcoegaaGreat
namespace Go.Proofs.YtamafdcnbcoegaaGreat

theorem agSays_bytes (a : Mod.Ag) {k : Int} {e s q : Nat} {b : ByteArray} (hp : Wire.proper k e s q b = true) : agSays a (Wire.bytes k e s q b.data.toList) = (0, a.deliver k e s q b) := by
  obtain ⟨h1, h2, h3, h4, h5⟩ := proper_small hp
  obtain ⟨g0, g1, g2, g3, g4, g5⟩ := Wire.parts_bytes (k := k) (e := e) (s := s) (q := q) (b := b) (by omega) (by omega) (by omega) (by omega) (by omega)
  refine agSays_yes ?_ g1 g2 g3 g4 g5
  unfold Wire.reads
  rw [g0, g1, g2, g3, g4, g5, hp]
  rfl
theorem skSays_bytes (a : Mod.Sk) {k : Int} {e s q : Nat} {b : ByteArray} (hp : Wire.proper k e s q b = true) : skSays a (Wire.bytes k e s q b.data.toList) = (0, skReply a k e s q b) := by
  obtain ⟨h1, h2, h3, h4, h5⟩ := proper_small hp
  obtain ⟨g0, g1, g2, g3, g4, g5⟩ := Wire.parts_bytes (k := k) (e := e) (s := s) (q := q) (b := b) (by omega) (by omega) (by omega) (by omega) (by omega)
  refine skSays_yes ?_ g1 g2 g3 g4 g5
  unfold Wire.reads
  rw [g0, g1, g2, g3, g4, g5, hp]
  rfl
theorem hello_bytes (e : Nat) : Wire.bytes 1 e 0 0 [] = Wire.bytes 1 (e : Int) ((0 : Nat) : Int) ((0 : Nat) : Int) (⟨#[]⟩ : ByteArray).data.toList := rfl
/-- What is kept never grows by a frame. -/
theorem room_drop (a : Mod.Ag) (n : Nat → Nat) : (a.drop n).room ≤ a.room := by
  simp only [Mod.Ag.room, Mod.Ag.drop, Mod.dropTo, Mod.Flow.drop]
  simp only [show (0 : Nat) < 3 by omega, show (1 : Nat) < 3 by omega, show (2 : Nat) < 3 by omega, if_true, List.length_drop]
  omega
theorem room_drop_lt (a : Mod.Ag) (n : Nat → Nat) {s : Nat} (hs : s < 3) (h0 : 0 < n s) (h1 : 0 < (a.fl s).kept.length) : (a.drop n).room < a.room := by
  simp only [Mod.Ag.room, Mod.Ag.drop, Mod.dropTo, Mod.Flow.drop]
  simp only [show (0 : Nat) < 3 by omega, show (1 : Nat) < 3 by omega, show (2 : Nat) < 3 by omega, if_true, List.length_drop]
  obtain rfl | rfl | rfl : s = 0 ∨ s = 1 ∨ s = 2 := by omega
  all_goals omega
theorem room_fresh (a : Mod.Ag) (w : Bool) : Mod.Ag.room { a with welcome := w, fl := Mod.fresh a.fl 3 } = a.room := by
  simp [Mod.Ag.room, Mod.fresh]
theorem room_held (a : Mod.Ag) (s : Nat) (h : List Nat) : Mod.Ag.room { a with fl := Mod.upd a.fl s { a.fl s with held := h } } = a.room := by
  have : ∀ t, (Mod.upd a.fl s { a.fl s with held := h } t).kept = (a.fl t).kept := fun t => by
    unfold Mod.upd
    split
    · rename_i e; rw [e]
    · rfl
  simp only [Mod.Ag.room, this]
theorem room_deliver (a : Mod.Ag) (k e st q : Int) (b : ByteArray) : (a.deliver k e st q b).room ≤ a.room := by
  have hd := room_drop a (a.says k e st q b)
  unfold Mod.Ag.deliver
  split
  · exact Nat.le_refl _
  · split
    · exact Nat.le_refl _
    · split
      · exact Nat.le_refl _
      · split
        · rw [room_fresh]; exact hd
        · split
          · split
            · exact Nat.le_refl _
            · rw [room_held]; exact hd
          · exact Nat.le_refl _
theorem room_says (a : Mod.Ag) (l : List UInt8) : (agSays a l).2.room ≤ a.room := by
  unfold agSays
  split
  · exact room_deliver _ _ _ _ _ _
  · exact Nat.le_refl _
theorem room_tick (a : Mod.Ag) : a.tick.1.room = a.room := by
  unfold Mod.Ag.tick
  split
  · rfl
  · split
    · rfl
    · simp [Mod.Ag.room, Mod.sendFl, sendTo_len]
theorem room_hear : ∀ (l : List ByteArray) (s : Mod.Ag × Bool), (hearM s l).1.room ≤ s.1.room
  | [], _ => Nat.le_refl _
  | _ :: r, _ => Nat.le_trans (room_hear r _) (room_says _ _)
theorem room_tell : ∀ (l : List (List UInt8)) (s : Mod.Ag × Mod.Sk × Bool), (tellM s l).1.room ≤ s.1.room
  | [], _ => Nat.le_refl _
  | _ :: r, _ => Nat.le_trans (room_tell r _) (room_hear _ _)
theorem room_exch (a : Mod.Ag) (k : Mod.Sk) : (exchM a k).1.room ≤ a.room := by
  have := room_tell a.tick.2 (a.tick.1, k, true)
  rw [← room_tick a]
  exact this
/-- A Welcome's body says how many are committed. -/
theorem welB_num (k : Mod.Sk) (h : ∀ i, i < 3 → (k.logs i).length ≤ 2147483647) : (welB k).size = 12 ∧ ∀ i, i < 3 → Wire.numAt (welB k).data.toList (4 * i) = (k.logs i).length := by
  have e : (welB k).data.toList = Wire.le4 ((k.logs 0).length : Int) ++ Wire.le4 ((k.logs 1).length : Int) ++ Wire.le4 ((k.logs 2).length : Int) := by
    simp [welB, le4S]
    rfl
  refine ⟨by rw [← ByteArray.size_data, ← Array.length_toList, e]; rfl, fun i hi => ?_⟩
  rw [e]
  have h0 := h i hi
  obtain rfl | rfl | rfl : i = 0 ∨ i = 1 ∨ i = 2 := by omega
  all_goals exact Wire.num4_le4 (by omega) (by omega)
theorem welB_proper (k : Mod.Sk) (e : Nat) (he : e ≤ 2147483647) (h : ∀ i, i < 3 → (k.logs i).length ≤ 2147483647) : Wire.proper 2 e 0 0 (welB k) = true := by
  obtain ⟨h1, h2⟩ := welB_num k h
  have g0 := h2 0 (by omega)
  have g1 := h2 1 (by omega)
  have g2 := h2 2 (by omega)
  have l0 := h 0 (by omega)
  have l1 := h 1 (by omega)
  have l2 := h 2 (by omega)
  simp only [Nat.mul_zero, Nat.mul_one, show 4 * 2 = 8 from rfl] at g0 g1 g2
  simp [Wire.proper, Wire.isNum, Wire.welBody, h1, g0, g1, g2]
  omega

/-- What an agent that isn't welcome and a sink of no greater Epoch exchange. -/
theorem exch_hello (a : Mod.Ag) (k : Mod.Sk) (hf : a.fenced = false) (hw : a.welcome = false) (hk : k.epoch ≤ a.epoch) (he : a.epoch ≤ 2147483647) (h : ∀ i, i < 3 → (k.logs i).length ≤ 2147483647) :
    exchM a k = (({ a with ticks := a.ticks + 1 } : Mod.Ag).deliver 2 a.epoch 0 0 (welB k), helloIt k a.epoch, true) := by
  have ht : a.tick = ({ a with ticks := a.ticks + 1 }, [Wire.bytes 1 a.epoch 0 0 []]) := by unfold Mod.Ag.tick; rw [if_neg (by rw [hf]; decide), if_pos hw]
  unfold exchM
  rw [ht]
  have h1 : skSays k (Wire.bytes 1 a.epoch 0 0 []) = (0, helloIt k a.epoch, [skWel k a.epoch]) := by
    rw [hello_bytes, skSays_bytes k (proper_hello he)]
    unfold skReply
    rw [if_pos rfl, if_neg (by omega)]
    rfl
  have h2 : ∀ a1 : Mod.Ag, agSays a1 (skWel k a.epoch).data.toList = (0, a1.deliver 2 a.epoch 0 0 (welB k)) := fun a1 => by
    have := agSays_bytes a1 (k := 2) (e := a.epoch) (s := 0) (q := 0) (b := welB k) (welB_proper k a.epoch he h)
    simpa [skWel] using this
  simp only [tellM, h1, hearM, h2]
  rfl
theorem exch_wel (a : Mod.Ag) (k : Mod.Sk) (h : ∀ i, i < 3 → (k.logs i).length ≤ 2147483647) :
    ∃ n : Nat → Nat, (∀ s, s < 3 → n s = min (((k.logs s).length : Int) - (a.fl s).base).toNat (a.fl s).kept.length) ∧ a.deliver 2 a.epoch 0 0 (welB k) = { a.drop n with welcome := true, fl := Mod.fresh (a.drop n).fl 3 } := by
  refine ⟨a.says 2 a.epoch 0 0 (welB k), fun s hs => ?_, ?_⟩
  · unfold Mod.Ag.says Mod.Ag.gone
    rw [if_neg (by simp), if_pos rfl, (welB_num k h).2 s hs]
  · unfold Mod.Ag.deliver
    rw [if_neg (by omega), if_neg (by simp), if_neg (by omega), if_pos rfl]
end Go.Proofs.YtamafdcnbcoegaaGreat
namespace Go.Proofs.YtamafdcnbcoegaaGreat

theorem sendTo_pre (e s : Nat) (f : Mod.Flow) (t i : Nat) : ∀ j, ∃ r, (Mod.sendTo e s f t (i + j)).2 = (Mod.sendTo e s f t i).2 ++ r
  | 0 => ⟨[], by simp⟩
  | j + 1 => by
    obtain ⟨r, hr⟩ := sendTo_pre e s f t i j
    show ∃ r, (Mod.sendTo e s f t (i + j + 1)).2 = _
    by_cases h : i + j < f.kept.length
    · cases hd : Mod.due f t (i + j) f.kept[i + j].2 with
      | false => rw [sendTo_skip h hd]; exact ⟨r, hr⟩
      | true => rw [sendTo_send h hd, hr, List.append_assoc]; exact ⟨_, rfl⟩
    · rw [sendTo_over (by omega)]; exact ⟨r, hr⟩
theorem sendTo_none (e s : Nat) (f : Mod.Flow) (t : Nat) (h : f.kept = []) : ∀ i, (Mod.sendTo e s f t i).2 = []
  | 0 => rfl
  | i + 1 => by
    rw [sendTo_over (by rw [h]; simp)]
    exact sendTo_none e s f t h i
theorem sendTo_first (e s : Nat) (f : Mod.Flow) (t : Nat) (b : ByteArray) (r : List (ByteArray × Nat)) (hk : f.kept = (b, 0) :: r) (hh : f.held = []) : ∃ l, (Mod.sendTo e s f t 4).2 = Wire.bytes 3 e s (f.base + 1 : Nat) b.data.toList :: l := by
  obtain ⟨l, hl⟩ := sendTo_pre e s f t 1 3
  refine ⟨l, ?_⟩
  rw [show 4 = 1 + 3 from rfl, hl]
  have h0 : 0 < f.kept.length := by rw [hk]; simp
  have hd : Mod.due f t 0 f.kept[0].2 = true := by
    simp only [hk, List.getElem_cons_zero]
    unfold Mod.due
    rw [hh]
    simp
  rw [sendTo_send h0 hd]
  simp [hk, Mod.sendTo]
theorem commitFrom_long (k : Mod.Sk) (st q n : Nat) : ∀ f out, out.length ≤ (k.commitFrom st q n f out).length
  | 0, _ => Nat.le_refl _
  | f + 1, out => by
    rw [Mod.Sk.commitFrom]
    split
    · split
      · exact Nat.le_refl _
      · rename_i i _
        have := commitFrom_long k st q n f (out ++ [(k.held.getD i (0, 0, ⟨#[]⟩)).2.2])
        rw [List.length_append, List.length_singleton] at this
        omega
    · exact Nat.le_refl _
theorem skAfter_ep (k : Mod.Sk) (kd e : Int) (s q : Nat) (b : ByteArray) : (skAfter k kd e s q b).epoch = k.epoch := by
  unfold skAfter
  split
  · exact holdIt_epoch _ _ _ _
  · exact takeIt_epoch _ _ _
/-- The next record comes to a sink that has room: its log grows. -/
theorem skAfter_next (k : Mod.Sk) (e s : Nat) (b : ByteArray) (he : e = k.epoch) (hroom : k.count < 120) : (k.logs s).length < ((skAfter k 3 e s ((k.logs s).length + 1) b).logs s).length := by
  have hc : 0 < (k.commits 3 e s ((k.logs s).length + 1 : Nat) b).length := by
    unfold Mod.Sk.commits
    rw [if_neg (by simp; omega), if_neg (by omega)]
    have := commitFrom_long k (s : Int).toNat (((k.logs s).length + 1 : Nat) : Int).toNat k.count 120 [b]
    simp at this ⊢
    omega
  unfold skAfter
  rw [if_neg (fun h => by rw [h] at hc; simp at hc), takeIt_logs, List.length_append]
  omega
theorem skGood_log {k : Mod.Sk} (G : SkGood k) {i : Nat} (hi : i < 3) : (k.logs i).length ≤ 120 := by
  have := G.room
  unfold Mod.Sk.count at this
  obtain rfl | rfl | rfl : i = 0 ∨ i = 1 ∨ i = 2 := by omega
  all_goals omega
theorem exch_first (a : Mod.Ag) (k : Mod.Sk) {N : Nat} (G : AgGood N a) (GK : SkGood k) (hf : a.fenced = false) (hw : a.welcome = true) (hk : k.epoch = a.epoch) (hroom : k.count < 120)
    (h : ∀ t, t < 3 → (a.fl t).base = (k.logs t).length ∧ (a.fl t).held = [] ∧ ∀ x ∈ (a.fl t).kept, x.2 = 0) (h0 : 0 < a.room) : (exchM a k).1.room < a.room := by
  have hlog := fun i (hi : i < 3) => skGood_log GK hi
  obtain ⟨s, hs, hne, hlt⟩ : ∃ s, s < 3 ∧ (a.fl s).kept ≠ [] ∧ ∀ t, t < s → (a.fl t).kept = [] := by
    unfold Mod.Ag.room at h0
    by_cases e0 : (a.fl 0).kept = []
    · by_cases e1 : (a.fl 1).kept = []
      · refine ⟨2, by omega, fun e2 => ?_, fun t ht => ?_⟩
        · rw [e0, e1, e2] at h0; simp at h0
        · obtain rfl | rfl : t = 0 ∨ t = 1 := by omega
          · exact e0
          · exact e1
      · exact ⟨1, by omega, e1, fun t ht => by obtain rfl : t = 0 := (by omega); exact e0⟩
    · exact ⟨0, by omega, e0, fun t ht => by omega⟩
  obtain ⟨⟨b, x2⟩, r, hkept⟩ := List.exists_cons_of_ne_nil hne
  obtain ⟨hbase, hheld, hx⟩ := h s hs
  obtain rfl : x2 = 0 := hx (b, x2) (by rw [hkept]; exact .head _)
  obtain ⟨l, hl⟩ := sendTo_first a.epoch s (a.fl s) (a.ticks + 1) b r hkept hheld
  have hout : ∃ l, a.tick.2 = Wire.bytes 3 a.epoch s ((k.logs s).length + 1 : Nat) b.data.toList :: l := by
    rw [tick_send hf hw]
    have hn := fun t (ht : t < s) => sendTo_none a.epoch t (a.fl t) (a.ticks + 1) (hlt t ht) 4
    rw [hbase] at hl
    show ∃ l, (((([] : List (List UInt8)) ++ _) ++ _) ++ _) = _
    obtain rfl | rfl | rfl : s = 0 ∨ s = 1 ∨ s = 2 := by omega
    · rw [hl]; exact ⟨_, rfl⟩
    · rw [hn 0 (by omega), hl]; exact ⟨_, rfl⟩
    · rw [hn 0 (by omega), hn 1 (by omega), hl]; exact ⟨_, rfl⟩
  obtain ⟨l2, hl2⟩ := hout
  have hbs : b.size ≤ 20 := (G.bod s hs (b, 0) (by rw [hkept]; exact .head _)).1
  have hp : Wire.proper 3 a.epoch s ((k.logs s).length + 1 : Nat) b = true := proper_data G.ep hs (by omega) (by have := hlog s hs; omega) hbs
  have h1 := skSays_bytes k hp
  have hrep : skReply k 3 a.epoch s ((k.logs s).length + 1) b = (skAfter k 3 a.epoch s ((k.logs s).length + 1) b, [skAck k 3 a.epoch s ((k.logs s).length + 1) b]) := by
    unfold skReply
    rw [if_neg (by omega), if_pos rfl, if_pos (by rw [hk])]
  rw [hrep] at h1
  have hup := skAfter_next k a.epoch s b hk.symm hroom
  have hup2 : ((skAfter k 3 a.epoch s ((k.logs s).length + 1) b).logs s).length ≤ 120 := by
    have := skGood_reply GK 3 a.epoch s ((k.logs s).length + 1) b hs (by have := G.ep; omega)
    rw [hrep] at this
    exact skGood_log this hs
  have hae := skAfter_ep k 3 a.epoch s ((k.logs s).length + 1) b
  generalize hA : skAfter k 3 a.epoch s ((k.logs s).length + 1) b = k2 at *
  have hack : skAck k 3 a.epoch s ((k.logs s).length + 1) b = ⟨(Wire.bytes 4 k.epoch s (k2.logs s).length (ackBody k2 s (k2.logs s).length).data.toList).toArray⟩ := by unfold skAck; rw [hA]
  rw [hack] at h1
  have hap : Wire.proper 4 k.epoch s (k2.logs s).length (ackBody k2 s (k2.logs s).length) = true := by
    have := ack_proper (a := k2) (s := s) (up := (k2.logs s).length) (by rw [hae, hk]; exact G.ep) hs (by omega)
    rw [hae] at this
    exact this
  have h2 := agSays_bytes a.tick.1 hap
  have hroomt := room_tick a
  have htf : a.tick.1.epoch = a.epoch ∧ a.tick.1.welcome = true ∧ (a.tick.1.fl s).base = (a.fl s).base ∧ (a.tick.1.fl s).kept.length = (a.fl s).kept.length := by
    rw [tick_send hf hw]
    refine ⟨rfl, hw, ?_, ?_⟩
    · simp [tickAg, Mod.sendFl]
      split <;> rfl
    · simp only [tickAg, Mod.sendFl, if_pos hs, sendTo_len]
  unfold exchM
  rw [hl2]
  refine Nat.lt_of_le_of_lt (room_tell l2 _) ?_
  rw [← hroomt]
  simp only [h1, hearM, h2]
  generalize a.tick.1 = a1 at *
  obtain ⟨t1, t2, t3, t4⟩ := htf
  generalize (k2.logs s).length = up at *
  show (Mod.Ag.deliver a1 4 k.epoch s up _).room < a1.room
  unfold Mod.Ag.deliver
  rw [if_neg (by omega), if_neg (by rw [t1, hk]; simp), if_neg (by omega), if_neg (by omega), if_pos rfl]
  have hkl : 0 < (a1.fl s).kept.length := by rw [t4, hkept]; simp
  have hsq : a1.ackSeq (s : Int).toNat up = min up ((a1.fl s).base + (a1.fl s).kept.length) := by simp [Mod.Ag.ackSeq]
  rw [if_neg (by
    rw [hsq, t2]
    simp only [Bool.true_eq_false, false_or, Int.toNat_natCast]
    omega), room_held]
  refine room_drop_lt a1 _ hs ?_ hkl
  unfold Mod.Ag.says Mod.Ag.gone
  rw [if_neg (by rw [t1, hk]; simp), if_neg (by omega), if_pos ⟨rfl, rfl, t2⟩]
  omega

def sk00 : Mod.Sk := { epoch := 0, logs := fun _ => [], held := [] }
/-- Behind three exchanges there is room. -/
theorem full_room {a : Mod.Ag} {N : Nat} (G : AgGood N a) (hf : a.fenced = false) (hw : a.welcome = false) (hb : ∀ t, t < 3 → (a.fl t).base = 0) (h0 : 0 < a.room) :
    (exchM (exchM (exchM a sk00).1 (exchM a sk00).2.1).1 (exchM (exchM a sk00).1 (exchM a sk00).2.1).2.1).1.room < a.room := by
  have h1 := exch_hello a sk00 hf hw (by simp [sk00]) G.ep (by simp [sk00])
  obtain ⟨n, hn, hd⟩ := exch_wel ({ a with ticks := a.ticks + 1 } : Mod.Ag) sk00 (by simp [sk00])
  have hz : ({ a with ticks := a.ticks + 1 } : Mod.Ag).drop n = { a with ticks := a.ticks + 1 } := drop_none (fun i hi => by rw [hn i hi]; simp [sk00])
  rw [hz] at hd
  have hd : ({ a with ticks := a.ticks + 1 } : Mod.Ag).deliver 2 a.epoch 0 0 (welB sk00) = { a with ticks := a.ticks + 1, welcome := true, fl := Mod.fresh a.fl 3 } := hd
  rw [hd] at h1
  have G1 : AgGood (N + 1) { a with ticks := a.ticks + 1, welcome := true, fl := Mod.fresh a.fl 3 } := by
    have h2 : AgGood (N + 1) { a with ticks := a.ticks + 1 } := ⟨G.ep, Nat.succ_le_succ G.tk, fun s hs => Nat.le_succ_of_le (G.sum s hs), fun s hs x hx => ⟨(G.bod s hs x hx).1, Nat.le_succ_of_le (G.bod s hs x hx).2⟩⟩
    have := agGood_deliver h2 2 a.epoch 0 0 (welB sk00)
    rw [hd] at this
    exact this
  have GK : SkGood (helloIt sk00 a.epoch) := skGood_hello (a := sk00) ⟨by simp [sk00], by simp [sk00], by simp [sk00, Mod.Sk.count], by simp [sk00]⟩ _ G.ep
  have hr : Mod.Ag.room { a with ticks := a.ticks + 1, welcome := true, fl := Mod.fresh a.fl 3 } = a.room := room_fresh { a with ticks := a.ticks + 1 } true
  have h2 := exch_first _ _ G1 GK hf rfl rfl (by simp [helloIt, sk00, Mod.Sk.count]) (fun t ht => by
    have : Mod.fresh a.fl 3 t = { a.fl t with kept := (a.fl t).kept.map fun r => (r.1, 0), held := [] } := by unfold Mod.fresh; rw [if_pos ht]
    show (Mod.fresh a.fl 3 t).base = _ ∧ (Mod.fresh a.fl 3 t).held = [] ∧ _
    rw [this]
    refine ⟨by simpa [helloIt, sk00] using hb t ht, rfl, fun x hx => ?_⟩
    have hx : x ∈ (Mod.fresh a.fl 3 t).kept := hx
    rw [this] at hx
    obtain ⟨y, _, rfl⟩ := List.mem_map.1 hx
    rfl) (by rw [hr]; exact h0)
  rw [h1]
  refine Nat.lt_of_le_of_lt (room_exch _ _) ?_
  rw [hr] at h2
  exact h2
end Go.Proofs.YtamafdcnbcoegaaGreat
namespace Go.Proofs.YtamafdcnbcoegaaGreat
open Go.RowKit

/-- An append of own rows, as an operation of a region. -/
theorem step_app_own {ops : Array Oper} {o : Oper} {a : Act} {K : Act → World → Prop} {Q : Exit → Act → World → Prop} {E : Prop} {w : World} (hgd : o.guard = none) (s x : Operand) (t : TypeId) (ho : o.op = .call { callee := .builtin .append, args := #[s, x], argTypes := #[t, t] })
    (base : Nat) (e : TypeId) (z : Value) (size bytes : Nat) (ht : Tryz.prog.underlying t = some (.slice e)) (hinfo : (Tryz.prog.info? e).map (fun i => (i.zero, i.size, i.bytes)) = some (some z, size, bytes)) (hzs : z.cells.size = size) (hsz : 0 < size)
    (v : Value) (n : Nat) (xs : List Value) (hown : w.ownsRow base e size v n xs) (hs : a.eval s = v) (ad : Addr) (m c : Nat) (news : List Value) (hx : a.eval x = .slice (some ad) m c) (hl : news.length = m * size) (hnews : ∀ j u, news[j]? = some u → w.cell? (ad.add j) = some u)
    (h1 : ∀ u ∈ news, u.oneCell' = true) (h63 : n + m ≤ maxLen) (hb : (n + m) * bytes ≤ 140737488355328) (hbase : base ≤ w.heap.size)
    (h : ∀ v' w', w'.ownsRow base e size v' (n + m) (xs ++ news) → w.grownBy w' v.ownBlock → (v'.ownBlock = v.ownBlock ∨ v'.ownBlock = some w.heap.size) → K (a.put o.dst v') w') : if Region.wanted o (yielded ops a.tmps) = true then o.wp Tryz.prog a w K Q else E := by
  rw [if_pos (by simp [Region.wanted, hgd])]
  obtain ⟨i0, hi, hz0, hz1, hz2⟩ := info_parts2 hinfo
  obtain ⟨v', w', hr, h2, h3, _, h5⟩ := run_append_own_at (P := Tryz.prog) (w := w) base t o.type e i0 z size bytes ht hi hz0 hz1 hz2 hzs hsz v n xs hown ad m c news hl hnews h1 h63 hb hbase
  unfold Oper.wp execOp
  simp only [ho, resolve, invoke, builtin, Sem.run_bind, Sem.run_pure, Result.andThen_ok, List.map_toArray, List.map_cons, List.map_nil, hs, hx, hr]
  exact h v' w' h2 h3 h5
/-- Three lists of texts. -/
structure WantAt (B : Nat) (x : World) (g : Nat) (wv : Nat → Value) (L : Nat → List ByteArray) : Prop where
  blk : x.heap[g]? = some (.cells #[wv 0, wv 1, wv 2] 69 (0, 0))
  row : ∀ s, s < 3 → x.ownsRow B 9 1 (wv s) (L s).length (strs (L s))
  ap : ∀ s t, s < 3 → t < 3 → s ≠ t → ∀ j, (wv s).ownBlock = some j → (wv t).ownBlock ≠ some j
  gb : B ≤ g
def WantU (g : Nat) (wv : Nat → Value) (j : Nat) : Prop := j = g ∨ ∃ s, s < 3 ∧ (wv s).ownBlock = some j
section
variable {B g : Nat} {x y z : World} {wv : Nat → Value} {L : Nat → List ByteArray}
theorem WantAt.lt (h : WantAt B x g wv L) : ∀ j, WantU g wv j → B ≤ j ∧ j < x.heap.size := by
  rintro j (rfl | ⟨s, hs, hj⟩)
  · exact ⟨h.gb, lt_of_block h.blk⟩
  · exact World.ownsRow.lt (h.row s hs) j hj
theorem WantAt.ne (h : WantAt B x g wv L) {s : Nat} (hs : s < 3) : (wv s).ownBlock ≠ some g := (own_rowO (h.row s hs)).ne h.blk (by decide)
theorem WantAt.keep (h : WantAt B x g wv L) (hk : ∀ j, WantU g wv j → y.heap[j]? = x.heap[j]?) : WantAt B y g wv L :=
  ⟨(hk g (.inl rfl)).trans h.blk, fun s hs => ownsRow_keep (h.row s hs) (fun j hj => hk j (.inr ⟨s, hs, hj⟩)), h.ap, h.gb⟩
theorem WantAt.far {E : Nat → Prop} (h : WantAt B x g wv L) (hF : Far E x y) (hE : ∀ j, WantU g wv j → ¬ E j) : WantAt B y g wv L :=
  h.keep (fun j hj => hF.rest j (h.lt j hj).2 (hE j hj))
theorem want_get {s : Nat} (hs : s < 3) : (#[wv 0, wv 1, wv 2] : Array Value)[s]? = some (wv s) := by
  obtain rfl | rfl | rfl : s = 0 ∨ s = 1 ∨ s = 2 := by omega
  all_goals rfl
theorem WantAt.cell (h : WantAt B x g wv L) {s : Nat} (hs : s < 3) : x.cell? ⟨g, s, none⟩ = some (wv s) := by
  rw [blk_cell h.blk, want_get hs]
/-- A text more. -/
theorem WantAt.app (h : WantAt B x g wv L) {s : Nat} (hs : s < 3) (hF : Far (fun j => (wv s).ownBlock = some j) x z) {v' : Value} {b : ByteArray} (hr : z.ownsRow B 9 1 v' ((L s).length + 1) (strs (L s) ++ [.string b])) (hl : ∀ j, v'.ownBlock = some j → (wv s).ownBlock = some j ∨ x.heap.size ≤ j) :
    WantAt B (z.setCell ⟨g, s, none⟩ v') g (fun t => if t = s then v' else wv t) (fun t => if t = s then L s ++ [b] else L t) := by
  have hgl := lt_of_block h.blk
  have hbz := hF.blk h.blk (h.ne hs)
  have hset := far_set z g s v'
  have hlt := h.lt
  refine ⟨?_, fun t ht => ?_, fun t u ht hu hne j hj hj2 => ?_, h.gb⟩
  · have := blk_set (j := s) (v := v') hbz
    obtain rfl | rfl | rfl : s = 0 ∨ s = 1 ∨ s = 2 := by omega
    all_goals simpa using this
  · by_cases e : t = s
    · subst e
      simp only [if_true]
      have e2 : strs (L t ++ [b]) = strs (L t) ++ [.string b] := by simp [strs]
      rw [e2, List.length_append, List.length_singleton]
      refine ownsRow_keep hr (fun j hj => hset.rest j (World.ownsRow.lt hr j hj).2 (fun e => ?_))
      rcases hl j hj with h1 | h1
      · exact h.ne hs (by rw [h1, e])
      · omega
    · simp only [if_neg e]
      refine ownsRow_keep (h.row t ht) (fun j hj => (hset.rest j (Nat.lt_of_lt_of_le (hlt j (.inr ⟨t, ht, hj⟩)).2 hF.size) (fun e2 => h.ne ht (by rw [hj, e2]))).trans (hF.rest j (hlt j (.inr ⟨t, ht, hj⟩)).2 (fun e2 => h.ap t s ht hs e j hj e2)))
  · replace hj : (if t = s then v' else wv t).ownBlock = some j := hj
    replace hj2 : (if u = s then v' else wv u).ownBlock = some j := hj2
    by_cases e1 : t = s
    · subst e1
      simp only [if_true] at hj
      rw [if_neg (fun e => hne e.symm)] at hj2
      rcases hl j hj with h1 | h1
      · exact h.ap t u ht hu hne j h1 hj2
      · have := (hlt j (.inr ⟨u, hu, hj2⟩)).2; omega
    · rw [if_neg e1] at hj
      by_cases e2 : u = s
      · subst e2
        simp only [if_true] at hj2
        rcases hl j hj2 with h1 | h1
        · exact h.ap t u ht hu hne j hj h1
        · have := (hlt j (.inr ⟨t, ht, hj⟩)).2; omega
      · rw [if_neg e2] at hj2
        exact h.ap t u ht hu hne j hj hj2
theorem wantU_app {s : Nat} {v' : Value} (hl : ∀ j, v'.ownBlock = some j → (wv s).ownBlock = some j ∨ x.heap.size ≤ j) (hs : s < 3) : ∀ j, WantU g (fun t => if t = s then v' else wv t) j → WantU g wv j ∨ x.heap.size ≤ j := by
  rintro j (rfl | ⟨t, ht, hj⟩)
  · exact .inl (.inl rfl)
  · replace hj : (if t = s then v' else wv t).ownBlock = some j := hj
    by_cases e : t = s
    · rw [if_pos e] at hj
      exact (hl j hj).imp (fun h => .inr ⟨s, hs, h⟩) id
    · rw [if_neg e] at hj
      exact .inl (.inr ⟨t, ht, hj⟩)
theorem want_new (hb : B ≤ x.heap.size) : WantAt B (x.alloc (.cells #[.slice none 0 0, .slice none 0 0, .slice none 0 0] 69)) x.heap.size (fun _ => .slice none 0 0) (fun _ => []) :=
  ⟨heap_alloc_new x _, fun s _ => World.ownsRow_nil _ _ _ _, fun s t _ _ _ j h => by (cases h), hb⟩
end
/-- One text in a block of its own. -/
def OneS (B : Nat) (b : ByteArray) (v : Value) (z : World) : Prop := ∃ g, v = .slice (some ⟨g, 0, none⟩) 1 1 ∧ B ≤ g ∧ z.heap[g]? = some (.cells #[.string b] 9 (0, 0))
theorem stable_oneS (B : Nat) (b : ByteArray) : Stable (OneS B b) := fun _ _ _ h hb => by
  obtain ⟨g, e, h1, h2⟩ := h
  exact ⟨g, e, h1, (hb.block g (lt_of_block h2)).trans h2⟩
theorem stableF_oneS {B : Nat} {b : ByteArray} {E : Nat → Prop} (hE : ∀ k, E k → k < B) : StableF E (OneS B b) := fun _ _ _ h hF => by
  obtain ⟨g, e, h1, h2⟩ := h
  exact ⟨g, e, h1, hF.blk h2 (fun e => by have := hE _ e; omega)⟩
/-- The list of texts, and a text more. -/
def RowS (B b0 : Nat) (lv : Value) (xs : List Value) (b : ByteArray) (v : Value) (z : World) : Prop := z.ownsRow b0 9 1 v (xs.length + 1) (xs ++ [.string b]) ∧ ∀ k, v.ownBlock = some k → lv.ownBlock = some k ∨ B ≤ k
theorem stable_rowS (B b0 : Nat) (lv : Value) (xs : List Value) (b : ByteArray) : Stable (RowS B b0 lv xs b) := fun _ _ _ h hb => ⟨ownsRow_keep h.1 (fun k hk => hb.block k (World.ownsRow.lt h.1 k hk).2), h.2⟩
theorem stableF_rowS {B b0 : Nat} {lv : Value} {xs : List Value} {b : ByteArray} {E : Nat → Prop} (hE : ∀ k, E k → k < B ∧ lv.ownBlock ≠ some k) : StableF E (RowS B b0 lv xs b) := fun _ _ _ h hF =>
  ⟨ownsRow_keep h.1 (fun k hk => hF.rest k (World.ownsRow.lt h.1 k hk).2 (fun e => by
    obtain ⟨h1, h2⟩ := hE k e
    rcases h.2 k hk with h3 | h3
    · exact h2 h3
    · omega)), h.2⟩
end Go.Proofs.YtamafdcnbcoegaaGreat
