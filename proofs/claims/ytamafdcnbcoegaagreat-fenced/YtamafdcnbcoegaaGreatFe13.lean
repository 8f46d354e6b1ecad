/-
  Part 13 of a proof: L19, L20, MonoFootIn, L21, L22, MonoIn, L23.
-/
import Derived.OrdersIn
import Derived.Maps.AppendAt
import Derived.Sort.CutIn
import Derived.Test.YtamafdcnbcoegaaGreatFe12
namespace Go.Proofs.YtamafdcnbcoegaaGreat
open Go.RowKit
theorem FramesOut.apartU {B : Nat} {w : World} {lv : Value} {fs : List Value} {Fl : List ByteArray} {U U' : Nat → Prop} (h : FramesOut B w lv fs Fl U) (hU : ∀ k, (lv.ownBlock = some k ∨ Done fs fs.length k) → ¬ U' k) : FramesOut B w lv fs Fl U' :=
 ⟨h.len, h.row, h.each, h.apart, hU⟩
structure SendI (w : World) (g0 p i : Nat) (c : Av) (st : Mod.Stv) (g : Nat → Nat) (free : List Nat) (pl : Nat → List Nat) (F : List ByteArray) (A : Mod.Ag) (W : World) : Prop where
 h0 : W.heap[g0]? = some (.cells #[.pointer (some ⟨p, 0, none⟩)] 88 (0, 0))
 h1 : W.heap[g0 + 1]? = some (.cells #[.int .i64 i] 3 (0, 0))
 h3 : W.heap[g0 + 3]? = some (.cells #[.pointer (some ⟨p, 4 + i * 6, none⟩)] 213 (0, 0))
 h4 : W.heap[g0 + 4]? = some (.cells #[.pointer (some ⟨p, 4 + i * 6, none⟩)] 209 (0, 0))
 h5 : W.heap[g0 + 5]? = some (.cells #[.int .i64 4] 3 (0, 0))
 mid : ∃ lv fs c' sh, W.heap[g0 + 2]? = some (.cells #[lv] 38 (0, 0)) ∧ FramesOut (g0 + 8) W lv fs F (PaU p c') ∧ PaAt W p g A.ticks A.welcome A.fenced free sh st c' ∧ OnAg A st.opening g free sh pl ∧ Far (PaU p c) w W ∧
  (∀ j, PaU p c' j → PaU p c j ∨ g0 + 8 ≤ j) ∧ c'.s = c.s ∧ c'.rv = c.rv ∧ c'.nv (i * 3) = c.nv (i * 3) ∧ c'.mv (i * 3) = c.mv (i * 3)
 sz : g0 + 8 ≤ W.heap.size
 lo : ∀ j, PaU p c j → j < g0
 gw : w.heap.size ≤ g0
section
variable {w W W' : World} {g0 p i : Nat} {c : Av} {st : Mod.Stv} {g : Nat → Nat} {free : List Nat} {pl : Nat → List Nat} {F : List ByteArray} {A : Mod.Ag}
theorem SendI.same2 (h : SendI w g0 p i c st g free pl F A W) (hS : Same2 (g0 + 6) W W') : SendI w g0 p i c st g free pl F A W' := by
 obtain ⟨lv, fs, c', sh, m1, m2, m3, m4, m5, m6, m7, m8, m9, m10⟩ := h.mid
 have hq : ∀ k, k ≠ g0 + 6 → k ≠ g0 + 7 → W'.heap[k]? = W.heap[k]? := fun k h1 h2 => hS.rest k h1 (by omega)
 have hF : Far (fun k => k = g0 + 6 ∨ k = g0 + 7) W W' := ⟨hS.os, hS.tape, hS.output, by rw [hS.size]; exact Nat.le_refl _, fun k _ he => hq k (fun e => he (.inl e)) (fun e => he (.inr e))⟩
 have hno : ∀ k, PaU p c' k → ¬ (k = g0 + 6 ∨ k = g0 + 7) := fun k hk e => by
  rcases m6 k hk with h1 | h1
  ·have := h.lo k h1; omega
  ·omega
 refine ⟨(hq _ (by omega) (by omega)).trans h.h0, (hq _ (by omega) (by omega)).trans h.h1, (hq _ (by omega) (by omega)).trans h.h3, (hq _ (by omega) (by omega)).trans h.h4, (hq _ (by omega) (by omega)).trans h.h5,
  ⟨lv, fs, c', sh, (hq _ (by omega) (by omega)).trans m1, m2.keep (fun k hk => ?_), m3.far hF hno, m4, m5.trans hF (fun k hk e => by have := h.gw; omega), m6, m7, m8, m9, m10⟩, by rw [hS.size]; exact h.sz, h.lo, h.gw⟩
 have := (m2.lt k hk).1
 exact hq k (by omega) (by omega)
theorem SendI.below (h : SendI w g0 p i c st g free pl F A W) (hb : Below W.heap.size W W') : SendI w g0 p i c st g free pl F A W' := by
 obtain ⟨lv, fs, c', sh, m1, m2, m3, m4, m5, m6, m7, m8, m9, m10⟩ := h.mid
 have hz := h.sz
 have hq : ∀ k, k < W.heap.size → W'.heap[k]? = W.heap[k]? := fun k hk => hb.block k hk
 exact ⟨(hq _ (by omega)).trans h.h0, (hq _ (by omega)).trans h.h1, (hq _ (by omega)).trans h.h3, (hq _ (by omega)).trans h.h4, (hq _ (by omega)).trans h.h5,
  ⟨lv, fs, c', sh, (hq _ (by omega)).trans m1, m2.keep (fun k hk => hq k (m2.lt k hk).2), m3.below hb, m4, m5.trans (far_below (E := PaU p c) hb) (fun _ _ h => h), m6, m7, m8, m9, m10⟩, Nat.le_trans hz hb.size, h.lo, h.gw⟩
theorem SendI.iter (h : SendI w g0 p i c st g free pl F A W) (hi : i < 3) : IterAt W (g0 + 4) p (4 + i * 6) 4 (c.nv (i * 3)) (c.mv (i * 3)) (keptL (A.fl i).base (A.fl i).kept (pl i)) := by
 obtain ⟨lv, fs, c', sh, m1, m2, m3, m4, m5, m6, m7, m8, m9, m10⟩ := h.mid
 have hs := m3.ks.shs (i * 3) (by omega)
 rw [m4.kp i hi, m9, m10] at hs
 refine ⟨blk_cell h.h4, blk_cell h.h5, ?_, ?_, hs⟩
 ·rw [blk_cell m3.ks.blk, show 4 + i * 6 = 4 + i * 3 * 2 by omega, m3.ks.an (i * 3) (by omega), m9]
 ·rw [blk_cell m3.ks.blk, show 4 + i * 6 + 1 = 4 + i * 3 * 2 + 1 by omega, m3.ks.am (i * 3) (by omega), m10]
end
end Go.Proofs.YtamafdcnbcoegaaGreat
namespace Go.Proofs.YtamafdcnbcoegaaGreat
open Go.RowKit
section
variable {w W : World} {g0 p i : Nat} {c : Av} {st : Mod.Stv} {g : Nat → Nat} {free : List Nat} {pl : Nat → List Nat} {F : List ByteArray} {a : Mod.Ag} {tk k : Nat}
theorem SendI.put (h : SendI w g0 p i c st g free pl F (sentAg a i tk k) W) (hi : i < 3) (hk : k < (a.fl i).kept.length) (hd : Mod.due (a.fl i) tk k (a.fl i).kept[k].2 = true) (ht : tk ≠ 0) :
  Calls Tryz.prog 139 #[.pointer (some ⟨p, 4 + i * 6 + 2, none⟩), .int .i64 ((a.fl i).base + 1 + k : Nat), .int .i64 tk] W fun r z => r = .returned (.tuple #[]) ∧ SendI w g0 p i c st g free pl F (sentAg a i tk (k + 1)) z ∧ z.heap[g0 + 6]? = W.heap[g0 + 6]? ∧ z.heap[g0 + 7]? = W.heap[g0 + 7]? ∧ W.heap.size ≤ z.heap.size ∧ ∀ (j : Nat) (cs : Array Value), W.heap[j]? = some (Obj.cells cs 158 (0, 0)) → z.heap[j]? = W.heap[j]? := by
 obtain ⟨lv, fs, c', sh, m1, m2, m3, m4, m5, m6, m7, m8, m9, m10⟩ := h.mid
 have hlen : (sh (i * 3 + 1)).length < 1000 := by
  have h1 := sent_small (m3.ks.shs (i * 3 + 1) (by omega)).sorted (m4.sn i hi)
  have h2 := room_le (a := sentAg a i tk k) hi
  have h3 := m4.sum
  omega
 have hP := putI_any (m3.shAt (i := i * 3 + 1) (by omega)) hlen ((a.fl i).base + 1 + k) tk
 rw [show 4 + (i * 3 + 1) * 2 = 4 + i * 6 + 2 by omega] at hP
 refine hP.mono ?_
 rintro r z ⟨rfl, hst⟩
 refine ⟨rfl, ?_⟩
 rw [show 4 + i * 6 + 2 = 4 + (i * 3 + 1) * 2 by omega] at hst
 obtain ⟨c4, K4, F4, N4, v1, v2⟩ := paStep_sh m3 (by omega) hst
 have hnv := paAt_nv m3 hst K4 (i * 3) (by omega) (by omega)
 have hFU : ∀ k, (k = p ∨ ShU (c'.nv (i * 3 + 1)) (c'.mv (i * 3 + 1)) k) → PaU p c' k := fun k hk => hk.elim (fun h => .inl (.inl h)) (fun h => .inl (.inr (.inr ⟨i * 3 + 1, by omega, h⟩)))
 have hz := h.sz
 have hno : ∀ j, g0 ≤ j → j < g0 + 8 → ¬ PaU p c' j := fun j h1 h2 hu => by
  rcases m6 j hu with h3 | h3
  ·have := h.lo j h3; omega
  ·omega
 have hq : ∀ j, g0 ≤ j → j < g0 + 8 → z.heap[j]? = W.heap[j]? := fun j h1 h2 => F4.rest j (by omega) (hno j h1 h2)
 have O4 := onAg_sentAg m4 hi hk hd ht
 have hm2 := (m2.keep (x := z) (fun j hj => F4.rest j (m2.lt j hj).2 (m2.clear j hj))).apartU (U' := PaU p c4) (fun j hj hu => by
  rcases N4 j hu with h3 | h3
  ·exact m2.clear j hj h3
  ·have := (m2.lt j hj).2; omega)
 refine ⟨?_, hq _ (by omega) (by omega), hq _ (by omega) (by omega), F4.size, fun j cs hj => F4.rest j (lt_of_block hj) (pa_not_cells m3 hj (by decide) (by decide) (by decide) (by decide) (by decide) (by decide) (by decide))⟩
 refine ⟨(hq _ (by omega) (by omega)).trans h.h0, (hq _ (by omega) (by omega)).trans h.h1, (hq _ (by omega) (by omega)).trans h.h3, (hq _ (by omega) (by omega)).trans h.h4, (hq _ (by omega) (by omega)).trans h.h5,
  ⟨lv, fs, c4, _, (hq _ (by omega) (by omega)).trans m1, hm2, K4, O4, m5.trans F4 (fun j hj hu => (m6 j hu).elim id (fun h3 => by have := h.gw; omega)), fun j hu => ?_, v1.trans m7, v2.trans m8, hnv.1.trans m9, hnv.2.trans m10⟩, Nat.le_trans hz F4.size, h.lo, h.gw⟩
 rcases N4 j hu with h3 | h3
 ·exact m6 j h3
 ·exact .inr (by omega)
end
end Go.Proofs.YtamafdcnbcoegaaGreat
namespace Go.Proofs.YtamafdcnbcoegaaGreat
open Go.RowKit
section
variable {P : Program} {ops : Array Oper} {Q : Exit → Act → World → Prop} {lr n : Nat}
theorem monoIn_foot {a0 : Act} {w0 : World} (Φ : Nat → Value → World → Prop) (E : Nat → Nat → Prop) (hok : monoOk ops a0.tmps.size = true)
  (hst : ∀ i j v w w', i ≠ j → depB ops j i = false → Φ j v w → Far (E i) w w' → Φ j v w')
  (hop : ∀ i o, ops[i]? = some o → ∀ a w, Far (fun b => ∃ k, k ≠ i ∧ depB ops k i = false ∧ E k b) w0 w → GoodAct ops Φ a0 i o a w →
   if Region.wanted o (yielded ops a.tmps) = true then Oper.wpIn (Fence.wide.inRound lr) n P o a w (fun a' w' => ∃ v, a' = a.put o.dst v ∧ Far (E i) w w' ∧ Φ i (valOf o.dst v) w') Q else Φ i undef w)
  (hend : ∀ a w, Far (fun b => ∃ k, E k b) w0 w → (∀ i o, ops[i]? = some o → Φ i (match o.dst with | some d => a.tmps.getD d undef | none => undef) w) → (∀ t, wr ops t = none → a.tmps.getD t undef = a0.tmps.getD t undef) → a.defers = a0.defers → a.tmps.size = a0.tmps.size → Q .normal a w) :
  ∀ (fuel : Nat) (L : Array Bool) (a : Act) (w : World), FootInv ops Φ E a0 w0 L a w → (List.range ops.size).countP (fun i => !L.getD i false) ≤ fuel → wpAnyIn (Fence.wide.inRound lr) n P .any ops Q fuel L a w := by
 have hrdy : ∀ (L : Array Bool) (a : Act) (w : World), FootInv ops Φ E a0 w0 L a w → Region.ready .any ops L = [] → Q .normal a w := by
  intro L a w hI hr
  have hall : ∀ n i, i < n → i < ops.size → L.getD i false = true := by
   intro n
   induction n with
   | zero => intro i h; omega
   | succ n ih =>
    intro i h hi
    by_cases hin : i < n
    ·exact ih i hin hi
    ·have e : i = n := by omega
     subst e
     cases hL : L.getD i false
     ·exfalso
      have ho : ops[i]? = some ops[i] := Array.getElem?_eq_getElem hi
      obtain ⟨_, _, h3⟩ := monoOk_spec hok ho
      have : i ∈ Region.ready .any ops L := mem_ready.2 ⟨by
       have hs : i < L.size := by rw [hI.size]; exact hi
       rw [Array.getD_eq_getD_getElem?, Array.getElem?_eq_getElem hs] at hL ⊢
       exact hL, ops[i], ho, fun e he hb => by
       have hd : depB ops i e.on = true := by
        unfold depB
        rw [ho]
        exact Array.any_eq_true'.2 ⟨e, he, by simp [hb]⟩
       have hlt := h3 _ hd
       exact ih e.on hlt (by omega)⟩
      rw [hr] at this
      cases this
     ·rfl
  refine hend a w (hI.ext.mono (fun b _ h => h.imp fun k h => h.2)) (fun i o ho => hI.vals i o ho (hall ops.size i (Array.getElem?_eq_some_iff.1 ho).1 (Array.getElem?_eq_some_iff.1 ho).1)) (fun t ht => hI.rest t (fun j hj => by rw [ht] at hj; cases hj)) hI.defers hI.tsize
 intro fuel
 induction fuel with
 | zero =>
  intro L a w hI hc
  have hr : Region.ready .any ops L = [] := by
   apply List.eq_nil_iff_forall_not_mem.2
   intro i hi
   obtain ⟨h0, o, ho, _⟩ := mem_ready.1 hi
   have hlt : i < ops.size := (Array.getElem?_eq_some_iff.1 ho).1
   have h0' : L.getD i false = false := by
    have hs : i < L.size := by rw [hI.size]; exact hlt
    rw [Array.getD_eq_getD_getElem?, Array.getElem?_eq_getElem hs] at h0 ⊢
    exact h0
   have : 0 < (List.range ops.size).countP (fun i => !L.getD i false) := List.countP_pos_iff.2 ⟨i, List.mem_range.2 hlt, by simp [h0']⟩
   omega
  exact ⟨hr, hrdy L a w hI hr⟩
 | succ fuel ih =>
  intro L a w hI hc
  refine ⟨hrdy L a w hI, fun i hi => ?_⟩
  obtain ⟨h0, o, ho, hdeps⟩ := mem_ready.1 hi
  have hlt : i < ops.size := (Array.getElem?_eq_some_iff.1 ho).1
  have hls : i < L.size := by rw [hI.size]; exact hlt
  have h0' : L.getD i false = false := by
   rw [Array.getD_eq_getD_getElem?, Array.getElem?_eq_getElem hls] at h0 ⊢
   exact h0
  obtain ⟨hd, hl, hlex⟩ := monoOk_spec hok ho
  have hdl : ∀ j, depB ops i j = true → L.getD j false = true := by
   intro j hj
   unfold depB at hj
   rw [ho] at hj
   obtain ⟨e, he, hb⟩ := Array.any_eq_true'.1 hj
   simp only [Bool.and_eq_true, beq_iff_eq] at hb
   rw [← hb.2]; exact hdeps e he hb.1
  have hgood : GoodAct ops Φ a0 i o a w := by
   intro t ht
   cases hw : wr ops t with
   | none => exact hI.rest t (fun j hj => by rw [hw] at hj; cases hj)
   | some j =>
    simp only []
    have hj := List.find?_some hw
    simp only [beq_iff_eq] at hj
    split
    ·rename_i hdep
     cases hoj : ops[j]? with
     | none => rw [hoj] at hj; cases hj
     | some oj =>
      rw [hoj] at hj
      have hvv := hI.vals j oj hoj (hdl j hdep)
      have hj' : oj.dst = some t := hj
      rw [hj'] at hvv
      exact hvv
    ·rename_i hdep
     refine hI.rest t (fun j' hj' => ?_)
     rw [hw] at hj'
     cases hj'
     rcases hl t ht j hw with h | h
     ·exact absurd h hdep
     ·cases hLj : L.getD j false
      ·rfl
      ·have := hI.closed j hLj i h
       rw [h0'] at this; cases this
  have hstep : ∀ v w', Far (E i) w w' → Φ i (valOf o.dst v) w' → FootInv ops Φ E a0 w0 (L.setIfInBounds i true) (a.put o.dst v) w' := by
   intro v w' hb hv
   have hget : ∀ k, (L.setIfInBounds i true).getD k false = true ↔ (k = i ∨ L.getD k false = true) := by
    intro k
    by_cases hk : k = i
    ·subst hk
     simp [Array.getD_eq_getD_getElem?, hls]
    ·rw [getD_set_ne false (fun e => hk e.symm)]
     simp [hk]
   have hput : ∀ t, (a.put o.dst v).tmps.getD t undef = if o.dst = some t then v else a.tmps.getD t undef := by
    intro t
    cases hdst : o.dst with
    | none => simp [Act.put]
    | some d =>
     simp only [Act.put, Option.some.injEq]
     have hdsz : d < a.tmps.size := by rw [hI.tsize]; exact (hd d hdst).1
     by_cases h : d = t
     ·subst h
      simp [Array.getD_eq_getD_getElem?, hdsz]
     ·simp [Array.getD_eq_getD_getElem?, h]
   refine ⟨by simp [hI.size], (hI.ext.mono (fun b _ h => by obtain ⟨k, h1, h2⟩ := h; exact ⟨k, (hget k).2 (.inr h1), h2⟩)).trans hb (fun b _ h => ⟨i, (hget i).2 (.inl rfl), h⟩), ?_, ?_, ?_, ?_, ?_⟩
   ·intro k hk j hj
    rw [hget] at hk ⊢
    rcases hk with rfl | hk
    ·exact .inr (hdl j hj)
    ·exact .inr (hI.closed k hk j hj)
   ·intro k ok hok' hk
    rw [hget] at hk
    rcases hk with rfl | hk
    ·rw [ho] at hok'; cases hok'
     cases hdst : o.dst with
     | none => rw [hdst] at hv; exact hv
     | some d =>
      rw [hdst] at hv
      simp only []
      have hp := hput d
      rw [if_pos hdst, hdst] at hp
      rw [hp]; exact hv
    ·have hki : i ≠ k := by
      intro e
      subst e
      rw [h0'] at hk; cases hk
     have hnd : depB ops k i = false := by
      cases hd : depB ops k i with
      | false => rfl
      | true =>
       have := hI.closed k hk i hd
       rw [h0'] at this; cases this
     have hvk := hst i k _ _ _ hki hnd (hI.vals k ok hok' hk) hb
     cases hdk : ok.dst with
     | none => rw [hdk] at hvk; exact hvk
     | some d =>
      rw [hdk] at hvk
      simp only [] at hvk ⊢
      have hne : o.dst ≠ some d := by
       intro e
       have h1 := (hd d e).2
       have h2 := ((monoOk_spec hok hok').1 d hdk).2
       rw [h1] at h2
       cases h2
       exact hki rfl
      rw [hput, if_neg hne]
      exact hvk
   ·intro t ht
    rw [hput]
    have hne : o.dst ≠ some t := by
     intro e
     have := ht i (hd t e).2
     have h2 := (hget i).2 (.inl rfl)
     rw [this] at h2; cases h2
    rw [if_neg hne]
    refine hI.rest t (fun j hj => ?_)
    cases hLj : L.getD j false
    ·rfl
    ·have := ht j hj
     rw [(hget j).2 (.inr hLj)] at this; cases this
   ·cases o.dst <;> exact hI.defers
   ·rw [← hI.tsize]; cases o.dst <;> simp [Act.put]
  have hcount : (List.range ops.size).countP (fun k => !(L.setIfInBounds i true).getD k false) ≤ fuel := by
   have := countP_lt (l := List.range ops.size) (p := fun k => !L.getD k false) (q := fun k => !(L.setIfInBounds i true).getD k false)
    (fun k _ hk => by
     by_cases hki : k = i
     ·subst hki; simp [h0']
     ·rw [getD_set_ne false (fun e => hki e.symm)] at hk; exact hk)
    ⟨i, List.mem_range.2 hlt, by simp [h0'], by simp [Array.getD_eq_getD_getElem?, hls]⟩
   omega
  have hg := hop i o ho a w (hI.ext.mono (fun b _ h => by
   obtain ⟨k, h1, h2⟩ := h
   refine ⟨k, fun e => ?_, ?_, h2⟩
   ·subst e; rw [h0'] at h1; cases h1
   ·cases hd : depB ops k i with
    | false => rfl
    | true =>
     have := hI.closed k h1 i hd
     rw [h0'] at this; cases this)) hgood
  unfold wpOpIn
  rw [ho]
  simp only []
  split at hg
  ·rename_i hw
   rw [if_pos hw]
   refine Oper.wpIn_mono ?_ hg
   rintro a' w' ⟨v, rfl, hb, hv⟩
   exact ih _ _ _ (hstep v w' hb hv) hcount
  ·rename_i hw
   rw [if_neg hw]
   exact ⟨fun _ _ => trivial, ih _ _ _ (hstep undef w (Far.refl _ _) (by cases o.dst <;> exact hg)) hcount⟩
def FootOpsIn (lr n : Nat) (P : Program) (ops : Array Oper) (Q : Exit → Act → World → Prop) (L : List (Value → World → Prop)) (Ws : List (Nat × (Nat → Prop))) (a0 : Act) (w0 : World) : Nat → List Oper → List (List (Tmp × Option Nat)) → List (Value → World → Prop) → Prop
 | i, o :: os, pl :: pls, φ :: φs => (∀ a w, Far (footBut Ws ops i) w0 w → PlanFacts L a0 a w pl →
   if Region.wanted o (yielded ops a.tmps) = true then Oper.wpIn (Fence.wide.inRound lr) n P o a w (fun a' w' => ∃ v, a' = a.put o.dst v ∧ Far (footOf Ws i) w w' ∧ φ (valOf o.dst v) w') Q else φ undef w) ∧ FootOpsIn lr n P ops Q L Ws a0 w0 (i + 1) os pls φs
 | _, [], _, _ => True
 | _, _, _, _ => False
theorem footOpsIn_get {L : List (Value → World → Prop)} {Ws : List (Nat × (Nat → Prop))} {a0 : Act} {w0 : World} : ∀ {s : Nat} {os : List Oper} {pls : List (List (Tmp × Option Nat))} {φs : List (Value → World → Prop)}, FootOpsIn lr n P ops Q L Ws a0 w0 s os pls φs →
  ∀ (i : Nat) o pl, os[i]? = some o → pls[i]? = some pl → ∀ a w, Far (footBut Ws ops (s + i)) w0 w → PlanFacts L a0 a w pl →
   if Region.wanted o (yielded ops a.tmps) = true then Oper.wpIn (Fence.wide.inRound lr) n P o a w (fun a' w' => ∃ v, a' = a.put o.dst v ∧ Far (footOf Ws (s + i)) w w' ∧ φs.getD i (fun _ _ => True) (valOf o.dst v) w') Q else φs.getD i (fun _ _ => True) undef w
 | _, [], _, _, _, i, o, pl, ho, _ => by simp at ho
 | _, o :: os, [], _, h, _, _, _, _, _ => h.elim
 | _, o :: os, pl :: pls, [], h, _, _, _, _, _ => h.elim
 | _, o :: os, pl :: pls, φ :: φs, h, 0, o', pl', ho, hp => by
  simp at ho hp; subst ho; subst hp
  exact h.1
 | s, o :: os, pl :: pls, φ :: φs, h, i + 1, o', pl', ho, hp => by
  have := footOpsIn_get h.2 i o' pl' (by simpa using ho) (by simpa using hp)
  rw [show s + 1 + i = s + (i + 1) by omega] at this
  simpa using this
theorem wpIn_region_foot {id : Nat} {a0 : Act} {w0 : World} (hm : P.follows .mixedOrders = true) (L : List (Value → World → Prop)) (plan : List (List (Tmp × Option Nat))) (D : List (Option Tmp)) (M : List Bool) (Ws : List (Nat × (Nat → Prop)))
  (hon : onceB Ws = true) (hok : monoOk ops a0.tmps.size = true) (hplan : planOf ops = plan) (hD : dstsOf ops = D) (hM : maskOf ops a0.tmps.size = M) (hst : AllStable L) (hstF : AllStableF ops L Ws) (hop : FootOpsIn lr n P ops Q L Ws a0 w0 0 ops.toList plan L)
  (hend : ∀ f w, Far (fun b => ∃ p ∈ Ws, p.2 b) w0 w → EveryWord f w D L → Q .normal { tmps := (mergeT M a0.tmps.toList 0 f).toArray, defers := a0.defers } w) :
  (Code.region id ops true).wpIn (Fence.wide.inRound lr) n P Q a0 w0 := by
 refine wpIn_region_any hm (monoIn_foot (w0 := w0) (fun i => L.getD i (fun _ _ => True)) (footOf Ws) hok ?_ ?_ ?_ ops.size _ a0 _ ⟨by simp, far_below ((Below.refl _ _).drew), ?_, ?_, fun _ _ => rfl, rfl, rfl⟩ ?_)
 ·intro i j v w w' hij hd hv hF
  by_cases hi : ∃ p ∈ Ws, p.1 = i
  ·obtain ⟨p, hp, rfl⟩ := hi
   have hs := stableBut_get (allStableF_get hstF p hp) j (by omega) (by rw [Nat.zero_add]; exact hd)
   exact hs v w w' hv (hF.mono (fun b _ h => by
    obtain ⟨q, hq, e, hb⟩ := h
    rw [once_same hon hp hq e.symm]; exact hb))
  ·exact allStable_get hst j v w w' hv (hF.below (Nat.le_refl _) (fun k _ h => by
    obtain ⟨q, hq, e, _⟩ := h
    exact hi ⟨q, hq, e⟩))
 ·intro i o ho a w hb hg
  have hlt : i < ops.size := (Array.getElem?_eq_some_iff.1 ho).1
  have hpl : plan[i]? = some ((o.looksAt ops).map fun t => (t, match wr ops t with
     | some j => if depB ops i j = true then some j else none
     | none => none)) := by
   rw [← hplan]
   unfold planOf
   rw [List.getElem?_map, List.getElem?_range hlt, Option.map_some, ho]
   try rfl
  have := footOpsIn_get hop i o _ (by simpa using ho) hpl a w (by
   rw [Nat.zero_add]
   exact hb.mono (fun b _ h => by
    obtain ⟨k, h1, h2, p, hp, rfl, h3⟩ := h
    exact ⟨p, hp, h1, h2, h3⟩)) (planFacts_of rfl (o := o) _ hg)
  rw [Nat.zero_add] at this
  exact this
 ·intro a w hb hv hr hd hs
  have h := hend (fun t => a.tmps.getD t undef) w (hb.mono (fun b _ h => by
   obtain ⟨k, p, hp, _, h3⟩ := h
   exact ⟨p, hp, h3⟩)) (by rw [← hD]; exact everyWord_of (fun i o ho => hv i o (by simpa using ho)))
  have e : mergeT M a0.tmps.toList 0 (fun t => a.tmps.getD t undef) = a.tmps.toList := by
   refine mergeT_eq _ _ _ _ _ (by rw [← hM]; simp [maskOf]) (by simpa using hs) ?_ ?_
   ·intro j hj _
    simp [Array.getD_eq_getD_getElem?, List.getD_eq_getElem?_getD]
   ·intro j hj hb
    rw [← hM] at hb
    have hj' : j < a0.tmps.size := by rw [← hs]; simpa using hj
    have hw : wr ops j = none := by
     unfold maskOf at hb
     simp [List.getD_eq_getElem?_getD, List.getElem?_map, List.getElem?_range hj'] at hb
     exact hb
    have := hr j hw
    simpa [Array.getD_eq_getD_getElem?, List.getD_eq_getElem?_getD] using this
  rw [e, ← hd] at h
  exact h
 ·intro k hk
  simp [Array.getD_eq_getD_getElem?] at hk
  rcases h : (Array.replicate ops.size false)[k]? with _ | b <;> simp [h] at hk
  subst hk
  have := Array.getElem?_eq_some_iff.1 h
  obtain ⟨h1, h2⟩ := this
  simp at h2
 ·intro i o ho hk
  exfalso
  simp [Array.getD_eq_getD_getElem?] at hk
  rcases h : (Array.replicate ops.size false)[i]? with _ | b <;> simp [h] at hk
  subst hk
  have := Array.getElem?_eq_some_iff.1 h
  obtain ⟨h1, h2⟩ := this
  simp at h2
 ·exact Nat.le_trans List.countP_le_length (by simp)
end
end Go.Proofs.YtamafdcnbcoegaaGreat
namespace Go.Proofs.YtamafdcnbcoegaaGreat
open Go.RowKit
theorem sendTo_fst (e s : Nat) (f : Mod.Flow) (t : Nat) : ∀ k, (Mod.sendTo e s f t k).1.map (·.1) = f.kept.map (·.1)
 | 0 => rfl
 | k + 1 => by
  have ih := sendTo_fst e s f t k
  by_cases h : k < f.kept.length
  ·cases hd : Mod.due f t k f.kept[k].2 with
   | false => rw [sendTo_skip h hd]; exact ih
   | true =>
    rw [sendTo_send h hd]
    simp only [List.map_set, ih]
    refine List.ext_getElem? fun n => ?_
    rw [List.getElem?_set]
    by_cases en : k = n
    ·subst en
     rw [if_pos rfl, if_pos (by simpa using h), List.getElem?_map, List.getElem?_eq_getElem h]
     rfl
    ·rw [if_neg en]
  ·rw [sendTo_over (by omega)]; exact ih
def sentFr (a : Mod.Ag) (i tk k : Nat) : List ByteArray := (Mod.sendTo a.epoch i (a.fl i) tk k).2.map fun l => ⟨l.toArray⟩
theorem sentFr_send {a : Mod.Ag} {i tk k : Nat} (hk : k < (a.fl i).kept.length) (hd : Mod.due (a.fl i) tk k (a.fl i).kept[k].2 = true) : sentFr a i tk (k + 1) = sentFr a i tk k ++ [⟨(Wire.bytes 3 a.epoch i ((a.fl i).base + 1 + k : Nat) (a.fl i).kept[k].1.data.toList).toArray⟩] := by
 unfold sentFr
 rw [sendTo_send hk hd]
 simp
theorem sentFr_skip {a : Mod.Ag} {i tk k : Nat} (hk : k < (a.fl i).kept.length) (hd : Mod.due (a.fl i) tk k (a.fl i).kept[k].2 = false) : sentFr a i tk (k + 1) = sentFr a i tk k := by
 unfold sentFr
 rw [sendTo_skip hk hd]
theorem sentFr_four {a : Mod.Ag} {i tk k : Nat} (h : k = min 4 (a.fl i).kept.length) : sentFr a i tk 4 = sentFr a i tk k := by
 unfold sentFr
 rw [sendTo_four (i := k) (by omega) (by omega)]
section
variable {w W : World} {g0 p i : Nat} {c : Av} {st : Mod.Stv} {g : Nat → Nat} {free : List Nat} {sh : Nat → List (Nat × Value)} {pl : Nat → List Nat} {F : List ByteArray} {a : Mod.Ag} {tk k : Nat}
theorem SendI.iterK (h : SendI w g0 p i c st g free pl F (sentAg a i tk k) W) (hi : i < 3) : IterAt W (g0 + 4) p (4 + i * 6) 4 (c.nv (i * 3)) (c.mv (i * 3)) (keptL (a.fl i).base (a.fl i).kept (pl i)) := by
 have := h.iter hi
 rw [sentAg_fl] at this
 rw [keptL_same (a.fl i).base (a.fl i).kept (Mod.sendTo a.epoch i (a.fl i) tk k).1 (pl i) (sendTo_fst _ _ _ _ _).symm]
 exact this
theorem sendI_start (H : PaAt w p g a.ticks a.welcome a.fenced free sh st c) (O : OnAg a st.opening g free sh pl) (hg : g0 = w.heap.size) (hb : Below g0 w W)
  (h0 : W.heap[g0]? = some (.cells #[.pointer (some ⟨p, 0, none⟩)] 88 (0, 0)))
  (h1 : W.heap[g0 + 1]? = some (.cells #[.int .i64 i] 3 (0, 0)))
  (h2 : W.heap[g0 + 2]? = some (.cells #[.slice none 0 0] 38 (0, 0)))
  (h3 : W.heap[g0 + 3]? = some (.cells #[.pointer (some ⟨p, 4 + i * 6, none⟩)] 213 (0, 0)))
  (h4 : W.heap[g0 + 4]? = some (.cells #[.pointer (some ⟨p, 4 + i * 6, none⟩)] 209 (0, 0)))
  (h5 : W.heap[g0 + 5]? = some (.cells #[.int .i64 4] 3 (0, 0))) (hz : g0 + 8 ≤ W.heap.size) :
  SendI w g0 p i c st g free pl (sentFr a i tk 0) (sentAg a i tk 0) W := by
 have hbw : Below w.heap.size w W := by rw [← hg]; exact hb
 rw [sentAg_zero]
 refine ⟨h0, h1, h3, h4, h5, ⟨_, [], c, sh, h2, ⟨rfl, World.ownsRow_nil _ _ _ _, (fun j v hj => by simp at hj), (fun i j u v hi => by simp at hi), fun k hk => ?_⟩, H.below hbw, O, far_below hbw, fun j hj => .inl hj, rfl, rfl, rfl, rfl⟩, hz, fun j hj => by have := H.lt j hj; omega, by omega⟩
 rcases hk with h | ⟨j, hj, _⟩
 ·cases h
 ·simp at hj
end
end Go.Proofs.YtamafdcnbcoegaaGreat
namespace Go.Proofs.YtamafdcnbcoegaaGreat
open Go.RowKit
section
variable {w W z : World} {g0 p i : Nat} {c c' : Av} {st : Mod.Stv} {g : Nat → Nat} {free : List Nat} {sh : Nat → List (Nat × Value)} {pl : Nat → List Nat} {F : List ByteArray} {A : Mod.Ag} {lv lv' v : Value} {fs : List Value} {b : ByteArray}
theorem sendI_app (h : SendI w g0 p i c st g free pl F A W) (m1 : W.heap[g0 + 2]? = some (.cells #[lv] 38 (0, 0))) (m2 : FramesOut (g0 + 8) W lv fs F (PaU p c')) (m3 : PaAt W p g A.ticks A.welcome A.fenced free sh st c') (m4 : OnAg A st.opening g free sh pl) (m5 : Far (PaU p c) w W)
  (m6 : ∀ j, PaU p c' j → PaU p c j ∨ g0 + 8 ≤ j) (m7 : c'.s = c.s) (m8 : c'.rv = c.rv) (m9 : c'.nv (i * 3) = c.nv (i * 3)) (m10 : c'.mv (i * 3) = c.mv (i * 3))
  (hF : Far (fun k => lv.ownBlock = some k) W z) (hv : Owns W.heap.size z v b.data.toList) (hr : z.ownsRow (g0 + 8) 44 1 lv' (fs.length + 1) (fs ++ [v])) (hl : ∀ k, lv'.ownBlock = some k → lv.ownBlock = some k ∨ W.heap.size ≤ k) :
  SendI w g0 p i c st g free pl (F ++ [b]) A (z.setCell ⟨g0 + 2, 0, none⟩ lv') := by
 have hset := far_set z (g0 + 2) 0 lv'
 have hsz := h.sz
 have hgw := h.gw
 have hzz := hF.size
 have hlb : ∀ k, lv.ownBlock = some k → g0 + 8 ≤ k ∧ k < W.heap.size := fun k hk => m2.lt k (.inl hk)
 have hFF : Far (fun k => lv.ownBlock = some k ∨ k = g0 + 2) W (z.setCell ⟨g0 + 2, 0, none⟩ lv') := (hF.mono (fun _ _ h => .inl h)).trans hset (fun _ _ h => .inr h)
 have hno : ∀ k, PaU p c' k → ¬ (lv.ownBlock = some k ∨ k = g0 + 2) := fun k hk e => by
  rcases e with e | e
  ·exact m2.clear k (.inl e) hk
  ·rcases m6 k hk with h1 | h1
   ·have := h.lo k h1; omega
   ·omega
 have hq : ∀ k, k ≠ g0 + 2 → k < g0 + 8 → (z.setCell ⟨g0 + 2, 0, none⟩ lv').heap[k]? = W.heap[k]? := fun k h1 h2 => hFF.rest k (by omega) (fun e => e.elim (fun e => by have := (hlb k e).1; omega) (fun e => h1 e))
 have hlen := m2.len
 have hvl : ∀ k, v.ownBlock = some k → W.heap.size ≤ k ∧ k < z.heap.size := fun k hk => World.ownsRow.lt hv k hk
 have hne : ∀ (j : Nat) (u : Value), fs[j]? = some u → ∀ k, u.ownBlock = some k → g0 + 8 ≤ k ∧ k < W.heap.size ∧ lv.ownBlock ≠ some k := fun j u hj k hk => by
  have h1 := World.ownsRow.lt (m2.each j u hj) k hk
  exact ⟨h1.1, h1.2, own_ty (own0 (m2.each j u hj)) (own0 m2.row) (by decide) hk⟩
 have hfr : FramesOut (g0 + 8) (z.setCell ⟨g0 + 2, 0, none⟩ lv') lv' (fs ++ [v]) (F ++ [b]) (PaU p c') := by
  refine ⟨by simp [hlen], ?_, fun j u hj => ?_, fun j1 j2 u1 u2 hj1 hj2 hjn k hk1 hk2 => ?_, fun k hk hu => ?_⟩
  ·have := ownsRow_keep hr (w' := z.setCell ⟨g0 + 2, 0, none⟩ lv') (fun k hk => by
    have := World.ownsRow.lt hr k hk
    exact hset.rest k this.2 (by omega))
   simpa using this
  ·by_cases hjl : j < fs.length
   ·rw [List.getElem?_append_left hjl] at hj
    have e : ((F ++ [b]).map fun b => b.data.toList).getD j [] = (F.map fun b => b.data.toList).getD j [] := by
     rw [List.getD_eq_getElem?_getD, List.getD_eq_getElem?_getD, List.map_append, List.getElem?_append_left (by simp; omega)]
    rw [e]
    exact ownsRow_keep (m2.each j u hj) (fun k hk => by
     obtain ⟨h1, h2, h3⟩ := hne j u hj k hk
     exact hFF.rest k h2 (fun e => e.elim h3 (fun e => by omega)))
   ·rw [List.getElem?_append_right (by omega)] at hj
    have hj0 : j - fs.length = 0 := by
     cases hd : j - fs.length with
     | zero => rfl
     | succ n => rw [hd] at hj; simp at hj
    rw [hj0] at hj
    simp at hj
    subst hj
    have e : ((F ++ [b]).map fun b => b.data.toList).getD j [] = b.data.toList := by
     rw [List.getD_eq_getElem?_getD, List.map_append, List.getElem?_append_right (by simp; omega)]
     simp [show j - F.length = 0 by omega]
    rw [e]
    refine ownsRow_monoB (ownsRow_keep hv (fun k hk => ?_)) (Nat.le_trans hsz (Nat.le_refl _))
    have := hvl k hk
    exact hset.rest k this.2 (by omega)
  ·have hcase : ∀ (j : Nat) (u : Value), (fs ++ [v])[j]? = some u → (fs[j]? = some u ∧ j < fs.length) ∨ (u = v ∧ j = fs.length) := fun j u hj => by
    by_cases hjl : j < fs.length
    ·rw [List.getElem?_append_left hjl] at hj; exact .inl ⟨hj, hjl⟩
    ·rw [List.getElem?_append_right (by omega)] at hj
     cases hd : j - fs.length with
     | zero => rw [hd] at hj; simp at hj; exact .inr ⟨hj.symm, by omega⟩
     | succ n => rw [hd] at hj; simp at hj
   rcases hcase j1 u1 hj1 with ⟨a1, b1⟩ | ⟨a1, b1⟩ <;> rcases hcase j2 u2 hj2 with ⟨a2, b2⟩ | ⟨a2, b2⟩
   ·exact m2.apart j1 j2 u1 u2 a1 a2 hjn k hk1 hk2
   ·subst a2; have := hne j1 u1 a1 k hk1; have := hvl k hk2; omega
   ·subst a1; have := hne j2 u2 a2 k hk2; have := hvl k hk1; omega
   ·omega
  ·rcases hk with hk | ⟨j, hj, u, hju, hk⟩
   ·rcases hl k hk with h1 | h1
    ·exact m2.clear k (.inl h1) hu
    ·have := m3.lt k hu; omega
   ·by_cases hjl : j < fs.length
    ·rw [List.getElem?_append_left hjl] at hju
     exact m2.clear k (.inr ⟨j, hjl, u, hju, hk⟩) hu
    ·rw [List.getElem?_append_right (by omega)] at hju
     have hj0 : j - fs.length = 0 := by simp at hj; omega
     rw [hj0] at hju
     simp at hju
     subst hju
     have := hvl k hk
     have := m3.lt k hu
     omega
 have hb2 : (z.setCell ⟨g0 + 2, 0, none⟩ lv').heap[g0 + 2]? = some (.cells #[lv'] 38 (0, 0)) := by
  have hz2 : z.heap[g0 + 2]? = some (.cells #[lv] 38 (0, 0)) := (hF.rest (g0 + 2) (by omega) (fun e => by have := (hlb _ e).1; omega)).trans m1
  have := blk_set (j := 0) (v := lv') hz2
  simpa using this
 exact ⟨(hq _ (by omega) (by omega)).trans h.h0, (hq _ (by omega) (by omega)).trans h.h1, (hq _ (by omega) (by omega)).trans h.h3, (hq _ (by omega) (by omega)).trans h.h4, (hq _ (by omega) (by omega)).trans h.h5,
  ⟨lv', fs ++ [v], c', sh, hb2, hfr, m3.far hFF hno, m4, m5.trans hFF (fun k hk e => e.elim (fun e => by have := (hlb k e).1; omega) (fun e => by omega)), m6, m7, m8, m9, m10⟩, Nat.le_trans hsz hFF.size, h.lo, h.gw⟩
end
end Go.Proofs.YtamafdcnbcoegaaGreat
namespace Go.Proofs.YtamafdcnbcoegaaGreat
open Go.RowKit
section
variable {P : Program} {ops : Array Oper} {Q : Exit → Act → World → Prop} {lr n : Nat}
theorem monoIn_any {a0 : Act} {w0 : World} (Φ : Nat → Value → World → Prop) (hok : monoOk ops a0.tmps.size = true)
  (hst : ∀ i v w w', Φ i v w → Below w.heap.size w w' → Φ i v w')
  (hop : ∀ i o, ops[i]? = some o → ∀ a w, Below w0.heap.size w0 w → GoodAct ops Φ a0 i o a w →
   if Region.wanted o (yielded ops a.tmps) = true then Oper.wpIn (Fence.wide.inRound lr) n P o a w (fun a' w' => ∃ v, a' = a.put o.dst v ∧ Below w.heap.size w w' ∧ Φ i v w') Q else Φ i undef w)
  (hend : ∀ a w, Below w0.heap.size w0 w → (∀ i o d, ops[i]? = some o → o.dst = some d → Φ i (a.tmps.getD d undef) w) → (∀ t, wr ops t = none → a.tmps.getD t undef = a0.tmps.getD t undef) → a.defers = a0.defers → a.tmps.size = a0.tmps.size → Q .normal a w) :
  ∀ (fuel : Nat) (L : Array Bool) (a : Act) (w : World), MonoInv ops Φ a0 w0 L a w → (List.range ops.size).countP (fun i => !L.getD i false) ≤ fuel → wpAnyIn (Fence.wide.inRound lr) n P .any ops Q fuel L a w := by
 have hrdy : ∀ (L : Array Bool) (a : Act) (w : World), MonoInv ops Φ a0 w0 L a w → Region.ready .any ops L = [] → Q .normal a w := by
  intro L a w hI hr
  have hall : ∀ n i, i < n → i < ops.size → L.getD i false = true := by
   intro n
   induction n with
   | zero => intro i h; omega
   | succ n ih =>
    intro i h hi
    by_cases hin : i < n
    ·exact ih i hin hi
    ·have e : i = n := by omega
     subst e
     cases hL : L.getD i false
     ·exfalso
      have ho : ops[i]? = some ops[i] := Array.getElem?_eq_getElem hi
      obtain ⟨_, _, h3⟩ := monoOk_spec hok ho
      have : i ∈ Region.ready .any ops L := mem_ready.2 ⟨by
       have hs : i < L.size := by rw [hI.size]; exact hi
       rw [Array.getD_eq_getD_getElem?, Array.getElem?_eq_getElem hs] at hL ⊢
       exact hL, ops[i], ho, fun e he hb => by
       have hd : depB ops i e.on = true := by
        unfold depB
        rw [ho]
        exact Array.any_eq_true'.2 ⟨e, he, by simp [hb]⟩
       have hlt := h3 _ hd
       exact ih e.on hlt (by omega)⟩
      rw [hr] at this
      cases this
     ·rfl
  refine hend a w hI.ext (fun i o d ho hd => hI.vals i o d ho hd (hall ops.size i (Array.getElem?_eq_some_iff.1 ho).1 (Array.getElem?_eq_some_iff.1 ho).1)) (fun t ht => hI.rest t (fun j hj => by rw [ht] at hj; cases hj)) hI.defers hI.tsize
 intro fuel
 induction fuel with
 | zero =>
  intro L a w hI hc
  have hr : Region.ready .any ops L = [] := by
   apply List.eq_nil_iff_forall_not_mem.2
   intro i hi
   obtain ⟨h0, o, ho, _⟩ := mem_ready.1 hi
   have hlt : i < ops.size := (Array.getElem?_eq_some_iff.1 ho).1
   have h0' : L.getD i false = false := by
    have hs : i < L.size := by rw [hI.size]; exact hlt
    rw [Array.getD_eq_getD_getElem?, Array.getElem?_eq_getElem hs] at h0 ⊢
    exact h0
   have : 0 < (List.range ops.size).countP (fun i => !L.getD i false) := List.countP_pos_iff.2 ⟨i, List.mem_range.2 hlt, by simp [h0']⟩
   omega
  exact ⟨hr, hrdy L a w hI hr⟩
 | succ fuel ih =>
  intro L a w hI hc
  refine ⟨hrdy L a w hI, fun i hi => ?_⟩
  obtain ⟨h0, o, ho, hdeps⟩ := mem_ready.1 hi
  have hlt : i < ops.size := (Array.getElem?_eq_some_iff.1 ho).1
  have hls : i < L.size := by rw [hI.size]; exact hlt
  have h0' : L.getD i false = false := by
   rw [Array.getD_eq_getD_getElem?, Array.getElem?_eq_getElem hls] at h0 ⊢
   exact h0
  obtain ⟨hd, hl, hlex⟩ := monoOk_spec hok ho
  have hdl : ∀ j, depB ops i j = true → L.getD j false = true := by
   intro j hj
   unfold depB at hj
   rw [ho] at hj
   obtain ⟨e, he, hb⟩ := Array.any_eq_true'.1 hj
   simp only [Bool.and_eq_true, beq_iff_eq] at hb
   rw [← hb.2]; exact hdeps e he hb.1
  have hgood : GoodAct ops Φ a0 i o a w := by
   intro t ht
   cases hw : wr ops t with
   | none => exact hI.rest t (fun j hj => by rw [hw] at hj; cases hj)
   | some j =>
    simp only []
    have hj := List.find?_some hw
    simp only [beq_iff_eq] at hj
    split
    ·rename_i hdep
     cases hoj : ops[j]? with
     | none => rw [hoj] at hj; cases hj
     | some oj =>
      rw [hoj] at hj
      exact hI.vals j oj t hoj hj (hdl j hdep)
    ·rename_i hdep
     refine hI.rest t (fun j' hj' => ?_)
     rw [hw] at hj'
     cases hj'
     rcases hl t ht j hw with h | h
     ·exact absurd h hdep
     ·cases hLj : L.getD j false
      ·rfl
      ·have := hI.closed j hLj i h
       rw [h0'] at this; cases this
  have hstep : ∀ v w', Below w.heap.size w w' → Φ i v w' → MonoInv ops Φ a0 w0 (L.setIfInBounds i true) (a.put o.dst v) w' := by
   intro v w' hb hv
   have hget : ∀ k, (L.setIfInBounds i true).getD k false = true ↔ (k = i ∨ L.getD k false = true) := by
    intro k
    by_cases hk : k = i
    ·subst hk
     simp [Array.getD_eq_getD_getElem?, hls]
    ·rw [getD_set_ne false (fun e => hk e.symm)]
     simp [hk]
   have hput : ∀ t, (a.put o.dst v).tmps.getD t undef = if o.dst = some t then v else a.tmps.getD t undef := by
    intro t
    cases hdst : o.dst with
    | none => simp [Act.put]
    | some d =>
     simp only [Act.put, Option.some.injEq]
     have hdsz : d < a.tmps.size := by rw [hI.tsize]; exact (hd d hdst).1
     by_cases h : d = t
     ·subst h
      simp [Array.getD_eq_getD_getElem?, hdsz]
     ·simp [Array.getD_eq_getD_getElem?, h]
   refine ⟨by simp [hI.size], hI.ext.trans (hb.mono hI.ext.size), ?_, ?_, ?_, ?_, ?_⟩
   ·intro k hk j hj
    rw [hget] at hk ⊢
    rcases hk with rfl | hk
    ·exact .inr (hdl j hj)
    ·exact .inr (hI.closed k hk j hj)
   ·intro k ok d hok' hdk hk
    rw [hget] at hk
    rw [hput]
    rcases hk with rfl | hk
    ·rw [ho] at hok'; cases hok'
     rw [if_pos hdk]; exact hv
    ·have hne : o.dst ≠ some d := by
      intro e
      have h1 := (hd d e).2
      have h2 := ((monoOk_spec hok hok').1 d hdk).2
      rw [h1] at h2
      cases h2
      rw [h0'] at hk; cases hk
     rw [if_neg hne]
     exact hst k _ _ _ (hI.vals k ok d hok' hdk hk) hb
   ·intro t ht
    rw [hput]
    have hne : o.dst ≠ some t := by
     intro e
     have := ht i (hd t e).2
     have h2 := (hget i).2 (.inl rfl)
     rw [this] at h2; cases h2
    rw [if_neg hne]
    refine hI.rest t (fun j hj => ?_)
    cases hLj : L.getD j false
    ·rfl
    ·have := ht j hj
     rw [(hget j).2 (.inr hLj)] at this; cases this
   ·cases o.dst <;> exact hI.defers
   ·rw [← hI.tsize]; cases o.dst <;> simp [Act.put]
  have hcount : (List.range ops.size).countP (fun k => !(L.setIfInBounds i true).getD k false) ≤ fuel := by
   have := countP_lt (l := List.range ops.size) (p := fun k => !L.getD k false) (q := fun k => !(L.setIfInBounds i true).getD k false)
    (fun k _ hk => by
     by_cases hki : k = i
     ·subst hki; simp [h0']
     ·rw [getD_set_ne false (fun e => hki e.symm)] at hk; exact hk)
    ⟨i, List.mem_range.2 hlt, by simp [h0'], by simp [Array.getD_eq_getD_getElem?, hls]⟩
   omega
  have hg := hop i o ho a w hI.ext hgood
  unfold wpOpIn
  rw [ho]
  simp only []
  split at hg
  ·rename_i hw
   rw [if_pos hw]
   refine Oper.wpIn_mono ?_ hg
   rintro a' w' ⟨v, rfl, hb, hv⟩
   exact ih _ _ _ (hstep v w' hb hv) hcount
  ·rename_i hw
   rw [if_neg hw]
   exact ⟨fun _ _ => trivial, ih _ _ _ (hstep undef w (Below.refl _ _) hg) hcount⟩
theorem monoIn_any_last {a0 : Act} {w0 : World} (Φ : Nat → Value → World → Prop) (hok : monoOk ops a0.tmps.size = true) (last : Nat) (hn : ops.size = last + 1) (hcov : coverB ops last = true)
  (hst : ∀ i v w w', Φ i v w → Below w.heap.size w w' → Φ i v w')
  (hop : ∀ i o, i < last → ops[i]? = some o → ∀ a w, Below w0.heap.size w0 w → GoodAct ops Φ a0 i o a w →
   if Region.wanted o (yielded ops a.tmps) = true then Oper.wpIn (Fence.wide.inRound lr) n P o a w (fun a' w' => ∃ v, a' = a.put o.dst v ∧ Below w.heap.size w w' ∧ Φ i v w') Q else Φ i undef w)
  (hend : ∀ a w, Below w0.heap.size w0 w → (∀ i o d, i < last → ops[i]? = some o → o.dst = some d → Φ i (a.tmps.getD d undef) w) → (∀ t, (∀ j, wr ops t = some j → j = last) → a.tmps.getD t undef = a0.tmps.getD t undef) → a.defers = a0.defers → a.tmps.size = a0.tmps.size → wpOpIn (Fence.wide.inRound lr) n P ops Q last (Q .normal) a w) :
  ∀ (fuel : Nat) (L : Array Bool) (a : Act) (w : World), MonoInv ops Φ a0 w0 L a w → L.getD last false = false → (List.range ops.size).countP (fun i => !L.getD i false) ≤ fuel → wpAnyIn (Fence.wide.inRound lr) n P .any ops Q fuel L a w := by
 have hrdy : ∀ (L : Array Bool) (a : Act) (w : World), MonoInv ops Φ a0 w0 L a w → L.getD last false = false → Region.ready .any ops L = [] → False := by
  intro L a w hI hlast hr
  have hall : ∀ n i, i < n → i < ops.size → L.getD i false = true := by
   intro n
   induction n with
   | zero => intro i h; omega
   | succ n ih =>
    intro i h hi
    by_cases hin : i < n
    ·exact ih i hin hi
    ·have e : i = n := by omega
     subst e
     cases hL : L.getD i false
     ·exfalso
      have ho : ops[i]? = some ops[i] := Array.getElem?_eq_getElem hi
      obtain ⟨_, _, h3⟩ := monoOk_spec hok ho
      have : i ∈ Region.ready .any ops L := mem_ready.2 ⟨by
       have hs : i < L.size := by rw [hI.size]; exact hi
       rw [Array.getD_eq_getD_getElem?, Array.getElem?_eq_getElem hs] at hL ⊢
       exact hL, ops[i], ho, fun e he hb => by
       have hd : depB ops i e.on = true := by
        unfold depB
        rw [ho]
        exact Array.any_eq_true'.2 ⟨e, he, by simp [hb]⟩
       have hlt := h3 _ hd
       exact ih e.on hlt (by omega)⟩
      rw [hr] at this
      cases this
     ·rfl
  have := hall ops.size last (by omega) (by omega)
  rw [hlast] at this; cases this
 have hcl : ∀ (L : Array Bool) (a : Act) (w : World), MonoInv ops Φ a0 w0 L a w → (∀ j, depB ops last j = true → L.getD j false = true) → ∀ n i, last ≤ i + n → i < last → L.getD i false = true := by
  intro L a w hI hdl n
  induction n with
  | zero => intro i h hi; omega
  | succ n ih =>
   intro i h hi
   unfold coverB at hcov
   have h1 := List.all_eq_true.1 hcov i (List.mem_range.2 hi)
   obtain ⟨k, hk, hd⟩ := List.any_eq_true.1 h1
   have hk' : k < last + 1 := List.mem_range.1 hk
   by_cases hkl : k = last
   ·subst hkl; exact hdl i hd
   ·have hlt : i < k := by
     unfold depB at hd
     cases hok' : ops[k]? with
     | none => rw [hok'] at hd; cases hd
     | some ok =>
      obtain ⟨_, _, h3⟩ := monoOk_spec hok hok'
      exact h3 i (by unfold depB; exact hd)
    exact hI.closed k (ih k (by omega) (by omega)) i hd
 intro fuel
 induction fuel with
 | zero =>
  intro L a w hI hlast hc
  have : 0 < (List.range ops.size).countP (fun i => !L.getD i false) := List.countP_pos_iff.2 ⟨last, List.mem_range.2 (by omega), by simp only [hlast]; rfl⟩
  omega
 | succ fuel ih =>
  intro L a w hI hlast hc
  refine ⟨fun h => (hrdy L a w hI hlast h).elim, fun i hi => ?_⟩
  obtain ⟨h0, o, ho, hdeps⟩ := mem_ready.1 hi
  have hlt : i < ops.size := (Array.getElem?_eq_some_iff.1 ho).1
  have hls : i < L.size := by rw [hI.size]; exact hlt
  have h0' : L.getD i false = false := by
   rw [Array.getD_eq_getD_getElem?, Array.getElem?_eq_getElem hls] at h0 ⊢
   exact h0
  obtain ⟨hd, hl, hlex⟩ := monoOk_spec hok ho
  have hdl : ∀ j, depB ops i j = true → L.getD j false = true := by
   intro j hj
   unfold depB at hj
   rw [ho] at hj
   obtain ⟨e, he, hb⟩ := Array.any_eq_true'.1 hj
   simp only [Bool.and_eq_true, beq_iff_eq] at hb
   rw [← hb.2]; exact hdeps e he hb.1
  by_cases hil : i = last
  ·subst hil
   have hall := hcl L a w hI hdl i
   refine wpOpIn_mono ?_ (hend a w hI.ext (fun j o' d hj ho' hd' => hI.vals j o' d ho' hd' (hall j (by omega) hj)) (fun t ht => hI.rest t (fun j hj => by rw [ht j hj]; exact hlast)) hI.defers hI.tsize)
   intro a' w' hq
   refine wpAnyIn_done ?_ hq _
   apply List.eq_nil_iff_forall_not_mem.2
   intro j hj
   obtain ⟨hj0, oj, hoj, _⟩ := mem_ready.1 hj
   have hjlt : j < ops.size := (Array.getElem?_eq_some_iff.1 hoj).1
   have hls' : j < L.size := by rw [hI.size]; exact hjlt
   have hj1 : (L.setIfInBounds i true).getD j false = false := by
    rw [Array.getD_eq_getD_getElem?, Array.getElem?_eq_getElem (by simpa using hls')] at hj0 ⊢
    exact hj0
   by_cases hji : j = i
   ·subst hji
    simp [Array.getD_eq_getD_getElem?, hls] at hj1
   ·rw [getD_set_ne false (fun e => hji e.symm), hall j (by omega) (by omega)] at hj1
    cases hj1
  have hlt' : i < last := by omega
  have hgood : GoodAct ops Φ a0 i o a w := by
   intro t ht
   cases hw : wr ops t with
   | none => exact hI.rest t (fun j hj => by rw [hw] at hj; cases hj)
   | some j =>
    simp only []
    have hj := List.find?_some hw
    simp only [beq_iff_eq] at hj
    split
    ·rename_i hdep
     cases hoj : ops[j]? with
     | none => rw [hoj] at hj; cases hj
     | some oj =>
      rw [hoj] at hj
      exact hI.vals j oj t hoj hj (hdl j hdep)
    ·rename_i hdep
     refine hI.rest t (fun j' hj' => ?_)
     rw [hw] at hj'
     cases hj'
     rcases hl t ht j hw with h | h
     ·exact absurd h hdep
     ·cases hLj : L.getD j false
      ·rfl
      ·have := hI.closed j hLj i h
       rw [h0'] at this; cases this
  have hstep : ∀ v w', Below w.heap.size w w' → Φ i v w' → MonoInv ops Φ a0 w0 (L.setIfInBounds i true) (a.put o.dst v) w' := by
   intro v w' hb hv
   have hget : ∀ k, (L.setIfInBounds i true).getD k false = true ↔ (k = i ∨ L.getD k false = true) := by
    intro k
    by_cases hk : k = i
    ·subst hk
     simp [Array.getD_eq_getD_getElem?, hls]
    ·rw [getD_set_ne false (fun e => hk e.symm)]
     simp [hk]
   have hput : ∀ t, (a.put o.dst v).tmps.getD t undef = if o.dst = some t then v else a.tmps.getD t undef := by
    intro t
    cases hdst : o.dst with
    | none => simp [Act.put]
    | some d =>
     simp only [Act.put, Option.some.injEq]
     have hdsz : d < a.tmps.size := by rw [hI.tsize]; exact (hd d hdst).1
     by_cases h : d = t
     ·subst h
      simp [Array.getD_eq_getD_getElem?, hdsz]
     ·simp [Array.getD_eq_getD_getElem?, h]
   refine ⟨by simp [hI.size], hI.ext.trans (hb.mono hI.ext.size), ?_, ?_, ?_, ?_, ?_⟩
   ·intro k hk j hj
    rw [hget] at hk ⊢
    rcases hk with rfl | hk
    ·exact .inr (hdl j hj)
    ·exact .inr (hI.closed k hk j hj)
   ·intro k ok d hok' hdk hk
    rw [hget] at hk
    rw [hput]
    rcases hk with rfl | hk
    ·rw [ho] at hok'; cases hok'
     rw [if_pos hdk]; exact hv
    ·have hne : o.dst ≠ some d := by
      intro e
      have h1 := (hd d e).2
      have h2 := ((monoOk_spec hok hok').1 d hdk).2
      rw [h1] at h2
      cases h2
      rw [h0'] at hk; cases hk
     rw [if_neg hne]
     exact hst k _ _ _ (hI.vals k ok d hok' hdk hk) hb
   ·intro t ht
    rw [hput]
    have hne : o.dst ≠ some t := by
     intro e
     have := ht i (hd t e).2
     have h2 := (hget i).2 (.inl rfl)
     rw [this] at h2; cases h2
    rw [if_neg hne]
    refine hI.rest t (fun j hj => ?_)
    cases hLj : L.getD j false
    ·rfl
    ·have := ht j hj
     rw [(hget j).2 (.inr hLj)] at this; cases this
   ·cases o.dst <;> exact hI.defers
   ·rw [← hI.tsize]; cases o.dst <;> simp [Act.put]
  have hcount : (List.range ops.size).countP (fun k => !(L.setIfInBounds i true).getD k false) ≤ fuel := by
   have := countP_lt (l := List.range ops.size) (p := fun k => !L.getD k false) (q := fun k => !(L.setIfInBounds i true).getD k false)
    (fun k _ hk => by
     by_cases hki : k = i
     ·subst hki; simp [h0']
     ·rw [getD_set_ne false (fun e => hki e.symm)] at hk; exact hk)
    ⟨i, List.mem_range.2 hlt, by simp [h0'], by simp [Array.getD_eq_getD_getElem?, hls]⟩
   omega
  have hlast' : (L.setIfInBounds i true).getD last false = false := by rw [getD_set_ne false hil]; exact hlast
  have hg := hop i o hlt' ho a w hI.ext hgood
  unfold wpOpIn
  rw [ho]
  simp only []
  split at hg
  ·rename_i hw
   rw [if_pos hw]
   refine Oper.wpIn_mono ?_ hg
   rintro a' w' ⟨v, rfl, hb, hv⟩
   exact ih _ _ _ (hstep v w' hb hv) hlast' hcount
  ·rename_i hw
   rw [if_neg hw]
   exact ⟨fun _ _ => trivial, ih _ _ _ (hstep undef w (Below.refl _ _) hg) hlast' hcount⟩
theorem wpIn_region_mono {id : Nat} {a0 : Act} {w0 : World} (hm : P.follows .mixedOrders = true) (Φ : Nat → Value → World → Prop) (hok : monoOk ops a0.tmps.size = true)
  (hst : ∀ i v w w', Φ i v w → Below w.heap.size w w' → Φ i v w')
  (hop : ∀ i o, ops[i]? = some o → ∀ a w, Below w0.heap.size w0 w → GoodAct ops Φ a0 i o a w →
   if Region.wanted o (yielded ops a.tmps) = true then Oper.wpIn (Fence.wide.inRound lr) n P o a w (fun a' w' => ∃ v, a' = a.put o.dst v ∧ Below w.heap.size w w' ∧ Φ i v w') Q else Φ i undef w)
  (hend : ∀ a w, Below w0.heap.size w0 w → (∀ i o d, ops[i]? = some o → o.dst = some d → Φ i (a.tmps.getD d undef) w) → (∀ t, wr ops t = none → a.tmps.getD t undef = a0.tmps.getD t undef) → a.defers = a0.defers → a.tmps.size = a0.tmps.size → Q .normal a w) :
  (Code.region id ops true).wpIn (Fence.wide.inRound lr) n P Q a0 w0 := by
 refine wpIn_region_any hm (monoIn_any (w0 := w0) Φ hok hst hop hend ops.size _ a0 _ ⟨by simp, (Below.refl _ _).drew, ?_, ?_, fun _ _ => rfl, rfl, rfl⟩ ?_)
 ·intro k hk
  simp [Array.getD_eq_getD_getElem?] at hk
  rcases h : (Array.replicate ops.size false)[k]? with _ | b <;> simp [h] at hk
  subst hk
  have := Array.getElem?_eq_some_iff.1 h
  obtain ⟨h1, h2⟩ := this
  simp at h2
 ·intro i o d ho hd hk
  exfalso
  simp [Array.getD_eq_getD_getElem?] at hk
  rcases h : (Array.replicate ops.size false)[i]? with _ | b <;> simp [h] at hk
  subst hk
  have := Array.getElem?_eq_some_iff.1 h
  obtain ⟨h1, h2⟩ := this
  simp at h2
 ·exact Nat.le_trans List.countP_le_length (by simp)
def MonoOpsIn (lr n : Nat) (P : Program) (ops : Array Oper) (Q : Exit → Act → World → Prop) (L : List (Value → World → Prop)) (a0 : Act) (w0 : World) : List Oper → List (List (Tmp × Option Nat)) → List (Value → World → Prop) → Prop
 | o :: os, pl :: pls, φ :: φs => (∀ a w, Below w0.heap.size w0 w → PlanFacts L a0 a w pl →
   if Region.wanted o (yielded ops a.tmps) = true then Oper.wpIn (Fence.wide.inRound lr) n P o a w (fun a' w' => ∃ v, a' = a.put o.dst v ∧ Below w.heap.size w w' ∧ φ v w') Q else φ undef w) ∧ MonoOpsIn lr n P ops Q L a0 w0 os pls φs
 | [], _, _ => True
 | _, _, _ => False
theorem monoOpsIn_get {L : List (Value → World → Prop)} {a0 : Act} {w0 : World} : ∀ {os : List Oper} {pls : List (List (Tmp × Option Nat))} {φs : List (Value → World → Prop)}, MonoOpsIn lr n P ops Q L a0 w0 os pls φs →
  ∀ (i : Nat) o pl, os[i]? = some o → pls[i]? = some pl → ∀ a w, Below w0.heap.size w0 w → PlanFacts L a0 a w pl →
   if Region.wanted o (yielded ops a.tmps) = true then Oper.wpIn (Fence.wide.inRound lr) n P o a w (fun a' w' => ∃ v, a' = a.put o.dst v ∧ Below w.heap.size w w' ∧ φs.getD i (fun _ _ => True) v w') Q else φs.getD i (fun _ _ => True) undef w
 | [], _, _, _, i, o, pl, ho, _ => by simp at ho
 | o :: os, [], _, h, _, _, _, _, _ => h.elim
 | o :: os, pl :: pls, [], h, _, _, _, _, _ => h.elim
 | o :: os, pl :: pls, φ :: φs, h, 0, o', pl', ho, hp => by
  simp at ho hp; subst ho; subst hp
  exact h.1
 | o :: os, pl :: pls, φ :: φs, h, i + 1, o', pl', ho, hp => monoOpsIn_get h.2 i o' pl' (by simpa using ho) (by simpa using hp)
theorem wpIn_region_words {id : Nat} {a0 : Act} {w0 : World} (hm : P.follows .mixedOrders = true) (L : List (Value → World → Prop)) (plan : List (List (Tmp × Option Nat))) (hok : monoOk ops a0.tmps.size = true)
  (hplan : planOf ops = plan) (hst : AllStable L) (hop : MonoOpsIn lr n P ops Q L a0 w0 ops.toList plan L)
  (hend : ∀ a w, Below w0.heap.size w0 w → (∀ i o d, ops[i]? = some o → o.dst = some d → L.getD i (fun _ _ => True) (a.tmps.getD d undef) w) → (∀ t, wr ops t = none → a.tmps.getD t undef = a0.tmps.getD t undef) → a.defers = a0.defers → a.tmps.size = a0.tmps.size → Q .normal a w) :
  (Code.region id ops true).wpIn (Fence.wide.inRound lr) n P Q a0 w0 := by
 refine wpIn_region_mono hm (fun i => L.getD i (fun _ _ => True)) hok (fun i => allStable_get hst i) ?_ hend
 intro i o ho a w hb hg
 have hlt : i < ops.size := (Array.getElem?_eq_some_iff.1 ho).1
 have hpl : plan[i]? = some ((o.looksAt ops).map fun t => (t, match wr ops t with
    | some j => if depB ops i j = true then some j else none
    | none => none)) := by
  rw [← hplan]
  unfold planOf
  rw [List.getElem?_map, List.getElem?_range hlt, Option.map_some, ho]
  rfl
 exact monoOpsIn_get hop i o _ (by simpa using ho) hpl a w hb (planFacts_of rfl (o := o) _ hg)
theorem wpIn_region_frame {id : Nat} {a0 : Act} {w0 : World} (hm : P.follows .mixedOrders = true) (L : List (Value → World → Prop)) (plan : List (List (Tmp × Option Nat))) (D : List (Option Tmp)) (M : List Bool)
  (hok : monoOk ops a0.tmps.size = true) (hplan : planOf ops = plan) (hD : dstsOf ops = D) (hM : maskOf ops a0.tmps.size = M) (hst : AllStable L) (hop : MonoOpsIn lr n P ops Q L a0 w0 ops.toList plan L)
  (hend : ∀ f w, Below w0.heap.size w0 w → AllWords f w D L → Q .normal { tmps := (mergeT M a0.tmps.toList 0 f).toArray, defers := a0.defers } w) :
  (Code.region id ops true).wpIn (Fence.wide.inRound lr) n P Q a0 w0 := by
 refine wpIn_region_words hm L plan hok hplan hst hop ?_
 intro a w hb hv hr hd hs
 have h := hend (fun t => a.tmps.getD t undef) w hb (by rw [← hD]; exact allWords_of (fun i o d ho hdd => hv i o d (by simpa using ho) hdd))
 have e : mergeT M a0.tmps.toList 0 (fun t => a.tmps.getD t undef) = a.tmps.toList := by
  refine mergeT_eq _ _ _ _ _ (by rw [← hM]; simp [maskOf]) (by simpa using hs) ?_ ?_
  ·intro j hj _
   simp [Array.getD_eq_getD_getElem?, List.getD_eq_getElem?_getD]
  ·intro j hj hb
   rw [← hM] at hb
   have hj' : j < a0.tmps.size := by rw [← hs]; simpa using hj
   have hw : wr ops j = none := by
    unfold maskOf at hb
    simp [List.getD_eq_getElem?_getD, List.getElem?_map, List.getElem?_range hj'] at hb
    exact hb
   have := hr j hw
   simpa [Array.getD_eq_getD_getElem?, List.getD_eq_getElem?_getD] using this
 rw [e, ← hd] at h
 exact h
theorem wpIn_region_last {id : Nat} {a0 : Act} {w0 : World} (hm : P.follows .mixedOrders = true) (L : List (Value → World → Prop)) (plan : List (List (Tmp × Option Nat))) (D : List (Option Tmp)) (M : List Bool) (last : Nat) (ol : Oper) (hol : ops[last]? = some ol) (hgd : ol.guard = none)
  (hn : ops.size = last + 1) (hcov : coverB ops last = true)
  (hok : monoOk ops a0.tmps.size = true) (hplan : planOf ops = plan) (hD : dstsOf ops = D) (hM : maskOf ops a0.tmps.size = M) (hst : AllStable L) (hop : MonoOpsIn lr n P ops Q L a0 w0 (ops.toList.take last) plan L)
  (hend : ∀ f w, Below w0.heap.size w0 w → AllWords f w (D.take last) L → Oper.wpIn (Fence.wide.inRound lr) n P ol { tmps := (mergeT M a0.tmps.toList 0 f).toArray, defers := a0.defers } w (Q .normal) Q) :
  (Code.region id ops true).wpIn (Fence.wide.inRound lr) n P Q a0 w0 := by
 refine wpIn_region_any hm (monoIn_any_last (w0 := w0) (fun i => L.getD i (fun _ _ => True)) hok last hn hcov (fun i => allStable_get hst i) ?_ ?_ ops.size _ a0 _ ⟨by simp, (Below.refl _ _).drew, ?_, ?_, fun _ _ => rfl, rfl, rfl⟩ ?_ ?_)
 ·intro i o hil ho a w hb hg
  have hlt : i < ops.size := (Array.getElem?_eq_some_iff.1 ho).1
  have hpl : plan[i]? = some ((o.looksAt ops).map fun t => (t, match wr ops t with
     | some j => if depB ops i j = true then some j else none
     | none => none)) := by
   rw [← hplan]
   unfold planOf
   rw [List.getElem?_map, List.getElem?_range hlt, Option.map_some, ho]
   rfl
  exact monoOpsIn_get hop i o _ (by rw [List.getElem?_take, if_pos hil]; simpa using ho) hpl a w hb (planFacts_of rfl (o := o) _ hg)
 ·intro a w hb hv hr hd hs
  have h := hend (fun t => a.tmps.getD t undef) w hb (by
   rw [← hD, dstsOf, ← List.map_take]
   exact allWords_of (fun i o d ho hdd => by
    rw [List.getElem?_take] at ho
    split at ho
    ·rename_i hil
     exact hv i o d hil (by simpa using ho) hdd
    ·cases ho))
  have e : mergeT M a0.tmps.toList 0 (fun t => a.tmps.getD t undef) = a.tmps.toList := by
   refine mergeT_eq _ _ _ _ _ (by rw [← hM]; simp [maskOf]) (by simpa using hs) ?_ ?_
   ·intro j hj _
    simp [Array.getD_eq_getD_getElem?, List.getD_eq_getElem?_getD]
   ·intro j hj hb
    rw [← hM] at hb
    have hj' : j < a0.tmps.size := by rw [← hs]; simpa using hj
    have hw : wr ops j = none := by
     unfold maskOf at hb
     simp [List.getD_eq_getElem?_getD, List.getElem?_map, List.getElem?_range hj'] at hb
     exact hb
    have := hr j (fun k hk => by rw [hw] at hk; cases hk)
    simpa [Array.getD_eq_getD_getElem?, List.getD_eq_getElem?_getD] using this
  rw [e, ← hd] at h
  unfold wpOpIn
  rw [hol]
  simp only []
  rw [if_pos (by simp [Region.wanted, hgd])]
  exact h
 ·intro k hk
  simp [Array.getD_eq_getD_getElem?] at hk
  rcases h : (Array.replicate ops.size false)[k]? with _ | b <;> simp [h] at hk
  subst hk
  obtain ⟨h1, h2⟩ := Array.getElem?_eq_some_iff.1 h
  simp at h2
 ·intro i o d ho hd hk
  exfalso
  simp [Array.getD_eq_getD_getElem?] at hk
  rcases h : (Array.replicate ops.size false)[i]? with _ | b <;> simp [h] at hk
  subst hk
  obtain ⟨h1, h2⟩ := Array.getElem?_eq_some_iff.1 h
  simp at h2
 ·simp [Array.getD_eq_getD_getElem?, hn]
 ·exact Nat.le_trans List.countP_le_length (by simp)
end
end Go.Proofs.YtamafdcnbcoegaaGreat
namespace Go.Proofs.YtamafdcnbcoegaaGreat
open Go.RowKit
attribute [local go_sem] Oper.semAt_some
def OneF (B : Nat) (FB : List UInt8) (v : Value) (z : World) : Prop := ∃ g vb, v = .slice (some ⟨g, 0, none⟩) 1 1 ∧ B ≤ g ∧ z.heap[g]? = some (.cells #[vb] 44 (0, 0)) ∧ Owns B z vb FB
theorem owns_far {B : Nat} {w z : World} {v : Value} {l : List UInt8} {E : Nat → Prop} (h : Owns B w v l) (hF : Far E w z) (hE : ∀ k, E k → k < B) : Owns B z v l :=
 ownsRow_keep h (fun k hk => hF.rest k (World.ownsRow.lt h k hk).2 (fun e => by have := hE k e; have := (World.ownsRow.lt h k hk).1; omega))
theorem owns_below {B : Nat} {w z : World} {v : Value} {l : List UInt8} (h : Owns B w v l) (hb : Below w.heap.size w z) : Owns B z v l :=
 ownsRow_keep h (fun k hk => hb.block k (World.ownsRow.lt h k hk).2)
theorem stable_owns (B : Nat) (l : List UInt8) : Stable (fun v z => Owns B z v l) := fun _ _ _ h hb => owns_below h hb
theorem stableF_owns {B : Nat} {l : List UInt8} {E : Nat → Prop} (hE : ∀ k, E k → k < B) : StableF E (fun v z => Owns B z v l) := fun _ _ _ h hF => owns_far h hF hE
theorem stable_oneF (B : Nat) (FB : List UInt8) : Stable (OneF B FB) := fun _ _ _ h hb => by
 obtain ⟨g, vb, e, h1, h2, h3⟩ := h
 exact ⟨g, vb, e, h1, (hb.block g (lt_of_block h2)).trans h2, owns_below h3 hb⟩
theorem stableF_oneF {B : Nat} {FB : List UInt8} {E : Nat → Prop} (hE : ∀ k, E k → k < B) : StableF E (OneF B FB) := fun _ _ _ h hF => by
 obtain ⟨g, vb, e, h1, h2, h3⟩ := h
 exact ⟨g, vb, e, h1, hF.blk h2 (fun e => by have := hE _ e; omega), owns_far h3 hF hE⟩
def RowF (B b0 : Nat) (lv : Value) (fs : List Value) (FB : List UInt8) (v : Value) (z : World) : Prop := ∃ vb, z.ownsRow b0 44 1 v (fs.length + 1) (fs ++ [vb]) ∧ Owns B z vb FB ∧ ∀ k, v.ownBlock = some k → lv.ownBlock = some k ∨ B ≤ k
theorem stable_rowF (B b0 : Nat) (lv : Value) (fs : List Value) (FB : List UInt8) : Stable (RowF B b0 lv fs FB) := fun _ _ _ h hb => by
 obtain ⟨vb, h1, h2, h3⟩ := h
 exact ⟨vb, ownsRow_keep h1 (fun k hk => hb.block k (World.ownsRow.lt h1 k hk).2), owns_below h2 hb, h3⟩
theorem stableF_rowF {B b0 : Nat} {lv : Value} {fs : List Value} {FB : List UInt8} {E : Nat → Prop} (hE : ∀ k, E k → k < B ∧ k < b0) : StableF E (RowF B b0 lv fs FB) := fun _ _ _ h hF => by
 obtain ⟨vb, h1, h2, h3⟩ := h
 exact ⟨vb, ownsRow_keep h1 (fun k hk => hF.rest k (World.ownsRow.lt h1 k hk).2 (fun e => by have := (hE k e).2; have := (World.ownsRow.lt h1 k hk).1; omega)), owns_far h2 hF (fun k e => (hE k e).1), h3⟩
theorem stepIn_app_own {ops : Array Oper} {o : Oper} {a : Act} {K : Act → World → Prop} {Q : Exit → Act → World → Prop} {E : Prop} {w : World} {lr n0 : Nat} (hgd : o.guard = none) (s x : Operand) (t : TypeId) (ho : o.op = .call { callee := .builtin .append, args := #[s, x], argTypes := #[t, t] })
  (base : Nat) (e : TypeId) (z : Value) (size bytes : Nat) (ht : Tryz.prog.underlying t = some (.slice e)) (hinfo : (Tryz.prog.info? e).map (fun i => (i.zero, i.size, i.bytes)) = some (some z, size, bytes)) (hzs : z.cells.size = size) (hsz : 0 < size)
  (v : Value) (n : Nat) (xs : List Value) (hown : w.ownsRow base e size v n xs) (hs : a.eval s = v) (ad : Addr) (m c : Nat) (news : List Value) (hx : a.eval x = .slice (some ad) m c) (hl : news.length = m * size) (hnews : ∀ j u, news[j]? = some u → w.cell? (ad.add j) = some u)
  (h1 : ∀ u ∈ news, u.oneCell' = true) (h63 : n + m ≤ maxLen) (hb : (n + m) * bytes ≤ 140737488355328) (hbase : base ≤ w.heap.size)
  (h : ∀ v' w', w'.ownsRow base e size v' (n + m) (xs ++ news) → w.grownBy w' v.ownBlock → (v'.ownBlock = v.ownBlock ∨ v'.ownBlock = some w.heap.size) → K (a.put o.dst v') w') : if Region.wanted o (yielded ops a.tmps) = true then o.wpIn (Fence.wide.inRound lr) n0 Tryz.prog a w K Q else E := by
 rw [if_pos (by simp [Region.wanted, hgd])]
 obtain ⟨i0, hi, hz0, hz1, hz2⟩ := info_parts2 hinfo
 obtain ⟨v', w', hr, h2, h3, _, h5⟩ := run_append_own_at (P := Tryz.prog) (w := w) base t o.type e i0 z size bytes ht hi hz0 hz1 hz2 hzs hsz v n xs hown ad m c news hl hnews h1 h63 hb hbase
 unfold Oper.wpIn
 refine ⟨by simp [Oper.about, ho, resolve, Target.leads, Sem.run_pure], ?_⟩
 rw [Oper.semAt_plain _ _ _ (by rw [ho]; intro c hc'; cases hc')]
 simp [execOp, ho, resolve, invoke, builtin, hs, hx, hr, Result.andThen]
 exact h v' w' h2 h3 h5
theorem sendTo_cnt (e s : Nat) (f : Mod.Flow) (t : Nat) : ∀ k, (Mod.sendTo e s f t k).2.length ≤ k
 | 0 => Nat.le_refl _
 | k + 1 => by
  have ih := sendTo_cnt e s f t k
  by_cases h : k < f.kept.length
  ·cases hd : Mod.due f t k f.kept[k].2 with
   | false => rw [sendTo_skip h hd]; omega
   | true => rw [sendTo_send h hd]; simp; omega
  ·rw [sendTo_over (by omega)]; omega
section
variable {w W : World} {g0 p i : Nat} {c : Av} {st : Mod.Stv} {g : Nat → Nat} {free : List Nat} {sh : Nat → List (Nat × Value)} {pl : Nat → List Nat} {F : List ByteArray} {a : Mod.Ag} {tk k : Nat}
theorem SendI.due (h : SendI w g0 p i c st g free pl F (sentAg a i tk k) W) (hi : i < 3) (hk : k < (a.fl i).kept.length) (ht : (a.fl i).kept[k].2 ≤ 1000000000000) (htk : tk ≤ 1000000000000) :
  Calls Tryz.prog 138 #[.pointer (some ⟨p, 4 + i * 6, none⟩), .int .i64 ((a.fl i).base + 1 + k : Nat), .int .i64 tk] W fun r W' => r = .returned (.bool (Mod.due (a.fl i) tk k (a.fl i).kept[k].2)) ∧ Below W.heap.size W W' := by
 obtain ⟨lv, fs, c', sh, m1, m2, m3, m4, _⟩ := h.mid
 have hj : k < ((sentAg a i tk k).fl i).kept.length := by rw [sentAg_len]; exact hk
 have hg : ((sentAg a i tk k).fl i).kept[k] = (a.fl i).kept[k] := by
  have := sentAg_get (tk := tk) hk
  rw [List.getElem?_eq_getElem hj] at this
  injection this
 have := isDue_any m3 m4 hi k hj tk (a.fl i).kept[k].2 (by rw [hg]) ht htk
 rw [sentAg_due, sentAg_base] at this
 exact this
theorem SendI.tick (h : SendI w g0 p i c st g free pl F (sentAg a i tk k) W) : W.cell? ⟨p, 23, none⟩ = some (.int .i64 a.ticks) := by
 obtain ⟨lv, fs, c', sh, m1, m2, m3, m4, _⟩ := h.mid
 rw [blk_cell m3.ks.blk, m3.ks.at']
 rfl
end
section
variable {w : World} {p : Nat} {g : Nat → Nat} {free : List Nat} {sh : Nat → List (Nat × Value)} {st : Mod.Stv} {c : Av} {a : Mod.Ag} {pl : Nat → List Nat}
set_option maxRecDepth 100000 in
set_option maxHeartbeats 4000000 in
theorem agSend_any (H : PaAt w p g a.ticks a.welcome a.fenced free sh st c) (O : OnAg a st.opening g free sh pl) (i : Nat) (hi3 : i < 3) (ht0 : a.ticks ≠ 0) (htk : a.ticks ≤ 1000000000000) (hbnd : (a.fl i).base + (a.fl i).kept.length < 4294967296) (hbod : ∀ x ∈ (a.fl i).kept, x.1.size ≤ 20 ∧ x.2 ≤ 1000000000000) :
  Calls Tryz.prog 93 #[ptrTo p, .int .i64 i] w fun r z => ∃ lv fs c' sh', r = .returned lv ∧ FramesOut w.heap.size z lv fs (sentFr a i a.ticks 4) (PaU p c') ∧ PaAt z p g a.ticks a.welcome a.fenced free sh' st c' ∧ OnAg (sentAg a i a.ticks 4) st.opening g free sh' pl ∧ Far (PaU p c) w z ∧ (∀ j, PaU p c' j → PaU p c j ∨ w.heap.size ≤ j) ∧ c'.s = c.s ∧ c'.rv = c.rv := by
 have hpl := lt_of_block H.ks.blk
 have hi0 : (0 : Int) ≤ (i : Int) := by omega
 have hi3' : (i : Int) < 3 := by omega
 have HH := hide (And.intro H O)
 clear H O
 unfold ptrTo at *
 refine callsIn_wide.1 (callsIn_of_wp_marks (n := 5) Tryz.func93 rfl trivial ?_ rfl)
 refine wpIn_wide.2 ?_
 simp only [Tryz.ntmps93, List.size_toArray, List.length_cons, List.length_nil, Nat.reduceAdd, Nat.reduceSub, Array.replicate_succ, Array.replicate_zero, List.push_toArray, List.append_toArray, List.nil_append, List.cons_append]
 go_upto_region 2 with fail
 obtain ⟨g0, hg0⟩ : ∃ g0, g0 = w.heap.size := ⟨_, rfl⟩
 have HG0 := hide hg0
 rw [← hg0]
 refine wp_world (fun x => x.heap[g0]? = some (.cells #[.pointer (some ⟨p, 0, none⟩)] 88 (0, 0)) ∧ x.heap[g0 + 1]? = some (.cells #[.int .i64 i] 3 (0, 0)) ∧ x.heap[g0 + 2]? = some (.cells #[.slice none 0 0] 38 (0, 0)) ∧ Below g0 w x ∧ x.heap.size = g0 + 3) ?_ ?_
 ·rw [hg0]
  have hA := heap_alloc_new w (.cells #[.pointer (some ⟨p, 0, none⟩)] 88)
  have hB := heap_alloc_new (w.alloc (.cells #[.pointer (some ⟨p, 0, none⟩)] 88)) (.cells #[.int .i64 i] 3)
  have hC := heap_alloc_new ((w.alloc (.cells #[.pointer (some ⟨p, 0, none⟩)] 88)).alloc (.cells #[.int .i64 i] 3)) (.cells #[.slice none 0 0] 38)
  simp only [World.size_alloc] at hB hC
  refine ⟨?_, ?_, hC, ((((Below.refl _ _).alloc (Nat.le_refl _) _).alloc (by simp) _).alloc (by simp; omega) _), by simp⟩
  ·rw [hao _ _ (by simp; omega), hao _ _ (by simp)]; exact hA
  ·rw [hao _ _ (by simp)]; exact hB
 clear hg0
 rintro x ⟨h0, h1, h2, hb, hsz⟩
 have c0 := blk_cell (i := 0) h0
 have c1 := blk_cell (i := 0) h1
 simp at c0 c1
 have HX := hide (And.intro h0 (And.intro h1 (And.intro h2 (And.intro hb hsz))))
 have hx0 : g0 < x.heap.size := by omega
 have hx1 : g0 + 1 < x.heap.size := by omega
 clear h0 h1 h2 hb
 go_region
 go_upto_region 3 with fail
 refine wp_world (fun y => y.heap[g0]? = some (.cells #[.pointer (some ⟨p, 0, none⟩)] 88 (0, 0)) ∧ y.heap[g0 + 1]? = some (.cells #[.int .i64 i] 3 (0, 0)) ∧ y.heap[g0 + 2]? = some (.cells #[.slice none 0 0] 38 (0, 0)) ∧ y.heap[g0 + 3]? = some (.cells #[.pointer (some ⟨p, 4 + i * 6, none⟩)] 213 (0, 0)) ∧ Below g0 w y ∧ y.heap.size = g0 + 4) ?_ ?_
 ·obtain ⟨h0, h1, h2, hb, hsz⟩ := unhide HX
  exact ⟨(hao _ _ (by omega)).trans h0, (hao _ _ (by omega)).trans h1, (hao _ _ (by omega)).trans h2, by have := heap_alloc_new x (.cells #[.pointer (some ⟨p, 4 + i * 6, none⟩)] 213); rw [hsz] at this; exact this, (hb.alloc (by omega) _).drew, by show (x.alloc _).heap.size = _; simp; omega⟩
 clear HX c0 c1 hx0 hx1 hsz
 rintro y ⟨h0, h1, h2, h3, hb, hsz⟩
 have c3 := blk_cell (i := 0) h3
 simp at c3
 have HY := hide (And.intro h0 (And.intro h1 (And.intro h2 (And.intro h3 (And.intro hb hsz)))))
 clear h0 h1 h2 h3 hb
 go_wp2_with (go_at_call 137; refine (firstA_any _ _ _ _).mono ?_; rintro e z ⟨rfl, hz⟩)
 obtain ⟨h0, h1, h2, h3, hb, _⟩ := unhide HY
 have hD : z.heap.size = g0 + 6 := by rw [hz]; simp [boxed2, hsz]
 have hq : ∀ k, k < g0 + 4 → z.heap[k]? = y.heap[k]? := fun k hk => by
  rw [hz]
  unfold boxed2
  rw [hao _ _ (by simp; omega), hao _ _ (by omega)]
 have hz4 : z.heap[g0 + 4]? = some (.cells #[.pointer (some ⟨p, 4 + i * 6, none⟩)] 209 (0, 0)) := by
  rw [hz]
  unfold boxed2
  rw [hao _ _ (by simp; omega), ← hsz]
  exact heap_alloc_new _ _
 have hz5 : z.heap[g0 + 5]? = some (.cells #[.int .i64 4] 3 (0, 0)) := by
  rw [hz]
  unfold boxed2
  have := heap_alloc_new (y.alloc (.cells #[.pointer (some ⟨p, 4 + i * 6, none⟩)] 209)) (.cells #[.int .i64 4] 3)
  rw [World.size_alloc, hsz] at this
  exact this
 have hbz : Below g0 w z := by
  rw [hz]
  unfold boxed2
  exact (hb.alloc (by omega) _).alloc (by simp; omega) _
 have HZ := hide (And.intro ((hq g0 (by omega)).trans h0) (And.intro ((hq (g0 + 1) (by omega)).trans h1) (And.intro ((hq (g0 + 2) (by omega)).trans h2) (And.intro ((hq (g0 + 3) (by omega)).trans h3) (And.intro hz4 (And.intro hz5 hbz))))))
 rw [← hz]
 clear h0 h1 h2 h3 hb hq hz4 hz5 hbz hz HY c3
 obtain ⟨tk, htk2⟩ : ∃ tk, tk = a.ticks := ⟨_, rfl⟩
 have HTK := hide htk2
 have htk0 : tk ≠ 0 := by omega
 have htkm : tk ≤ 1000000000000 := by omega
 clear htk2
 have hlen : (keptL (a.fl i).base (a.fl i).kept (pl i)).length = (a.fl i).kept.length := keptL_length _ _ _ ((unhide HH).2.pn i hi3)
 refine wpIn_wide.1 (range_first (n := 5) (b := g0 + 4) (p := p) (o := 4 + i * 6) (m := 4) (c.nv (i * 3)) (c.mv (i * 3)) (keptL (a.fl i).base (a.fl i).kept (pl i)) (keptL_are _ _ _) rfl rfl (fun k W => SendI w g0 p i c st g free pl (sentFr a i tk k) (sentAg a i tk k) W) ?_ ?_ ?_ ?_ ?_ ?_)
 ·intro k W W' h hS
  rw [hD] at hS
  exact h.same2 hS
 ·exact fun k W h => h.iterK hi3
 ·intro W hbW hszW
  obtain ⟨h0, h1, h2, h3, h4, h5, hbz⟩ := unhide HZ
  have hk := fun k (hk : k < z.heap.size) => hbW.block k hk
  exact sendI_start (unhide HH).1 (unhide HH).2 (unhide HG0) (hbz.trans (hbW.mono (by omega))) ((hk _ (by omega)).trans h0) ((hk _ (by omega)).trans h1) ((hk _ (by omega)).trans h2) ((hk _ (by omega)).trans h3) ((hk _ (by omega)).trans h4) ((hk _ (by omega)).trans h5) (by omega)
 ·intro k hk W hk4 hI hle
  rw [hD] at hle ⊢
  have hkL : k < (a.fl i).kept.length := by rw [hlen] at hk; exact hk
  have hget : (keptL (a.fl i).base (a.fl i).kept (pl i))[k] = ((a.fl i).base + 1 + k, recA (a.fl i).kept[k].1 ((pl i).getD k 0)) := by
   have h1 := keptL_get (a.fl i).base (a.fl i).kept (pl i) k ((unhide HH).2.pn i hi3) hkL
   rw [List.getElem?_eq_getElem hk] at h1
   injection h1
  rw [hget]
  obtain ⟨bk, hbk⟩ : ∃ bk, bk = (a.fl i).kept[k].1 := ⟨_, rfl⟩
  obtain ⟨nk, hnk⟩ : ∃ nk, nk = (a.fl i).base + 1 + k := ⟨_, rfl⟩
  rw [← hbk, ← hnk]
  generalize (pl i).getD k 0 = q
  have HBK := hide (And.intro hbk hnk)
  obtain ⟨g8, hg8⟩ : ∃ g8, g8 = W.heap.size := ⟨_, rfl⟩
  have hg8' : g0 + 8 ≤ g8 := by omega
  have HG8 := hide hg8
  have HI := hide hI
  clear hbk hnk hget hI HZ hk
  unfold recA
  gi_wp2
  refine ⟨⟨hao _ _ (by omega), hao _ _ (by omega)⟩, ?_⟩
  intro W2 hS
  rw [← hg8]
  have h8 : W2.heap[g8]? = some (.cells #[.string bk, .int .i64 q] 158 (0, 0)) := by
   rw [hS.rest g8 (by omega) (by omega), hg8]
   exact heap_alloc_new _ _
  have hI2 := ((unhide HI).below ((Below.refl _ _).alloc (Nat.le_refl _) _)).same2 hS
  obtain ⟨lv, fs, c', sh2, m1, m2, m3, m4, m5, m6, m7, m8, m9, m10⟩ := hI2.mid
  have d0 := blk_cell (i := 0) hI2.h0
  have d1 := blk_cell (i := 0) hI2.h1
  have d2 := blk_cell (i := 0) m1
  have d3 := blk_cell (i := 0) hI2.h3
  have d8 := blk_cell (i := 0) h8
  have d23 : W2.cell? ⟨p, 23, none⟩ = some (.int .i64 tk) := by rw [hI2.tick, unhide HTK]
  simp at d0 d1 d2 d3 d8
  have hbk20 : bk.size ≤ 20 ∧ (a.fl i).kept[k].2 ≤ 1000000000000 := by
   have := hbod _ (List.getElem_mem hkL)
   rw [(unhide HBK).1]
   exact this
  have hnk : nk < 4294967296 := by have := (unhide HBK).2; omega
  have hDUE := fun x (hb : Below W2.heap.size W2 x) => hide ((hI2.below hb).due hi3 hkL hbk20.2 htkm)
  rw [← (unhide HBK).2] at hDUE
  obtain ⟨dd, hdd⟩ : ∃ dd, dd = Mod.due (a.fl i) tk k (a.fl i).kept[k].2 := ⟨_, rfl⟩
  rw [← hdd] at hDUE
  have HDD := hide hdd
  have HI2 := hide hI2
  have hl0 := lt_of_block hI2.h0
  have hl1 := lt_of_block hI2.h1
  have hl3 := lt_of_block hI2.h3
  have hl8 := lt_of_block h8
  have hlp : p < W2.heap.size := lt_of_block m3.ks.blk
  have H8 := hide h8
  clear hg8 hS h8 m1 m2 m3 m4 m5 m6 m7 m8 m9 m10 hI2 hdd
  gi_upto_region 6 with fail
  refine wpIn_region_frame (by kernel_rfl)
   [fun v _ => v = .pointer (some ⟨p, 4 + i * 6, none⟩), fun v _ => v = .int .i64 nk, fun v _ => v = .pointer (some ⟨p, 0, none⟩), fun v _ => v = .pointer (some ⟨p, 0, none⟩), fun v _ => v = .pointer (some ⟨p, 23, none⟩), fun v _ => v = .int .i64 tk, fun v _ => v = .bool dd]
   [[(6, none)], [(7, none)], [(2, none)], [(22, some 2)], [(23, some 3)], [(24, some 4)], [(20, some 0), (21, some 1), (25, some 5)]] [some 20, some 21, some 22, some 23, some 24, some 25, some 26] [false, false, false, false, false, false, false, false, false, false, false, false, false, false, false, false, false, false, false, false, true, true, true, true, true, true, true, false, false, false, false, false, false, false, false, false, false, false, false, false, false, false, false, false, false, false, false, false]
   (by kernel_rfl) (by kernel_rfl) (by kernel_rfl) (by kernel_rfl) ?_ ?_ ?_
  ·repeat' (first | exact stable_eq _ | exact trivial | apply And.intro)
  ·refine ⟨?_, ?_, ?_, ?_, ?_, ?_, ?_, trivial⟩
   all_goals
    intro b x hb hf
    have z0 := (hb.cell (p := ⟨g0, 0, none⟩) hl0).trans d0
    have z3 := (hb.cell (p := ⟨g0 + 3, 0, none⟩) hl3).trans d3
    have z23 := (hb.cell (p := ⟨p, 23, none⟩) hlp).trans d23
    have HC := hide (unhide (hDUE x hb))
    clear hb hDUE
    simp only [PlanFacts, List.getD_cons_zero, List.getD_cons_succ, Array.getD_eq_getD_getElem?] at hf
    try simp at hf
    try go_simp
   all_goals first
    | exact ⟨rfl, Below.refl _ _⟩
    | exact ⟨_, rfl, Below.refl _ _, rfl⟩
    | exact Below.refl _ _
    | (refine ⟨trivial, ((callsIn_wide.2 (unhide HC)).inRound _).mono ?_⟩; rintro r z ⟨rfl, hb⟩; exact ⟨_, rfl, hb, rfl⟩)
    | (refine ⟨trivial, ((callsIn_wide.2 (unhide HC)).inRound _).mono ?_⟩; rintro r z ⟨rfl, hb⟩; exact ⟨rfl, hb⟩)
    | skip
  intro f x hbx hwd
  simp only [AllWords] at hwd
  have h26 := hwd.2.2.2.2.2.2.1
  have HBX := hide hbx
  clear hwd hDUE hbx
  simp only [mergeT, h26]
  generalize f 20 = x20
  generalize f 21 = x21
  generalize f 22 = x22
  generalize f 23 = x23
  generalize f 24 = x24
  generalize f 25 = x25
  cases dd with
  | false =>
   gi_wp2
   have hsz := (unhide HI2).sz
   refine ⟨(unhide HBX).block _ (by omega), (unhide HBX).block _ (by omega), ?_⟩
   rw [sentFr_skip hkL (unhide HDD).symm, sentAg_skip hkL (unhide HDD).symm]
   exact (unhide HI2).below (unhide HBX)
  | true =>
   have hxs := (unhide HBX).size
   have e0 := ((unhide HBX).cell (p := ⟨g0, 0, none⟩) hl0).trans d0
   have e3 := ((unhide HBX).cell (p := ⟨g0 + 3, 0, none⟩) hl3).trans d3
   have e23 := ((unhide HBX).cell (p := ⟨p, 23, none⟩) hlp).trans d23
   have X0 : g0 < x.heap.size := by omega
   have X3 : g0 + 3 < x.heap.size := by omega
   have XP : p < x.heap.size := by omega
   clear d0 d1 d2 d3 d8 d23
   have HPUT := fun y (hb : Below x.heap.size x y) => hide (((unhide HI2).below ((unhide HBX).trans (hb.mono hxs))).put hi3 hkL (unhide HDD).symm htk0)
   rw [← (unhide HBK).2] at HPUT
   gi_upto_region 7 with fail
   refine wpIn_region_last (by kernel_rfl)
    [fun v _ => v = .pointer (some ⟨p, 4 + i * 6, none⟩), fun v _ => v = .pointer (some ⟨p, 4 + i * 6, none⟩), fun v _ => v = .pointer (some ⟨p, 4 + i * 6 + 2, none⟩), fun v _ => v = .int .i64 nk, fun v _ => v = .pointer (some ⟨p, 0, none⟩), fun v _ => v = .pointer (some ⟨p, 0, none⟩), fun v _ => v = .pointer (some ⟨p, 23, none⟩), fun v _ => v = .int .i64 tk, fun _ _ => True]
    [[(6, none)], [(27, some 0)], [(28, some 1)], [(7, none)], [(2, none)], [(31, some 4)], [(32, some 5)], [(33, some 6)], [(29, some 2), (30, some 3), (34, some 7)]] [some 27, some 28, some 29, some 30, some 31, some 32, some 33, some 34, some 35] [false, false, false, false, false, false, false, false, false, false, false, false, false, false, false, false, false, false, false, false, false, false, false, false, false, false, false, true, true, true, true, true, true, true, true, true, false, false, false, false, false, false, false, false, false, false, false, false]
    8 _ rfl rfl (by kernel_rfl) (by kernel_rfl) (by kernel_rfl) (by kernel_rfl) (by kernel_rfl) (by kernel_rfl) ?_ ?_ ?_
   ·repeat' (first | exact stable_eq _ | exact stable_true | exact trivial | apply And.intro)
   ·refine ⟨?_, ?_, ?_, ?_, ?_, ?_, ?_, ?_, trivial⟩
    all_goals
     intro b y hb hf
     have z0 := (hb.cell (p := ⟨g0, 0, none⟩) X0).trans e0
     have z3 := (hb.cell (p := ⟨g0 + 3, 0, none⟩) X3).trans e3
     have z23 := (hb.cell (p := ⟨p, 23, none⟩) XP).trans e23
     clear hb HPUT
     simp only [PlanFacts, List.getD_cons_zero, List.getD_cons_succ, Array.getD_eq_getD_getElem?] at hf
     try simp at hf
     try go_simp
    all_goals first
     | exact ⟨rfl, Below.refl _ _⟩
     | exact ⟨_, rfl, Below.refl _ _, rfl⟩
     | exact Below.refl _ _
     | skip
   intro f2 y hby hwd
   simp only [AllWords, List.take] at hwd
   have g29 := hwd.2.2.1
   have g30 := hwd.2.2.2.1
   have g34 := hwd.2.2.2.2.2.2.2.1
   have HP := hide (unhide (HPUT y hby))
   have HBY := hide ((unhide HBX).trans (hby.mono hxs))
   clear hwd HPUT hby e0 e3 e23
   simp only [mergeT, g29, g30, g34]
   generalize f2 27 = y27
   generalize f2 28 = y28
   generalize f2 31 = y31
   generalize f2 32 = y32
   generalize f2 33 = y33
   go_simp
   refine ⟨trivial, ((callsIn_wide.2 (unhide HP)).inRound _).mono ?_⟩
   rintro r z ⟨rfl, hI, hq6, hq7, hsz, hrec⟩
   have hyW := (unhide HBY).size
   have h8z := (hrec g8 _ (((unhide HBY).block g8 hl8).trans (unhide H8))).trans (((unhide HBY).block g8 hl8).trans (unhide H8))
   have hq6 := hq6.trans ((unhide HBY).block _ (by have := (unhide HI2).sz; omega))
   have hq7 := hq7.trans ((unhide HBY).block _ (by have := (unhide HI2).sz; omega))
   have HQ := hide (And.intro hq6 hq7)
   obtain ⟨lv, fs, c', sh2, m1, m2, m3, m4, m5, m6, m7, m8, m9, m10⟩ := hI.mid
   have hlo := hI.lo
   have hzs := hI.sz
   have hln : fs.length ≤ 3 := by
    have h1 := m2.len
    have h2 := sendTo_cnt a.epoch i (a.fl i) tk k
    unfold sentFr at h1
    rw [List.length_map] at h1
    omega
   obtain ⟨lad, lcap, elv, _⟩ := (own_rowO m2.row).shape
   subst elv
   obtain ⟨ep, hep⟩ : ∃ ep, ep = st.opening := ⟨_, rfl⟩
   have hepa : ep = a.epoch := by rw [hep]; exact m4.ep
   have hep4 : ep < 4294967296 := by rw [hep]; exact m3.stt.op
   obtain ⟨FB, hFB⟩ : ∃ FB, FB = Wire.bytes 3 ep i nk bk.data.toList := ⟨_, rfl⟩
   have HFB := fun y => hide (frameBytes_small 3 ep i nk bk y (by omega) (by omega) (by omega) (by omega) (by omega))
   rw [← hFB] at HFB
   have hfr : sentFr a i tk (k + 1) = sentFr a i tk k ++ [⟨FB.toArray⟩] := by
    rw [sentFr_send hkL (unhide HDD).symm, hFB, hepa, (unhide HBK).1, (unhide HBK).2]
   have hlvb : ∀ j, (Value.slice lad fs.length lcap).ownBlock = some j → g0 + 8 ≤ j ∧ j < z.heap.size := fun j hj => m2.lt j (.inl hj)
   have hne8 : (Value.slice lad fs.length lcap).ownBlock ≠ some g8 := (own_rowO m2.row).ne h8z (by decide)
   have c0 := blk_cell (i := 0) hI.h0
   have c1 := blk_cell (i := 0) hI.h1
   have c2 := blk_cell (i := 0) m1
   have c8 := blk_cell (i := 0) h8z
   have f2z := blk_free (i := 0) m1
   simp at c0 c1 c2 c8
   have hEPz := fun y (c4 : Av) (K : PaAt y p g (sentAg a i tk (k + 1)).ticks (sentAg a i tk (k + 1)).welcome (sentAg a i tk (k + 1)).fenced free sh2 st c4) => hide (agEpoch_any K)
   rw [← hep] at hEPz
   have hlpz : ∀ j, j = g0 + 2 ∨ (Value.slice lad fs.length lcap).ownBlock = some j → ¬ PaU p c' j := fun j hj hu => by
    rcases hj with rfl | hj
    ·rcases m6 _ hu with h | h
     ·have := hlo _ h; omega
     ·omega
    ·exact m2.clear j (.inl hj) hu
   have HZ := hide (And.intro hI (And.intro m1 (And.intro m2 (And.intro m3 (And.intro m4 (And.intro m5 (And.intro m6 (And.intro m7 (And.intro m8 (And.intro m9 m10))))))))))
   have HH8 := hide h8z
   have HH1 := hide m1
   have HH0 := hide (And.intro hI.h0 hI.h1)
   have HK3 := hide m3
   have HFR := hide hfr
   clear hI m1 m2 m3 m4 m5 m6 m7 m8 m9 m10 hfr hFB hep hepa hrec h8z hq6 hq7
   unfold ptrTo at *
   gi_upto_region 8 with fail
   refine wpIn_region_foot (by kernel_rfl)
    [fun v _ => v = .slice lad fs.length lcap, fun v _ => v = .pointer (some ⟨p, 0, none⟩), fun v _ => v = .int .i64 ep, fun v _ => v = .int .i64 i, fun v _ => v = .int .i64 nk, fun v _ => v = .pointer (some ⟨g8, 0, none⟩), fun v _ => v = .string bk, fun v _ => v = .agg #[.int .i64 3, .int .i64 ep, .int .i64 i, .int .i64 nk, .string bk],
     fun v y => Owns z.heap.size y v FB, OneF z.heap.size FB, RowF z.heap.size (g0 + 8) (.slice lad fs.length lcap) fs FB, fun _ y => SendI w g0 p i c st g free pl (sentFr a i tk (k + 1)) (sentAg a i tk (k + 1)) y]
    [[(5, none)], [(2, none)], [(37, some 1)], [(3, none)], [(7, none)], [(8, none)], [(41, some 5)], [(38, some 2), (39, some 3), (40, some 4), (42, some 6)], [(43, some 7)], [(44, some 8)], [(36, some 0), (45, some 9)], [(5, none), (46, some 10)]] [some 36, some 37, some 38, some 39, some 40, some 41, some 42, some 43, some 44, some 45, some 46, none] [false, false, false, false, false, false, false, false, false, false, false, false, false, false, false, false, false, false, false, false, false, false, false, false, false, false, false, false, false, false, false, false, false, false, false, false, true, true, true, true, true, true, true, true, true, true, true, false]
    [(10, fun j => (Value.slice lad fs.length lcap).ownBlock = some j), (11, fun j => j = g0 + 2)]
    (by kernel_rfl) (by kernel_rfl) (by kernel_rfl) (by kernel_rfl) (by kernel_rfl) ?_ ?_ ?_ ?_
   ·repeat' (first | exact stable_eq _ | exact stable_owns _ _ | exact stable_oneF _ _ | exact stable_rowF _ _ _ _ _ | exact (fun _ _ _ h hb => h.below hb) | exact trivial | apply And.intro)
   ·repeat' (first | exact trivial | exact .inl rfl | exact .inr (.inr (stableF_eq _ _)) | exact .inr (.inr (stableF_owns (fun j hj => (hlvb j hj).2))) | exact .inr (.inr (stableF_oneF (fun j hj => (hlvb j hj).2))) | exact .inr (.inr (stableF_owns (fun j (hj : j = g0 + 2) => by omega))) | exact .inr (.inr (stableF_oneF (fun j (hj : j = g0 + 2) => by omega))) | exact .inr (.inr (stableF_rowF (fun j (hj : j = g0 + 2) => by omega))) | exact .inr (.inl (show depB _ 11 10 = true by decide +kernel)) | apply And.intro)
   ·refine ⟨?_, ?_, ?_, ?_, ?_, ?_, ?_, ?_, ?_, ?_, ?_, ?_, trivial⟩
    all_goals
     intro b y hb hf
     have hzz := hb.size
     have HBZ := hide hb
     have hno : ∀ (ops : Array Oper) (ii j : Nat), j ≠ g0 + 2 → (Value.slice lad fs.length lcap).ownBlock ≠ some j → ¬ footBut [(10, fun j => (Value.slice lad fs.length lcap).ownBlock = some j), (11, fun j => j = g0 + 2)] ops ii j := fun ops ii j h1 h2 => footBut_no (by intro q hq; simp at hq; rcases hq with rfl | rfl; exact h2; exact h1)
     have hn2 : ∀ j, j < g0 + 8 → (Value.slice lad fs.length lcap).ownBlock ≠ some j := fun j h1 e => by have := (hlvb j e).1; omega
     have z0 := blk_cell (i := 0) (hb.blk (unhide HH0).1 (hno _ _ _ (by omega) (hn2 _ (by omega))))
     have z1 := blk_cell (i := 0) (hb.blk (unhide HH0).2 (hno _ _ _ (by omega) (hn2 _ (by omega))))
     have z8 := blk_cell (i := 0) (hb.blk (unhide HH8) (hno _ _ _ (by omega) hne8))
     simp at z0 z1 z8
     clear hb hno hn2
     simp only [PlanFacts, List.getD_cons_zero, List.getD_cons_succ, Array.getD_eq_getD_getElem?] at hf
     try simp at hf
    ·have z2 := blk_cell (i := 0) ((unhide HBZ).blk (unhide HH1) (by
      rintro ⟨q, hq, g1, g2, g3⟩
      simp at hq
      rcases hq with rfl | rfl
      ·have := (hlvb _ g3).1; omega
      ·exact absurd (show depB _ 11 0 = false from g2) (by decide +kernel)))
     simp at z2
     go_simp
     first | exact ⟨_, rfl, Far.refl _ _, rfl⟩ | exact ⟨rfl, Far.refl _ _⟩ | exact Far.refl _ _
    ·go_simp
     first | exact ⟨_, rfl, Far.refl _ _, rfl⟩ | exact ⟨rfl, Far.refl _ _⟩ | exact Far.refl _ _
    ·have K := (unhide HK3).far (unhide HBZ) (fun j hu => footBut_no (by
      intro q hq
      simp at hq
      rcases hq with rfl | rfl
      ·exact fun e => hlpz j (.inr e) hu
      ·exact fun e => hlpz j (.inl e) hu))
     have HC := hide (unhide (hEPz y _ K))
     clear K
     go_simp
     refine ⟨trivial, ((callsIn_wide.2 (unhide HC)).inRound _).mono ?_⟩
     rintro r y2 ⟨rfl, hyy⟩
     obtain rfl : y = y2 := hyy.symm
     first | exact ⟨_, rfl, Far.refl _ _, rfl⟩ | exact ⟨rfl, Far.refl _ _⟩ | exact Far.refl _ _
    iterate 5
     ·go_simp
      first | exact ⟨_, rfl, Far.refl _ _, rfl⟩ | exact ⟨rfl, Far.refl _ _⟩ | exact Far.refl _ _
    ·go_simp
     refine ⟨trivial, ((callsIn_wide.2 (unhide (HFB y))).inRound _).mono ?_⟩
     rintro r y2 ⟨v, rfl, ho, hb⟩
     exact ⟨_, rfl, far_below hb, ownsRow_monoB ho (by omega)⟩
    ·obtain ⟨ad2, cap2, e2, _⟩ := (own_rowO hf).shape
     have HO := hide hf
     clear hf
     rw [e2] at HO
     go_simp
     exact ⟨_, rfl, far_below ((Below.refl _ _).alloc (Nat.le_refl _) _), _, _, rfl, hzz, heap_alloc_new y _, Owns.alloc (unhide HO) _⟩
    ·obtain ⟨hf36, gg, vb, hf45, hg1, hg2, hg3⟩ := hf
     obtain ⟨ad2, cap2, e2, _⟩ := (own_rowO hg3).shape
     have hrow : y.ownsRow (g0 + 8) 44 1 (.slice lad fs.length lcap) fs.length fs := ownsRow_keep (unhide HZ).2.2.1.row (fun j hj => (unhide HBZ).rest j (hlvb j hj).2 (by
      rintro ⟨q, hq, g1, g2, g3⟩
      simp at hq
      rcases hq with rfl | rfl
      ·exact g1 rfl
      ·have : j = g0 + 2 := g3
       have := (hlvb j hj).1
       omega))
     refine stepIn_app_own rfl (.tmp 36) (.tmp 45) 38 rfl (g0 + 8) 44 (.slice none 0 0) 1 24 Tryz.underlying38 (by kernel_rfl) rfl (by decide) (.slice lad fs.length lcap) fs.length fs hrow (by simp [Act.eval, hf36]) ⟨gg, 0, none⟩ 1 1 [vb] (by simp [Act.eval, hf45]) rfl ?_ (by intro u hu; simp at hu; subst hu; rw [e2]; rfl) (by unfold maxLen; omega) (by omega) (by omega) ?_
     ·intro j u hj
      rw [add_mk, blk_cell hg2, Nat.zero_add]
      simpa using hj
     ·intro v' w' q1 q2 q3
      exact ⟨v', rfl, footOf_of (.head _) (far_grown q2), vb, q1, ownsRow_keep hg3 (fun j hj => q2.block j (World.ownsRow.lt hg3 j hj).2 (fun e => by have := (hlvb j e.symm).2; have := (World.ownsRow.lt hg3 j hj).1; omega)), fun j hj => by
       have hj : v'.ownBlock = some j := hj
       rcases q3 with e | e
       ·exact .inl (by rw [← e]; exact hj)
       ·rw [e] at hj
        injection hj with hj
        exact .inr (by omega)⟩
    ·have hFz : Far (fun j => (Value.slice lad fs.length lcap).ownBlock = some j) z y := (unhide HBZ).mono (by
      rintro j _ ⟨q, hq, g1, g2, g3⟩
      simp at hq
      rcases hq with rfl | rfl
      ·exact g3
      ·exact absurd rfl g1)
     have hb2 := hFz.blk (unhide HH1) (fun e => by have := (hlvb _ e).1; omega)
     have z2 := blk_cell (i := 0) hb2
     have z2f := blk_free (i := 0) hb2
     simp at z2
     obtain ⟨_, vb, hr, hv, hl⟩ := hf
     obtain ⟨ad3, cap3, e3, _⟩ := (own_rowO hr).shape
     rw [e3] at hr hl
     have HR := hide (And.intro hr (And.intro hv hl))
     have HFz := hide hFz
     clear hr hv hl hFz hb2
     go_simp
     obtain ⟨hr, hv, hl⟩ := unhide HR
     obtain ⟨hI, m1, m2, m3, m4, m5, m6, m7, m8, m9, m10⟩ := unhide HZ
     refine ⟨footOf_of (.tail _ (.head _)) (far_set y (g0 + 2) 0 _), ?_⟩
     rw [unhide HFR]
     exact sendI_app hI m1 m2 m3 m4 m5 m6 m7 m8 m9 m10 (unhide HFz) (by simpa using hv) hr hl
   ·intro f3 y hF hwd
    have hI2 := hwd.2.2.2.2.2.2.2.2.2.2.2.1
    have hF2 := hF.mono (E' := fun j => g0 + 8 ≤ j ∨ j = g0 + 2) (fun j _ h => by
     obtain ⟨q, hq, h⟩ := h
     simp at hq
     rcases hq with rfl | rfl
     ·exact .inl (hlvb j h).1
     ·exact .inr h)
    have h6 := hF2.rest (g0 + 6) (by omega) (by omega)
    have h7 := hF2.rest (g0 + 7) (by omega) (by omega)
    have HE := hide (And.intro h6 (And.intro h7 hI2))
    clear hwd hF hF2 h6 h7 hI2
    simp only [mergeT]
    gi_wp2
    obtain ⟨h6, h7, hI2⟩ := unhide HE
    exact ⟨h6.trans (unhide HQ).1, h7.trans (unhide HQ).2, hI2⟩
 ·intro k W h
  have := h.sz
  omega
 ·intro W h hK
  rw [hD] at hK ⊢
  rw [hlen, ← sentFr_four rfl, ← sentAg_four rfl] at h
  obtain ⟨lv, fs, c', sh2, m1, m2, m3, m4, m5, m6, m7, m8, _, _⟩ := h.mid
  have c5 := blk_cell (i := 0) m1
  simp at c5
  have hlo := h.lo
  have hzW := h.sz
  have HE := hide (And.intro m2 (And.intro m3 (And.intro m4 (And.intro m5 (And.intro m6 (And.intro m7 m8))))))
  clear h m1 m2 m3 m4 m5 m6 m7 m8
  go_wp2
  have hput : Far (fun k => k = g0 + 6) W (W.putObj (g0 + 6) (.deferred none)) := ⟨rfl, rfl, rfl, by rw [World.putObj_size]; exact Nat.le_refl _, fun k _ h => World.putObj_heap_other h⟩
  refine ⟨by simp, .inl ⟨_, _, rfl, run_takeDeferred hK, ?_⟩⟩
  obtain ⟨m2, m3, m4, m5, m6, m7, m8⟩ := unhide HE
  have hgw := unhide HG0
  have hno : ∀ j, PaU p c' j → ¬ j = g0 + 6 := fun j hj e => by
   rcases m6 j hj with h1 | h1
   ·have := hlo j h1; omega
   ·omega
  rw [unhide HTK] at m2 m4
  refine ⟨_, results_tmp rfl _ _ _, _, fs, c', sh2, rfl, ?_, m3.far hput hno, m4, m5.trans hput (fun k hk e => by omega), fun j hj => (m6 j hj).imp id (fun h => by omega), m7, m8⟩
  have := m2.keep (x := W.putObj (g0 + 6) (.deferred none)) (fun k hk => hput.rest k (m2.lt k hk).2 (by have := (m2.lt k hk).1; omega))
  exact ⟨this.len, ownsRow_monoB this.row (by omega), fun j v hj => ownsRow_monoB (this.each j v hj) (by omega), this.apart, this.clear⟩
end
end Go.Proofs.YtamafdcnbcoegaaGreat
