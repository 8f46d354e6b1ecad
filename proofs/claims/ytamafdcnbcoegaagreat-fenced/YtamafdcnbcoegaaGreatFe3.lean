/-
  Part 3 of a proof: MonoFoot, D6, D7, M1, X2, X4, X5, M2, Y3, Y4, Y5, Y6, S1, Shelf.
-/
import Derived.Laws.OwnMore
import Derived.Maps.OwnIn
import Derived.Shelf.Small.Wraps
import Derived.Shelf.LaysM
import Derived.Shelf.Strconv.Clone
import Derived.Shelf.Slices.Reverse
import Derived.Ground.Names2Prog
import Derived.Shelf.Slices.Clone
import Derived.Shelf.Slices.SearchI
import Derived.Shelf.Slices.Delete
import Derived.Shelf.Slices.Cells
import Derived.Shelf.Slices.Empties
import Derived.Test.YtamafdcnbcoegaaGreatProg
import Derived.Shelf.Spec.SlicesInsertGrow
import Derived.Test.YtamafdcnbcoegaaGreatFe2
namespace Go.Proofs.YtamafdcnbcoegaaGreat
open Go.RowKit
def valOf (d : Option Tmp) (v : Value) : Value := match d with | some _ => v | none => undef
section
variable {P : Program} {ops : Array Oper} {Q : Exit → Act → World → Prop}
structure FootInv (ops : Array Oper) (Φ : Nat → Value → World → Prop) (E : Nat → Nat → Prop) (a0 : Act) (w0 : World) (L : Array Bool) (a : Act) (w : World) : Prop where
 size : L.size = ops.size
 ext : Far (fun b => ∃ k, L.getD k false = true ∧ E k b) w0 w
 closed : ∀ k, L.getD k false = true → ∀ j, depB ops k j = true → L.getD j false = true
 vals : ∀ i o, ops[i]? = some o → L.getD i false = true → Φ i (match o.dst with | some d => a.tmps.getD d undef | none => undef) w
 rest : ∀ t, (∀ j, wr ops t = some j → L.getD j false = false) → a.tmps.getD t undef = a0.tmps.getD t undef
 defers : a.defers = a0.defers
 tsize : a.tmps.size = a0.tmps.size
theorem mono_foot {a0 : Act} {w0 : World} (Φ : Nat → Value → World → Prop) (E : Nat → Nat → Prop) (hok : monoOk ops a0.tmps.size = true)
  (hst : ∀ i j v w w', i ≠ j → depB ops j i = false → Φ j v w → Far (E i) w w' → Φ j v w')
  (hop : ∀ i o, ops[i]? = some o → ∀ a w, Far (fun b => ∃ k, k ≠ i ∧ depB ops k i = false ∧ E k b) w0 w → GoodAct ops Φ a0 i o a w →
   if Region.wanted o (yielded ops a.tmps) = true then o.wp P a w (fun a' w' => ∃ v, a' = a.put o.dst v ∧ Far (E i) w w' ∧ Φ i (valOf o.dst v) w') Q else Φ i undef w)
  (hend : ∀ a w, Far (fun b => ∃ k, E k b) w0 w → (∀ i o, ops[i]? = some o → Φ i (match o.dst with | some d => a.tmps.getD d undef | none => undef) w) → (∀ t, wr ops t = none → a.tmps.getD t undef = a0.tmps.getD t undef) → a.defers = a0.defers → a.tmps.size = a0.tmps.size → Q .normal a w) :
  ∀ (fuel : Nat) (L : Array Bool) (a : Act) (w : World), FootInv ops Φ E a0 w0 L a w → (List.range ops.size).countP (fun i => !L.getD i false) ≤ fuel → wpAny P .any ops Q fuel L a w := by
 have hrdy : ∀ (L : Array Bool) (a : Act) (w : World), FootInv ops Φ E a0 w0 L a w → Region.ready .any ops L = [] → Q .normal a w := by
  intro L a w hI hr
  have hall : ∀ n i, i < n → i < ops.size → L.getD i false = true := by
   intro n
   induction n with
   | zero => intro i h; omega
   | succ n ih =>
    intro i h hi
    by_cases hin : i < n
    ·exact ih i hin hi
    ·have e : i = n := by omega
     subst e
     cases hL : L.getD i false
     ·exfalso
      have ho : ops[i]? = some ops[i] := Array.getElem?_eq_getElem hi
      obtain ⟨_, _, h3⟩ := monoOk_spec hok ho
      have : i ∈ Region.ready .any ops L := mem_ready.2 ⟨by
       have hs : i < L.size := by rw [hI.size]; exact hi
       rw [Array.getD_eq_getD_getElem?, Array.getElem?_eq_getElem hs] at hL ⊢
       exact hL, ops[i], ho, fun e he hb => by
       have hd : depB ops i e.on = true := by
        unfold depB
        rw [ho]
        exact Array.any_eq_true'.2 ⟨e, he, by simp [hb]⟩
       have hlt := h3 _ hd
       exact ih e.on hlt (by omega)⟩
      rw [hr] at this
      cases this
     ·rfl
  refine hend a w (hI.ext.mono (fun b _ h => h.imp fun k h => h.2)) (fun i o ho => hI.vals i o ho (hall ops.size i (Array.getElem?_eq_some_iff.1 ho).1 (Array.getElem?_eq_some_iff.1 ho).1)) (fun t ht => hI.rest t (fun j hj => by rw [ht] at hj; cases hj)) hI.defers hI.tsize
 intro fuel
 induction fuel with
 | zero =>
  intro L a w hI hc
  have hr : Region.ready .any ops L = [] := by
   apply List.eq_nil_iff_forall_not_mem.2
   intro i hi
   obtain ⟨h0, o, ho, _⟩ := mem_ready.1 hi
   have hlt : i < ops.size := (Array.getElem?_eq_some_iff.1 ho).1
   have h0' : L.getD i false = false := by
    have hs : i < L.size := by rw [hI.size]; exact hlt
    rw [Array.getD_eq_getD_getElem?, Array.getElem?_eq_getElem hs] at h0 ⊢
    exact h0
   have : 0 < (List.range ops.size).countP (fun i => !L.getD i false) := List.countP_pos_iff.2 ⟨i, List.mem_range.2 hlt, by simp [h0']⟩
   omega
  exact ⟨hr, hrdy L a w hI hr⟩
 | succ fuel ih =>
  intro L a w hI hc
  refine ⟨hrdy L a w hI, fun i hi => ?_⟩
  obtain ⟨h0, o, ho, hdeps⟩ := mem_ready.1 hi
  have hlt : i < ops.size := (Array.getElem?_eq_some_iff.1 ho).1
  have hls : i < L.size := by rw [hI.size]; exact hlt
  have h0' : L.getD i false = false := by
   rw [Array.getD_eq_getD_getElem?, Array.getElem?_eq_getElem hls] at h0 ⊢
   exact h0
  obtain ⟨hd, hl, hlex⟩ := monoOk_spec hok ho
  have hdl : ∀ j, depB ops i j = true → L.getD j false = true := by
   intro j hj
   unfold depB at hj
   rw [ho] at hj
   obtain ⟨e, he, hb⟩ := Array.any_eq_true'.1 hj
   simp only [Bool.and_eq_true, beq_iff_eq] at hb
   rw [← hb.2]; exact hdeps e he hb.1
  have hgood : GoodAct ops Φ a0 i o a w := by
   intro t ht
   cases hw : wr ops t with
   | none => exact hI.rest t (fun j hj => by rw [hw] at hj; cases hj)
   | some j =>
    simp only []
    have hj := List.find?_some hw
    simp only [beq_iff_eq] at hj
    split
    ·rename_i hdep
     cases hoj : ops[j]? with
     | none => rw [hoj] at hj; cases hj
     | some oj =>
      rw [hoj] at hj
      have hvv := hI.vals j oj hoj (hdl j hdep)
      have hj' : oj.dst = some t := hj
      rw [hj'] at hvv
      exact hvv
    ·rename_i hdep
     refine hI.rest t (fun j' hj' => ?_)
     rw [hw] at hj'
     cases hj'
     rcases hl t ht j hw with h | h
     ·exact absurd h hdep
     ·cases hLj : L.getD j false
      ·rfl
      ·have := hI.closed j hLj i h
       rw [h0'] at this; cases this
  have hstep : ∀ v w', Far (E i) w w' → Φ i (valOf o.dst v) w' → FootInv ops Φ E a0 w0 (L.setIfInBounds i true) (a.put o.dst v) w' := by
   intro v w' hb hv
   have hget : ∀ k, (L.setIfInBounds i true).getD k false = true ↔ (k = i ∨ L.getD k false = true) := by
    intro k
    by_cases hk : k = i
    ·subst hk
     simp [Array.getD_eq_getD_getElem?, hls]
    ·rw [getD_set_ne false (fun e => hk e.symm)]
     simp [hk]
   have hput : ∀ t, (a.put o.dst v).tmps.getD t undef = if o.dst = some t then v else a.tmps.getD t undef := by
    intro t
    cases hdst : o.dst with
    | none => simp [Act.put]
    | some d =>
     simp only [Act.put, Option.some.injEq]
     have hdsz : d < a.tmps.size := by rw [hI.tsize]; exact (hd d hdst).1
     by_cases h : d = t
     ·subst h
      simp [Array.getD_eq_getD_getElem?, hdsz]
     ·simp [Array.getD_eq_getD_getElem?, h]
   refine ⟨by simp [hI.size], (hI.ext.mono (fun b _ h => by obtain ⟨k, h1, h2⟩ := h; exact ⟨k, (hget k).2 (.inr h1), h2⟩)).trans hb (fun b _ h => ⟨i, (hget i).2 (.inl rfl), h⟩), ?_, ?_, ?_, ?_, ?_⟩
   ·intro k hk j hj
    rw [hget] at hk ⊢
    rcases hk with rfl | hk
    ·exact .inr (hdl j hj)
    ·exact .inr (hI.closed k hk j hj)
   ·intro k ok hok' hk
    rw [hget] at hk
    rcases hk with rfl | hk
    ·rw [ho] at hok'; cases hok'
     cases hdst : o.dst with
     | none => rw [hdst] at hv; exact hv
     | some d =>
      rw [hdst] at hv
      simp only []
      have hp := hput d
      rw [if_pos hdst, hdst] at hp
      rw [hp]; exact hv
    ·have hki : i ≠ k := by
      intro e
      subst e
      rw [h0'] at hk; cases hk
     have hnd : depB ops k i = false := by
      cases hd : depB ops k i with
      | false => rfl
      | true =>
       have := hI.closed k hk i hd
       rw [h0'] at this; cases this
     have hvk := hst i k _ _ _ hki hnd (hI.vals k ok hok' hk) hb
     cases hdk : ok.dst with
     | none => rw [hdk] at hvk; exact hvk
     | some d =>
      rw [hdk] at hvk
      simp only [] at hvk ⊢
      have hne : o.dst ≠ some d := by
       intro e
       have h1 := (hd d e).2
       have h2 := ((monoOk_spec hok hok').1 d hdk).2
       rw [h1] at h2
       cases h2
       exact hki rfl
      rw [hput, if_neg hne]
      exact hvk
   ·intro t ht
    rw [hput]
    have hne : o.dst ≠ some t := by
     intro e
     have := ht i (hd t e).2
     have h2 := (hget i).2 (.inl rfl)
     rw [this] at h2; cases h2
    rw [if_neg hne]
    refine hI.rest t (fun j hj => ?_)
    cases hLj : L.getD j false
    ·rfl
    ·have := ht j hj
     rw [(hget j).2 (.inr hLj)] at this; cases this
   ·cases o.dst <;> exact hI.defers
   ·rw [← hI.tsize]; cases o.dst <;> simp [Act.put]
  have hcount : (List.range ops.size).countP (fun k => !(L.setIfInBounds i true).getD k false) ≤ fuel := by
   have := countP_lt (l := List.range ops.size) (p := fun k => !L.getD k false) (q := fun k => !(L.setIfInBounds i true).getD k false)
    (fun k _ hk => by
     by_cases hki : k = i
     ·subst hki; simp [h0']
     ·rw [getD_set_ne false (fun e => hki e.symm)] at hk; exact hk)
    ⟨i, List.mem_range.2 hlt, by simp [h0'], by simp [Array.getD_eq_getD_getElem?, hls]⟩
   omega
  have hg := hop i o ho a w (hI.ext.mono (fun b _ h => by
   obtain ⟨k, h1, h2⟩ := h
   refine ⟨k, fun e => ?_, ?_, h2⟩
   ·subst e; rw [h0'] at h1; cases h1
   ·cases hd : depB ops k i with
    | false => rfl
    | true =>
     have := hI.closed k h1 i hd
     rw [h0'] at this; cases this)) hgood
  unfold wpOp
  rw [ho]
  simp only []
  split at hg
  ·rename_i hw
   rw [if_pos hw]
   refine .inl (Oper.wp_mono ?_ hg)
   rintro a' w' ⟨v, rfl, hb, hv⟩
   exact ih _ _ _ (hstep v w' hb hv) hcount
  ·rename_i hw
   rw [if_neg hw]
   exact ih _ _ _ (hstep undef w (Far.refl _ _) (by cases o.dst <;> exact hg)) hcount
def footOf (Ws : List (Nat × (Nat → Prop))) (i : Nat) (b : Nat) : Prop := ∃ p ∈ Ws, p.1 = i ∧ p.2 b
def footBut (Ws : List (Nat × (Nat → Prop))) (ops : Array Oper) (i : Nat) (b : Nat) : Prop := ∃ p ∈ Ws, p.1 ≠ i ∧ depB ops p.1 i = false ∧ p.2 b
def StableF (E : Nat → Prop) (φ : Value → World → Prop) : Prop := ∀ v w w', φ v w → Far E w w' → φ v w'
theorem stableF_eq (E : Nat → Prop) (c : Value) : StableF E (fun v _ => v = c) := fun _ _ _ h _ => h
theorem stableF_true (E : Nat → Prop) : StableF E (fun _ _ => True) := fun _ _ _ _ _ => trivial
def StableBut (ops : Array Oper) (i : Nat) (E : Nat → Prop) : Nat → List (Value → World → Prop) → Prop
 | _, [] => True
 | j, φ :: r => (i = j ∨ depB ops j i = true ∨ StableF E φ) ∧ StableBut ops i E (j + 1) r
def AllStableF (ops : Array Oper) (L : List (Value → World → Prop)) : List (Nat × (Nat → Prop)) → Prop
 | [] => True
 | p :: r => StableBut ops p.1 p.2 0 L ∧ AllStableF ops L r
theorem stableBut_get {ops : Array Oper} {i : Nat} {E : Nat → Prop} : ∀ {L : List (Value → World → Prop)} {s : Nat}, StableBut ops i E s L → ∀ j, i ≠ s + j → depB ops (s + j) i = false → StableF E (L.getD j (fun _ _ => True))
 | [], _, _, _, _, _ => by simpa using stableF_true E
 | φ :: r, s, h, 0, hne, hd => by
  rcases h.1 with h | h | h
  ·exact absurd h hne
  ·rw [Nat.add_zero] at hd; rw [hd] at h; cases h
  ·exact h
 | φ :: r, s, h, j + 1, hne, hd => by
  have := stableBut_get (L := r) (s := s + 1) h.2 j (by omega) (by rw [show s + 1 + j = s + (j + 1) by omega]; exact hd)
  simpa using this
theorem allStableF_get {ops : Array Oper} {L : List (Value → World → Prop)} : ∀ {Ws : List (Nat × (Nat → Prop))}, AllStableF ops L Ws → ∀ p ∈ Ws, StableBut ops p.1 p.2 0 L
 | [], _, _, hp => by cases hp
 | q :: r, h, p, hp => by
  cases hp with
  | head => exact h.1
  | tail _ hp => exact allStableF_get h.2 p hp
def onceB (Ws : List (Nat × (Nat → Prop))) : Bool := (Ws.map (·.1)).all fun i => (Ws.map (·.1)).count i == 1
theorem once_same {Ws : List (Nat × (Nat → Prop))} (h : onceB Ws = true) {p q : Nat × (Nat → Prop)} (hp : p ∈ Ws) (hq : q ∈ Ws) (e : p.1 = q.1) : p = q := by
 induction Ws with
 | nil => cases hp
 | cons x r ih =>
  have hx : ∀ y ∈ r, y.1 ≠ x.1 := by
   intro y hy e
   have h1 := List.all_eq_true.1 h x.1 (by simp)
   rw [beq_iff_eq, List.map_cons, List.count_cons_self] at h1
   have : (r.map (·.1)).count x.1 = 0 := by omega
   exact (List.count_eq_zero.1 this) (List.mem_map.2 ⟨y, hy, e⟩)
  have hr : onceB r = true := by
   unfold onceB at h ⊢
   rw [List.all_eq_true] at h ⊢
   intro i hi
   have h1 := h i (by rw [List.map_cons]; exact .tail _ hi)
   obtain ⟨y, hy, rfl⟩ := List.mem_map.1 hi
   rw [beq_iff_eq, List.map_cons, List.count_cons_of_ne (fun e => hx y hy e.symm)] at h1
   rw [beq_iff_eq]; exact h1
  cases hp with
  | head =>
   cases hq with
   | head => rfl
   | tail _ hq => exact absurd e.symm (hx q hq)
  | tail _ hp =>
   cases hq with
   | head => exact absurd e (hx p hp)
   | tail _ hq => exact ih hr hp hq
def FootOps (P : Program) (ops : Array Oper) (Q : Exit → Act → World → Prop) (L : List (Value → World → Prop)) (Ws : List (Nat × (Nat → Prop))) (a0 : Act) (w0 : World) : Nat → List Oper → List (List (Tmp × Option Nat)) → List (Value → World → Prop) → Prop
 | i, o :: os, pl :: pls, φ :: φs => (∀ a w, Far (footBut Ws ops i) w0 w → PlanFacts L a0 a w pl →
   if Region.wanted o (yielded ops a.tmps) = true then o.wp P a w (fun a' w' => ∃ v, a' = a.put o.dst v ∧ Far (footOf Ws i) w w' ∧ φ (valOf o.dst v) w') Q else φ undef w) ∧ FootOps P ops Q L Ws a0 w0 (i + 1) os pls φs
 | _, [], _, _ => True
 | _, _, _, _ => False
theorem footOps_get {L : List (Value → World → Prop)} {Ws : List (Nat × (Nat → Prop))} {a0 : Act} {w0 : World} : ∀ {s : Nat} {os : List Oper} {pls : List (List (Tmp × Option Nat))} {φs : List (Value → World → Prop)}, FootOps P ops Q L Ws a0 w0 s os pls φs →
  ∀ (i : Nat) o pl, os[i]? = some o → pls[i]? = some pl → ∀ a w, Far (footBut Ws ops (s + i)) w0 w → PlanFacts L a0 a w pl →
   if Region.wanted o (yielded ops a.tmps) = true then o.wp P a w (fun a' w' => ∃ v, a' = a.put o.dst v ∧ Far (footOf Ws (s + i)) w w' ∧ φs.getD i (fun _ _ => True) (valOf o.dst v) w') Q else φs.getD i (fun _ _ => True) undef w
 | _, [], _, _, _, i, o, pl, ho, _ => by simp at ho
 | _, o :: os, [], _, h, _, _, _, _, _ => h.elim
 | _, o :: os, pl :: pls, [], h, _, _, _, _, _ => h.elim
 | _, o :: os, pl :: pls, φ :: φs, h, 0, o', pl', ho, hp => by
  simp at ho hp; subst ho; subst hp
  exact h.1
 | s, o :: os, pl :: pls, φ :: φs, h, i + 1, o', pl', ho, hp => by
  have := footOps_get h.2 i o' pl' (by simpa using ho) (by simpa using hp)
  rw [show s + 1 + i = s + (i + 1) by omega] at this
  simpa using this
def EveryWord (f : Nat → Value) (w : World) : List (Option Tmp) → List (Value → World → Prop) → Prop
 | some d :: ds, φ :: φs => φ (f d) w ∧ EveryWord f w ds φs
 | none :: ds, φ :: φs => φ undef w ∧ EveryWord f w ds φs
 | _, _ => True
theorem everyWord_of {f : Nat → Value} {w : World} : ∀ {os : List Oper} {L : List (Value → World → Prop)}, (∀ i o, os[i]? = some o → L.getD i (fun _ _ => True) (match o.dst with | some d => f d | none => undef) w) → EveryWord f w (os.map (·.dst)) L
 | [], _, _ => by simp [EveryWord]
 | o :: os, [], _ => by cases h : o.dst <;> simp [EveryWord, h]
 | o :: os, φ :: φs, h => by
  have ih := everyWord_of (os := os) (L := φs) (fun i o' ho => by have := h (i + 1) o' (by simpa using ho); simpa using this)
  have h0 := h 0 o rfl
  cases hd : o.dst with
  | none => rw [hd] at h0; simpa [EveryWord, hd] using ⟨h0, ih⟩
  | some d => rw [hd] at h0; simpa [EveryWord, hd] using ⟨h0, ih⟩
theorem footBut_no {Ws : List (Nat × (Nat → Prop))} {ops : Array Oper} {i k : Nat} (h : ∀ p ∈ Ws, ¬ p.2 k) : ¬ footBut Ws ops i k := fun ⟨p, hp, _, _, h3⟩ => h p hp h3
theorem foot_below {Ws : List (Nat × (Nat → Prop))} {ops : Array Oper} {i : Nat} {w z : World} (h : Far (footBut Ws ops i) w z) (hd : ∀ p ∈ Ws, depB ops p.1 i = true) : Below w.heap.size w z :=
 h.below (Nat.le_refl _) (fun _ _ ⟨p, hp, _, h2, _⟩ => by rw [hd p hp] at h2; cases h2)
theorem footOf_of {Ws : List (Nat × (Nat → Prop))} {i : Nat} {E : Nat → Prop} {w w' : World} (hp : (i, E) ∈ Ws) (h : Far E w w') : Far (footOf Ws i) w w' := h.mono (fun _ _ hb => ⟨(i, E), hp, rfl, hb⟩)
theorem wp_region_foot {id : Nat} {a0 : Act} {w0 : World} (hm : P.follows .mixedOrders = true) (L : List (Value → World → Prop)) (plan : List (List (Tmp × Option Nat))) (D : List (Option Tmp)) (M : List Bool) (Ws : List (Nat × (Nat → Prop)))
  (hon : onceB Ws = true) (hok : monoOk ops a0.tmps.size = true) (hplan : planOf ops = plan) (hD : dstsOf ops = D) (hM : maskOf ops a0.tmps.size = M) (hst : AllStable L) (hstF : AllStableF ops L Ws) (hop : FootOps P ops Q L Ws a0 w0 0 ops.toList plan L)
  (hend : ∀ f w, Far (fun b => ∃ p ∈ Ws, p.2 b) w0 w → EveryWord f w D L → Q .normal { tmps := (mergeT M a0.tmps.toList 0 f).toArray, defers := a0.defers } w) :
  (Code.region id ops true).wp P Q a0 w0 := by
 refine wp_region_any hm (mono_foot (w0 := w0) (fun i => L.getD i (fun _ _ => True)) (footOf Ws) hok ?_ ?_ ?_ ops.size _ a0 _ ⟨by simp, far_below ((Below.refl _ _).drew), ?_, ?_, fun _ _ => rfl, rfl, rfl⟩ ?_)
 ·intro i j v w w' hij hd hv hF
  by_cases hi : ∃ p ∈ Ws, p.1 = i
  ·obtain ⟨p, hp, rfl⟩ := hi
   have hs := stableBut_get (allStableF_get hstF p hp) j (by omega) (by rw [Nat.zero_add]; exact hd)
   exact hs v w w' hv (hF.mono (fun b _ h => by
    obtain ⟨q, hq, e, hb⟩ := h
    rw [once_same hon hp hq e.symm]; exact hb))
  ·exact allStable_get hst j v w w' hv (hF.below (Nat.le_refl _) (fun k _ h => by
    obtain ⟨q, hq, e, _⟩ := h
    exact hi ⟨q, hq, e⟩))
 ·intro i o ho a w hb hg
  have hlt : i < ops.size := (Array.getElem?_eq_some_iff.1 ho).1
  have hpl : plan[i]? = some ((o.looksAt ops).map fun t => (t, match wr ops t with
     | some j => if depB ops i j = true then some j else none
     | none => none)) := by
   rw [← hplan]
   unfold planOf
   rw [List.getElem?_map, List.getElem?_range hlt, Option.map_some, ho]
   try rfl
  have := footOps_get hop i o _ (by simpa using ho) hpl a w (by
   rw [Nat.zero_add]
   exact hb.mono (fun b _ h => by
    obtain ⟨k, h1, h2, p, hp, rfl, h3⟩ := h
    exact ⟨p, hp, h1, h2, h3⟩)) (planFacts_of rfl (o := o) _ hg)
  rw [Nat.zero_add] at this
  exact this
 ·intro a w hb hv hr hd hs
  have h := hend (fun t => a.tmps.getD t undef) w (hb.mono (fun b _ h => by
   obtain ⟨k, p, hp, _, h3⟩ := h
   exact ⟨p, hp, h3⟩)) (by rw [← hD]; exact everyWord_of (fun i o ho => hv i o (by simpa using ho)))
  have e : mergeT M a0.tmps.toList 0 (fun t => a.tmps.getD t undef) = a.tmps.toList := by
   refine mergeT_eq _ _ _ _ _ (by rw [← hM]; simp [maskOf]) (by simpa using hs) ?_ ?_
   ·intro j hj _
    simp [Array.getD_eq_getD_getElem?, List.getD_eq_getElem?_getD]
   ·intro j hj hb
    rw [← hM] at hb
    have hj' : j < a0.tmps.size := by rw [← hs]; simpa using hj
    have hw : wr ops j = none := by
     unfold maskOf at hb
     simp [List.getD_eq_getElem?_getD, List.getElem?_map, List.getElem?_range hj'] at hb
     exact hb
    have := hr j hw
    simpa [Array.getD_eq_getD_getElem?, List.getD_eq_getElem?_getD] using this
  rw [e, ← hd] at h
  exact h
 ·intro k hk
  simp [Array.getD_eq_getD_getElem?] at hk
  rcases h : (Array.replicate ops.size false)[k]? with _ | b <;> simp [h] at hk
  subst hk
  have := Array.getElem?_eq_some_iff.1 h
  obtain ⟨h1, h2⟩ := this
  simp at h2
 ·intro i o ho hk
  exfalso
  simp [Array.getD_eq_getD_getElem?] at hk
  rcases h : (Array.replicate ops.size false)[i]? with _ | b <;> simp [h] at hk
  subst hk
  have := Array.getElem?_eq_some_iff.1 h
  obtain ⟨h1, h2⟩ := this
  simp at h2
 ·exact Nat.le_trans List.countP_le_length (by simp)
end
end Go.Proofs.YtamafdcnbcoegaaGreat
namespace Go.Proofs.YtamafdcnbcoegaaGreat
open Go.RowKit
theorem alloc2 (w : World) (A B : Obj) : ((w.alloc A).alloc B).heap[w.heap.size]? = some A ∧ ((w.alloc A).alloc B).heap[w.heap.size + 1]? = some B ∧ Below w.heap.size w ((w.alloc A).alloc B) := by
 have h1 := heap_alloc_new (w.alloc A) B
 have e1 : (w.alloc A).heap.size = w.heap.size + 1 := by simp
 rw [e1] at h1
 refine ⟨?_, h1, ((Below.refl _ _).alloc (Nat.le_refl _) _).alloc (by omega) _⟩
 rw [hao _ _ (by omega)]
 exact heap_alloc_new w A
set_option maxRecDepth 100000 in
set_option maxHeartbeats 2000000 in
theorem sealHead_any (o c a b d : Nat) (w : World) (ho : o < 4294967296) (hc : c < 18446744073709551616) (ha : a < 4294967296) (hb : b < 4294967296) (hd : d < 4294967296) :
  Calls Tryz.prog 198 #[.agg #[.int .u32 o, .int .u64 c, .int .i64 a, .int .i64 b, .int .i64 d]] w fun r w' => r = .returned (.agg (bv (Mod.sealB o c (Mod.headIn a b d))).toArray) ∧ Below w.heap.size w w' := by
 have e0 : ∀ y : World, (Instr.index 136 (.agg #[.int .i64 a, .int .i64 b, .int .i64 d]) (.int .i64 0)).run Tryz.prog y = .ok (.int .i64 a) y := fun y => by kernel_rfl
 have e1 : ∀ y : World, (Instr.index 136 (.agg #[.int .i64 a, .int .i64 b, .int .i64 d]) (.int .i64 1)).run Tryz.prog y = .ok (.int .i64 b) y := fun y => by kernel_rfl
 have e2 : ∀ y : World, (Instr.index 136 (.agg #[.int .i64 a, .int .i64 b, .int .i64 d]) (.int .i64 2)).run Tryz.prog y = .ok (.int .i64 d) y := fun y => by kernel_rfl
 have hl : ∀ n : Int, (Wire.le4 n).length = 4 := fun n => Wire.length_le4 n
 go_enter Tryz.func198, Tryz.ntmps198
 go_upto_region 2 with fail
 refine wp_world (fun x => x.heap[w.heap.size]? = some (.cells #[.int .u32 o, .int .u64 c, .int .i64 a, .int .i64 b, .int .i64 d] 217 (0, 0)) ∧ x.heap[w.heap.size + 1]? = some (.cells (bv zeros).toArray 207 (0, 0)) ∧ Below w.heap.size w x) ?_ ?_
 ·exact ⟨(alloc2 _ _ _).1, cells_eq (alloc2 _ _ _).2.1 (by kernel_rfl), (alloc2 _ _ _).2.2⟩
 rintro x ⟨h0, h1, hB⟩
 have c2 : x.cell? ⟨w.heap.size, 2, none⟩ = some (.int .i64 a) := blk_cell (i := 2) h0
 have c3 : x.cell? ⟨w.heap.size, 3, none⟩ = some (.int .i64 b) := blk_cell (i := 3) h0
 have c4 : x.cell? ⟨w.heap.size, 4, none⟩ = some (.int .i64 d) := blk_cell (i := 4) h0
 have hz := lt_of_block h1
 have H0 := hide h0
 have H1 := hide h1
 have HB0 := hide hB
 clear h0 h1 hB
 go_wp2
 go_loopw [3, 5, 8] (fun v _ i wr => ∃ j : Nat, j ≤ 3 ∧ i = .int .i64 j ∧ Owns (w.heap.size + 2) wr v ((Mod.headIn a b d).take (4 * j)) ∧ wr.heap[w.heap.size]? = some (.cells #[.int .u32 o, .int .u64 c, .int .i64 a, .int .i64 b, .int .i64 d] 217 (0, 0)) ∧ wr.heap[w.heap.size + 1]? = some (.cells (bv zeros).toArray 207 (0, 0)) ∧ Below w.heap.size w wr) (fun _ _ i _ => 3 - (intOf i).toNat)
 case atStart => exact ⟨0, by omega, rfl, owns_nil _ _, unhide H0, unhide H1, unhide HB0⟩
 case round =>
  obtain ⟨j, hj, rfl, ho', h0', h1', hb'⟩ := hrel
  clear H0 H1 HB0 c2 c3 c4
  have hz' := lt_of_block h1'
  have HO := hide ho'
  have H0 := hide h0'
  have H1 := hide h1'
  have HB := hide hb'
  clear ho' h0' h1' hb'
  rcases (show j = 0 ∨ j = 1 ∨ j = 2 ∨ j = 3 by omega) with rfl | rfl | rfl | rfl
  ·have HL := hide (show (Mod.headIn a b d).take (4 * (0 + 1)) = (Mod.headIn a b d).take (4 * 0) ++ Wire.le4 a by simp [Mod.headIn, Wire.le4])
   go_upto_region 6 with (go_at_call 135; refine (appendNumber_any (w.heap.size + 2) (a : Int) u3 _ wr (by simp only [List.length_take, Mod.length_headIn]; omega) (by omega) (by omega) (unhide HO)).mono ?_; rintro r z ⟨v', rfl, hown, hg⟩; have hb2 : Below (w.heap.size + 2) wr z := below_grown_new hg (by omega) (fun g hg => ((unhide HO).lt g hg).1); have HO2 := hide hown; have HB2 := hide ((unhide HB).trans (hb2.mono (by omega))); have H02 := hide ((hb2.block _ (by omega)).trans (unhide H0)); have H12 := hide ((hb2.block _ (by omega)).trans (unhide H1)); clear hown hg hb2)
   go_wp2
   exact ⟨⟨0 + 1, by omega, by go_num, by rw [unhide HL]; exact unhide HO2, unhide H02, unhide H12, unhide HB2⟩, by simp [intOf]⟩
  ·have HL := hide (show (Mod.headIn a b d).take (4 * (1 + 1)) = (Mod.headIn a b d).take (4 * 1) ++ Wire.le4 b by simp [Mod.headIn, Wire.le4])
   go_upto_region 6 with (go_at_call 135; refine (appendNumber_any (w.heap.size + 2) (b : Int) u3 _ wr (by simp only [List.length_take, Mod.length_headIn]; omega) (by omega) (by omega) (unhide HO)).mono ?_; rintro r z ⟨v', rfl, hown, hg⟩; have hb2 : Below (w.heap.size + 2) wr z := below_grown_new hg (by omega) (fun g hg => ((unhide HO).lt g hg).1); have HO2 := hide hown; have HB2 := hide ((unhide HB).trans (hb2.mono (by omega))); have H02 := hide ((hb2.block _ (by omega)).trans (unhide H0)); have H12 := hide ((hb2.block _ (by omega)).trans (unhide H1)); clear hown hg hb2)
   go_wp2
   exact ⟨⟨1 + 1, by omega, by go_num, by rw [unhide HL]; exact unhide HO2, unhide H02, unhide H12, unhide HB2⟩, by simp [intOf]⟩
  ·have HL := hide (show (Mod.headIn a b d).take (4 * (2 + 1)) = (Mod.headIn a b d).take (4 * 2) ++ Wire.le4 d by simp [Mod.headIn, Wire.le4])
   go_upto_region 6 with (go_at_call 135; refine (appendNumber_any (w.heap.size + 2) (d : Int) u3 _ wr (by simp only [List.length_take, Mod.length_headIn]; omega) (by omega) (by omega) (unhide HO)).mono ?_; rintro r z ⟨v', rfl, hown, hg⟩; have hb2 : Below (w.heap.size + 2) wr z := below_grown_new hg (by omega) (fun g hg => ((unhide HO).lt g hg).1); have HO2 := hide hown; have HB2 := hide ((unhide HB).trans (hb2.mono (by omega))); have H02 := hide ((hb2.block _ (by omega)).trans (unhide H0)); have H12 := hide ((hb2.block _ (by omega)).trans (unhide H1)); clear hown hg hb2)
   go_wp2
   exact ⟨⟨2 + 1, by omega, by go_num, by rw [unhide HL]; exact unhide HO2, unhide H02, unhide H12, unhide HB2⟩, by simp [intOf]⟩
  ·rw [List.take_of_length_le (by rw [Mod.length_headIn]; omega)] at HO
   have c0 : wr.cell? ⟨w.heap.size, 0, none⟩ = some (.int .u32 o) := blk_cell (i := 0) (unhide H0)
   have c1 : wr.cell? ⟨w.heap.size, 1, none⟩ = some (.int .u64 c) := blk_cell (i := 1) (unhide H0)
   have hS := hide (seal_any o c (Mod.headIn a b d) u3 wr ho hc (by rw [Mod.length_headIn]; omega) (unhide HO).at)
   have hL3 : (Mod.sealB o c (Mod.headIn a b d)).length = 64 := Mod.length_sealB o c (by rw [Mod.length_headIn]; omega)
   obtain ⟨S, hSd⟩ : ∃ S, S = Mod.sealB o c (Mod.headIn a b d) := ⟨_, rfl⟩
   rw [← hSd] at hS hL3
   have HSD := hide hSd
   clear hSd
   go_wp2_with (first
    | (go_at_call 184; refine (unhide hS).mono ?_; rintro r z ⟨rfl, hb3⟩)
    | (refine wpList_store_sec rfl (.tmp 2) (.tmp 19) rfl (w.heap.size + 1) rfl S hL3 rfl 207 _ (by simp [bv_length, length_zeros]) ((hb3.block _ (by omega)).trans (unhide H1)) ?_; intro z4 hz4 hF4; go_simp))
   exact bodyPost_ret (results_sec Tryz.results198 _ _ (w.heap.size + 1) _ _ hL3 rfl hz4) rfl ⟨by rw [unhide HSD], ((unhide HB).trans (hb3.mono (unhide HB).size)).trans (hF4.below (by have := (unhide HB).size; have := hb3.size; omega) (fun k hk e => by omega))⟩
theorem oper_app_str {o : Oper} {a : Act} {K : Act → World → Prop} {Q : Exit → Act → World → Prop} {w : World} (s x : Operand)
  (ho : o.op = .call { callee := .builtin .append, args := #[s, x], argTypes := #[44, 9] }) (B : Nat) (v : Value) (l : List UInt8) (hown : Owns B w v l) (hs : a.eval s = v)
  (str : ByteArray) (hx : a.eval x = .string str) (hsz : l.length + str.size ≤ 140737488355328) (hB : B ≤ w.heap.size)
  (h : ∀ v' w', Owns B w' v' (l ++ str.data.toList) → w.grownBy w' v.ownBlock → K (a.put o.dst v') w') : o.wp Tryz.prog a w K Q := by
 obtain ⟨i0, hi, hz0, hz1, hz2⟩ := info_parts info5
 obtain ⟨v', w', hr, h1, h2, _⟩ := Lib.run_append_own_string (P := Tryz.prog) w B 44 9 o.type 5 i0 Tryz.underlying44 Tryz.underlying9 hi hz0 hz1 hz2 v l.length (bv l) hown str
  (by unfold maxLen; omega) hsz hB
 unfold Oper.wp execOp
 simp only [ho, resolve, invoke, builtin, Sem.run_bind, Sem.run_pure, Result.andThen_ok, List.map_toArray, List.map_cons, List.map_nil, hs, hx, hr]
 refine h v' w' ?_ h2
 unfold Owns
 rw [bv_append, List.length_append, ← bv_str]
 have : str.data.toList.length = str.size := by simp
 rw [this]
 exact h1
theorem ownsRow_keepB {w w' : World} {B size : Nat} {e : TypeId} {v : Value} {n : Nat} {xs : List Value} (h : w.ownsRow B e size v n xs) (hk : ∀ g, v.ownBlock = some g → w'.heap[g]? = w.heap[g]?) : w'.ownsRow B e size v n xs := by
 obtain ⟨h1, h2⟩ := h
 refine ⟨h1, ?_⟩
 rcases h2 with h2 | ⟨g, cap, cur, rfl, hb, hh, r⟩
 ·exact .inl h2
 ·exact .inr ⟨g, cap, cur, rfl, hb, by rw [hk g rfl]; exact hh, r⟩
theorem stableF_ownsW {B : Nat} {l : List UInt8} {E : Nat → Prop} (hE : ∀ k, E k → k < B) : StableF E (OwnsW B l) := fun _ _ _ h hF =>
 ⟨ownsRow_keepB h.1 (fun g hg => hF.rest g (h.2 g hg) (fun e => by have := (h.1.lt g hg).1; have := hE g e; omega)), fun g hg => Nat.lt_of_lt_of_le (h.2 g hg) hF.size⟩
theorem stable_blk (k : Nat) (o : Obj) : Stable (fun _ w => w.heap[k]? = some o) := fun _ _ _ h hb => (hb.block k (lt_of_block h)).trans h
theorem stableF_blk {k : Nat} {o : Obj} {E : Nat → Prop} (hE : ¬ E k) : StableF E (fun _ w => w.heap[k]? = some o) := fun _ _ _ h hF => hF.blk h hE
theorem owns_two {B : Nat} (x : World) (hB : B ≤ x.heap.size) (a b : Nat) (ha : a < 256) (hb : b < 256) : Owns B (x.alloc (.cells #[.int .u8 a, .int .u8 b] 5)) (.slice (some ⟨x.heap.size, 0, none⟩) 2 2) [UInt8.ofNat (a % 256), UInt8.ofNat (b % 256)] := by
 refine ⟨by simp [bv], .inr ⟨x.heap.size, 2, _, rfl, hB, heap_alloc_new x _, by simp, by unfold maxLen; omega, by simp, ?_⟩⟩
 have h1 : a % 256 = a := by omega
 have h2 : b % 256 = b := by omega
 simp [bv, h1, h2]
set_option maxRecDepth 100000 in
set_option maxHeartbeats 2000000 in
theorem sealRecord_any (o c st q : Nat) (b : ByteArray) (w : World) (ho : o < 4294967296) (hc : c < 18446744073709551616) (hs : st < 256) (hq : q < 4294967296) (hb : b.size ≤ 20) :
  Calls Tryz.prog 131 #[.agg #[.int .u32 o, .int .u64 c], .agg #[.int .i64 st, .int .i64 q, .string b]] w fun r w' => r = .returned (.agg (bv (Mod.sealB o c (Mod.recIn st q b.data.toList))).toArray) ∧ Below w.heap.size w w' := by
 have hws : IntKind.u8.wrap (st : Int) = (st : Int) := by rw [IntKind.wrap_u8]; omega
 have hwb : IntKind.u8.wrap (b.size : Int) = (b.size : Int) := by rw [IntKind.wrap_u8]; omega
 have hwq : IntKind.u32.wrap (q : Int) = (q : Int) := by rw [IntKind.wrap_u32]; omega
 go_enter Tryz.func131, Tryz.ntmps131
 go_upto_region 1 with fail
 refine wp_world (fun x => x.heap[w.heap.size]? = some (.cells #[.int .u32 o, .int .u64 c] 201 (0, 0)) ∧ x.heap[w.heap.size + 1]? = some (.cells #[.int .i64 st, .int .i64 q, .string b] 155 (0, 0)) ∧ x.heap[w.heap.size + 2]? = some (.cells (bv zeros).toArray 207 (0, 0)) ∧ Below w.heap.size w x) ?_ ?_
 ·exact ⟨(alloc3 _ _ _ _).1, (alloc3 _ _ _ _).2.1, cells_eq (alloc3 _ _ _ _).2.2.1 (by kernel_rfl), (alloc3 _ _ _ _).2.2.2⟩
 rintro x ⟨h0, h1, h2, hB⟩
 have hz := lt_of_block h2
 have c0 : x.cell? ⟨w.heap.size + 1, 0, none⟩ = some (.int .i64 st) := blk_cell (i := 0) h1
 have c1 : x.cell? ⟨w.heap.size + 1, 1, none⟩ = some (.int .i64 q) := blk_cell (i := 1) h1
 have c2 : x.cell? ⟨w.heap.size + 1, 2, none⟩ = some (.string b) := blk_cell (i := 2) h1
 have c1a : ∀ ob, (x.alloc ob).cell? ⟨w.heap.size + 1, 1, none⟩ = some (.int .i64 q) := fun ob => by
  exact (World.cell?_alloc_lt x _ ⟨w.heap.size + 1, 1, none⟩ (by show w.heap.size + 1 < _; omega)).trans c1
 have H0 := hide h0
 have H1 := hide h1
 have H2 := hide h2
 have HB := hide hB
 clear h0 h1 h2 hB
 have hA := fun (v : Value) (l : List UInt8) (n : Int) (y : World) (h1 : l.length ≤ 1000) (h2 : w.heap.size + 3 ≤ y.heap.size) (h3 : 0 ≤ n) (h4 : Owns (w.heap.size + 3) y v l) => hide (appendNumber_any (w.heap.size + 3) n v l y h1 h2 h3 h4)
 have hO2 := hide (owns_two x (B := w.heap.size + 3) (by omega) st b.size hs (by omega))
 go_upto_region 2 with (go_at_call 135; refine (unhide (hA _ _ (q : Int) _ (by simp) (by simp; omega) (by omega) (unhide hO2))).mono ?_; rintro r y ⟨v5, rfl, hown, hg⟩)
 have b1 : Below (w.heap.size + 3) x y := ((Below.refl _ _).alloc (by omega) _).trans (below_grown_new hg (by simp; omega) (fun g hg => ((unhide hO2).lt g hg).1))
 have H0 := hide ((b1.block _ (by omega)).trans (unhide H0))
 have h1y := (b1.block (w.heap.size + 1) (by omega)).trans (unhide H1)
 have H2 := hide ((b1.block (w.heap.size + 2) (by omega)).trans (unhide H2))
 have HB := hide ((unhide HB).trans (b1.mono (by omega)))
 have hzy := b1.size
 have HO := hide hown
 have c0 : y.cell? ⟨w.heap.size, 0, none⟩ = some (.int .u32 o) := blk_cell (i := 0) (unhide H0)
 have c0' : y.cell? ⟨w.heap.size, 1, none⟩ = some (.int .u64 c) := blk_cell (i := 1) (unhide H0)
 have c2 : y.cell? ⟨w.heap.size + 1, 2, none⟩ = some (.string b) := blk_cell (i := 2) h1y
 clear hown hg hO2 c1a c1 h1y b1
 have hrl : (Mod.recIn st q b.data.toList).length ≤ 40 := by rw [Mod.length_recIn]; simp; omega
 have hL3 : (Mod.sealB o c (Mod.recIn st q b.data.toList)).length = 64 := Mod.length_sealB o c hrl
 obtain ⟨R, hR⟩ : ∃ R, R = Mod.recIn st q b.data.toList := ⟨_, rfl⟩
 rw [← hR] at hrl hL3
 have hRe : [UInt8.ofNat (st % 256), UInt8.ofNat (b.size % 256)] ++ Wire.le4 q ++ b.data.toList = R := by rw [hR]; simp [Mod.recIn]
 have hS := fun v y hat => hide (seal_any o c R v y ho hc hrl hat)
 obtain ⟨S, hSd⟩ : ∃ S, S = Mod.sealB o c R := ⟨_, rfl⟩
 rw [← hSd] at hS hL3
 have hSR := hide (show S = Mod.sealB o c (Mod.recIn st q b.data.toList) by rw [hSd, hR])
 have hRe := hide hRe
 clear hSd hR
 have hvB := hide (fun g hg => ((unhide HO).lt g hg).1)
 have hnb : ∀ k, k < w.heap.size + 2 → ∀ p ∈ ([(4, fun k => v5.ownBlock = some k), (6, fun k => k = w.heap.size + 2)] : List (Nat × (Nat → Prop))), ¬ p.2 k := by
  intro k hk p hp
  simp at hp
  rcases hp with rfl | rfl
  ·intro e
   have := (unhide hvB) k e
   omega
  ·intro e
   have e : k = w.heap.size + 2 := e
   omega
 refine wp_region_foot (by kernel_rfl)
  [fun v _ => v = .agg #[.int .u32 o, .int .u64 c], fun v _ => v = v5, fun v _ => v = .pointer (some ⟨w.heap.size + 1, 2, none⟩), fun v _ => v = .string b, OwnsW (w.heap.size + 3) R, fun v _ => v = .agg (bv S).toArray, fun _ z => z.heap[w.heap.size + 2]? = some (.cells (bv S).toArray 207 (0, 0))]
  [[(2, none)], [(5, none)], [(3, none)], [(20, some 2)], [(19, some 1), (21, some 3)], [(18, some 0), (22, some 4)], [(4, none), (23, some 5)]] [some 18, some 19, some 20, some 21, some 22, some 23, none] [false, false, false, false, false, false, false, false, false, false, false, false, false, false, false, false, false, false, true, true, true, true, true, true]
  [(4, fun k => v5.ownBlock = some k), (6, fun k => k = w.heap.size + 2)]
  (by kernel_rfl) (by kernel_rfl) (by kernel_rfl) (by kernel_rfl) (by kernel_rfl) ?_ ?_ ?_ ?_
 ·repeat' (first | exact stable_eq _ | exact stable_ownsW _ _ | exact stable_blk _ _ | exact trivial | apply And.intro)
 ·repeat' (first | exact trivial | exact .inl rfl | exact .inr (.inr (stableF_eq _ _)) | exact .inr (.inr (stableF_ownsW (fun k hk => by omega))) | exact .inr (.inr (stableF_blk (fun e => by have := (unhide hvB) _ e; omega))) | apply And.intro)
 ·refine ⟨?_, ?_, ?_, ?_, ?_, ?_, ?_, trivial⟩
  all_goals
   intro a z hb hf
   have z0 := hb.blk (unhide H0) (footBut_no (hnb _ (by omega)))
   have d0 : z.cell? ⟨w.heap.size, 0, none⟩ = some (.int .u32 o) := blk_cell (i := 0) z0
   have d1 : z.cell? ⟨w.heap.size, 1, none⟩ = some (.int .u64 c) := blk_cell (i := 1) z0
   have d2 : z.cell? ⟨w.heap.size + 1, 2, none⟩ = some (.string b) := by
    have := hb.rest (w.heap.size + 1) (by omega) (footBut_no (hnb _ (by omega)))
    unfold World.cell? at c2 ⊢
    simp only at c2 ⊢
    rw [this]
    exact c2
   have hzz := hb.size
   have HBZ := hide hb
   clear hb z0
   simp only [PlanFacts, List.getD_cons_zero, List.getD_cons_succ, Array.getD_eq_getD_getElem?] at hf
   try simp at hf
  ·go_simp
   exact ⟨_, rfl, Far.refl _ _, rfl⟩
  ·go_simp
   exact ⟨_, rfl, Far.refl _ _, rfl⟩
  ·go_simp
   exact ⟨_, rfl, Far.refl _ _, rfl⟩
  ·go_simp
   exact ⟨_, rfl, Far.refl _ _, rfl⟩
  ·have hoz : Owns (w.heap.size + 3) z v5 _ := ownsRow_keepB (unhide HO) (fun g hg => (unhide HBZ).rest g ((unhide HO).lt g hg).2 (by
    rintro ⟨p, hp, h1, _, h3⟩
    simp at hp
    rcases hp with rfl | rfl
    ·exact h1 rfl
    ·have := (unhide hvB) g hg
     have h3 : g = w.heap.size + 2 := h3
     omega))
   rw [if_pos (by rfl)]
   refine oper_app_str (.tmp 19) (.tmp 21) rfl (w.heap.size + 3) v5 _ hoz (by simp [Act.eval, hf]) b (by simp [Act.eval, hf]) (by simp [Wire.length_le4]; omega) (by omega) ?_
   intro v' w' h1 h2
   rw [show _ = R from unhide hRe] at h1
   exact ⟨v', rfl, footOf_of (.head _) (far_grown h2), h1, fun g hg => (h1.lt g hg).2⟩
  ·go_simp
   refine (unhide (hS _ z hf.2.1.at)).mono ?_
   rintro r w1 ⟨rfl, hb1⟩
   exact ⟨_, rfl, far_below hb1, rfl⟩
  ·have z2 := (unhide HBZ).blk (unhide H2) (by
    rintro ⟨p, hp, h1, _, h3⟩
    simp at hp
    rcases hp with rfl | rfl
    ·have := (unhide hvB) _ h3
     omega
    ·exact h1 rfl)
   rw [if_pos (by rfl)]
   refine oper_store_sec (.tmp 4) (.tmp 23) rfl (w.heap.size + 2) (by simp [Act.eval, hf]) S hL3 (by simp [Act.eval, hf]) 207 _ (by simp [bv_length, length_zeros]) z2 ?_
   intro w' h1 h2
   exact ⟨_, rfl, footOf_of (.tail _ (.head _)) h2, h1⟩
 ·intro f z hF hwd
  have hsec := hwd.2.2.2.2.2.2.1
  have HBZ := hide ((unhide HB).trans (hF.below (by omega) (fun k hk h => by
   obtain ⟨p, hp, h3⟩ := h
   exact hnb k (by omega) p hp h3)))
  clear hwd hF
  simp only [mergeT]
  generalize f 18 = x18
  generalize f 19 = x19
  generalize f 20 = x20
  generalize f 21 = x21
  generalize f 22 = x22
  generalize f 23 = x23
  go_simp
  go_wp2
  exact bodyPost_ret (results_sec Tryz.results131 _ _ (w.heap.size + 2) _ _ hL3 rfl hsec) rfl ⟨by rw [unhide hSR], unhide HBZ⟩
end Go.Proofs.YtamafdcnbcoegaaGreat
namespace Go.Proofs.YtamafdcnbcoegaaGreat
open Go.RowKit
theorem oper_copy_cur {o : Oper} {a : Act} {w : World} {K : Act → World → Prop} {Q : Exit → Act → World → Prop} (d s : Operand)
  (ho : o.op = .call { callee := .builtin .copy, args := #[d, s], argTypes := #[44, 44] }) (g off n cap m : Nat) (cur : Array Value) (cs : List Value) (t : TypeId) (b o' cap' : Nat)
  (hg : w.heap[g]? = some (.cells cur t (0, 0))) (hd : a.eval d = .slice (some ⟨g, off, none⟩) n cap) (hs : a.eval s = .slice (some ⟨b, o', none⟩) m cap') (hm : cs.length = m) (hsrc : ∀ j v, cs[j]? = some v → w.cell? ⟨b, o' + j, none⟩ = some v) (hl : m ≤ n) (hfit : off + m ≤ cur.size) (h1 : ∀ v ∈ cs, v.oneCell' = true)
  (h : ∀ w', w'.heap[g]? = some (.cells (cur.toList.take off ++ (cs ++ cur.toList.drop (off + m))).toArray t (0, 0)) → Far (fun k => k = g) w w' → K (a.put o.dst (.int .i64 m)) w') : o.wp Tryz.prog a w K Q := by
 subst hm
 have hrun := run_copy_row (P := Tryz.prog) w 44 44 o.type 5 g off n cap ⟨b, o', none⟩ cs.length cap' cur t cs Tryz.underlying44 size5 hg (Nat.min_eq_left hl).symm (by
  intro j u hj
  rw [add_mk]
  exact hsrc j u hj) hfit h1
 unfold Oper.wp
 simp [execOp, ho, resolve, invoke, builtin, hd, hs, hrun, Result.andThen]
 exact h _ (setRow_heap w g cur _ t (0, 0) hg) ⟨rfl, rfl, rfl, by simp, fun k _ hk => setRow_other w g k _ hk⟩
set_option maxRecDepth 100000 in
set_option maxHeartbeats 1000000 in
theorem apply_any (w : World) (k : Nat) (S L : List UInt8) (lv : Value) (hS : S.length = 64) (hk : 64 * k + 64 ≤ L.length) (hL : L.length ≤ 10000) (hrow : w.ownsRow 0 5 1 lv L.length (bv L)) :
  Calls Tryz.prog 193 #[.agg (.int .i64 k :: bv S).toArray, lv] w fun r w' => r = .returned (.tuple #[]) ∧ w'.ownsRow 0 5 1 lv (Mod.setSec L k S).length (bv (Mod.setSec L k S)) ∧ Far (fun j => lv.ownBlock = some j) w w' := by
 have hlen := Mod.length_setSec (l := L) (k := k) hS hk
 obtain ⟨h1, h2⟩ := hrow
 rcases h2 with ⟨_, h2⟩ | ⟨g, cap, cur, rfl, hB, hh, hn, hc, hs, ht⟩
 ·omega
 have hgl := lt_of_block hh
 obtain ⟨n, hnl⟩ : ∃ n, n = L.length := ⟨_, rfl⟩
 rw [← hnl] at hk hL h1 hn ht hlen ⊢
 have i0 : (0 : Int) ≤ (k : Int) * 64 := by omega
 have i1 : (k : Int) * 64 ≤ (n : Int) := by omega
 have it : ((k : Int) * 64).toNat = k * 64 := by omega
 have i2 : (n : Int) ≤ (cap : Int) := by omega
 have hw : IntKind.i64.wrap ((k : Int) * 64) = (k : Int) * 64 := by rw [IntKind.wrap_i64]; omega
 have hne : ¬ cap = k * 64 := by omega
 have hne2 : ¬ (cap : Int) = (k : Int) * 64 := by omega
 have HNL := hide hnl
 have HLEN := hide hlen
 have HT := hide ht
 have HH := hide hh
 clear hnl hlen ht hh
 go_enter Tryz.func193, Tryz.ntmps193
 go_upto_region 1 with fail
 refine wp_world (fun x => x.heap[w.heap.size]? = some (.cells (.int .i64 k :: bv S).toArray 261 (0, 0)) ∧ Below w.heap.size w x) ⟨heap_alloc_new w _, (Below.refl _ _).alloc (Nat.le_refl _) _⟩ ?_
 rintro x ⟨h0, hB0⟩
 have c0 : x.cell? ⟨w.heap.size, 0, none⟩ = some (.int .i64 k) := by rw [blk_cell h0]; simp
 have hz := lt_of_block h0
 have H0 := hide h0
 have HB0 := hide hB0
 clear h0 hB0
 refine wp_region_last (by kernel_rfl)
  [fun v _ => v = .slice (some ⟨g, 0, none⟩) n cap, fun v _ => v = .pointer (some ⟨w.heap.size, 0, none⟩), fun v _ => v = .int .i64 k, fun v _ => v = .int .i64 ((k : Int) * 64), fun v _ => v = .slice (some ⟨g, k * 64, none⟩) (n - k * 64) (cap - k * 64), fun v _ => v = .pointer (some ⟨w.heap.size, 1, none⟩), fun v _ => v = .slice (some ⟨w.heap.size, 1, none⟩) 64 64, fun _ _ => True]
  [[(1, none)], [(2, none)], [(5, some 1)], [(6, some 2)], [(4, some 0), (7, some 3)], [(2, none)], [(9, some 5)], [(8, some 4), (10, some 6)]] [some 4, some 5, some 6, some 7, some 8, some 9, some 10, some 11] [false, false, false, false, true, true, true, true, true, true, true, true]
  7 _ rfl rfl (by kernel_rfl) (by kernel_rfl) (by kernel_rfl) (by kernel_rfl) (by kernel_rfl) (by kernel_rfl) ?_ ?_ ?_
 ·repeat' (first | exact stable_eq _ | exact stable_true | exact trivial | apply And.intro)
 ·refine ⟨?_, ?_, ?_, ?_, ?_, ?_, ?_, trivial⟩
  all_goals
   intro a y hb hf
   have y0 := (hb.cell (p := ⟨w.heap.size, 0, none⟩) (by show w.heap.size < _; omega)).trans c0
   have hzy := hb.size
   clear hb
   simp only [PlanFacts, List.getD_cons_zero, List.getD_cons_succ, Array.getD_eq_getD_getElem?] at hf
   try simp at hf
   try go_simp
   try exact Below.refl _ _
 ·intro f y hb hwd
  simp only [AllWords, List.take] at hwd
  have hf8 := hwd.2.2.2.2.1
  have hf10 := hwd.2.2.2.2.2.2.1
  simp only [mergeT, hf8, hf10]
  have g0 := (hb.block _ (by show w.heap.size < _; omega)).trans (unhide H0)
  have gl := (hb.block g (by have := (unhide HB0).size; omega)).trans (((unhide HB0).block g hgl).trans (unhide HH))
  have HBY := hide ((unhide HB0).trans (hb.mono (by have := (unhide HB0).size; omega)))
  have hzy := hb.size
  refine oper_copy_cur (.tmp 8) (.tmp 10) rfl g (k * 64) (n - k * 64) (cap - k * 64) 64 cur (bv S) 5 w.heap.size 1 64 gl rfl rfl (by rw [bv_length, hS]) ?_ (by omega) (by omega) (bv_oneCell S) ?_
  ·intro j v hj
   rw [blk_cell g0, List.getElem?_toArray, Nat.add_comm 1 j, List.getElem?_cons_succ]
   exact hj
  ·intro z hz hF
   have hcells : ((cur.toList.take (k * 64) ++ (bv S ++ cur.toList.drop (k * 64 + 64))).toArray).toList.take (n * 1) = bv (Mod.setSec L k S) := by
    have hA : (cur.toList.take (k * 64)).length = k * 64 := by rw [List.length_take, Array.length_toList]; omega
    have hb2 : bv (Mod.setSec L k S) = (bv L).take (64 * k) ++ (bv S ++ (bv L).drop (64 * k + 64)) := by simp [Mod.setSec, bv, List.map_take, List.map_drop]
    rw [List.toList_toArray, hb2, ← unhide HT, Nat.mul_one, List.take_take, List.drop_take, List.take_append, List.take_append, hA, bv_length, hS, List.take_of_length_le (l := cur.toList.take (k * 64)) (by rw [hA]; omega), List.take_of_length_le (l := bv S) (by rw [bv_length, hS]; omega)]
    rw [show min (64 * k) n = k * 64 by omega, show 64 * k + 64 = k * 64 + 64 by omega, show n - k * 64 - 64 = n - (k * 64 + 64) by omega]
   have HZ := hide hz
   have HF := hide hF
   clear hb hwd hf8 hf10 g0 gl hz hF c0
   go_simp
   go_wp2
   refine bodyPost_end (results_none rfl _ _ _) rfl ?_
   refine ⟨rfl, ⟨by rw [bv_length]; omega, .inr ⟨g, cap, _, by rw [unhide HLEN], Nat.zero_le _, unhide HZ, by rw [unhide HLEN]; omega, hc, by simp [bv_length]; omega, by rw [unhide HLEN]; exact hcells⟩⟩, ?_⟩
   exact (far_below (E := fun j => (Value.slice (some ⟨g, 0, none⟩) n cap).ownBlock = some j) (unhide HBY)).trans (unhide HF) (fun j _ e => by rw [e]; rfl)
structure DkAt (w : World) (p : Nat) (d : Mod.Dk) (lv uv : Value) : Prop where
 blk : w.heap[p]? = some (.cells #[lv, uv, .int .i64 d.armed, .bool d.dead] 252 (0, 0))
 row : w.ownsRow 0 5 1 lv d.bytes.length (bv d.bytes)
 un : RowO w 261 65 uv 0 []
 len : 128 ≤ d.bytes.length ∧ d.bytes.length ≤ 10000
 arm : d.armed ≤ 9223372036854775807
def DkU (p : Nat) (lv uv : Value) (k : Nat) : Prop := k = p ∨ lv.ownBlock = some k ∨ uv.ownBlock = some k
theorem DkAt.far {E : Nat → Prop} {w x : World} {p : Nat} {d : Mod.Dk} {lv uv : Value} (h : DkAt w p d lv uv) (hf : Far E w x) (hE : ∀ k, DkU p lv uv k → ¬ E k) : DkAt x p d lv uv :=
 ⟨hf.blk h.blk (hE p (.inl rfl)), ownsRow_keepB h.row (fun g hg => hf.rest g (World.ownsRow.lt h.row g hg).2 (hE g (.inr (.inl hg)))), h.un.far hf (fun g hg => hE g (.inr (.inr hg))), h.len, h.arm⟩
theorem DkAt.lt {w : World} {p : Nat} {d : Mod.Dk} {lv uv : Value} (h : DkAt w p d lv uv) : ∀ k, DkU p lv uv k → k < w.heap.size := by
 rintro k (rfl | hk | hk)
 ·exact lt_of_block h.blk
 ·exact (World.ownsRow.lt h.row k hk).2
 ·exact h.un.lt k hk
theorem diskWrite_dead (w : World) (p : Nat) (lv uv : Value) (n : Int) (k : Nat) (S : List UInt8) (hb : w.heap[p]? = some (.cells #[lv, uv, .int .i64 n, .bool true] 252 (0, 0))) :
  Calls Tryz.prog 182 #[.pointer (some ⟨p, 0, none⟩), .int .i64 k, .agg (bv S).toArray] w fun r w' => r = .returned (.int .i64 3) ∧ Below w.heap.size w w' := by
 have hpl := lt_of_block hb
 have c3 : ∀ ob, (w.alloc ob).cell? ⟨p, 3, none⟩ = some (.bool true) := fun ob => (World.cell?_alloc_lt w _ ⟨p, 3, none⟩ hpl).trans (blk_cell (i := 3) hb)
 clear hb
 go_enter Tryz.func182, Tryz.ntmps182
 go_wp2
 go_ret
 exact ⟨rfl, (Below.refl _ _).alloc (Nat.le_refl _) _⟩
theorem diskWrite_fail (w : World) (p : Nat) (lv uv : Value) (k : Nat) (S : List UInt8) (hb : w.heap[p]? = some (.cells #[lv, uv, .int .i64 1, .bool false] 252 (0, 0))) :
  Calls Tryz.prog 182 #[.pointer (some ⟨p, 0, none⟩), .int .i64 k, .agg (bv S).toArray] w fun r w' => r = .returned (.int .i64 4) ∧ w'.heap[p]? = some (.cells #[lv, uv, .int .i64 1, .bool true] 252 (0, 0)) ∧ Far (fun j => j = p) w w' := by
 have hpl := lt_of_block hb
 have hb2 : ∀ ob, (w.alloc ob).heap[p]? = some (.cells #[lv, uv, .int .i64 1, .bool false] 252 (0, 0)) := fun ob => (hao _ _ hpl).trans hb
 have c3 : ∀ ob, (w.alloc ob).cell? ⟨p, 3, none⟩ = some (.bool false) := fun ob => blk_cell (i := 3) (hb2 ob)
 have c2 : ∀ ob, (w.alloc ob).cell? ⟨p, 2, none⟩ = some (.int .i64 1) := fun ob => blk_cell (i := 2) (hb2 ob)
 have f3 : ∀ ob, (w.alloc ob).frozen? ⟨p, 3, none⟩ = false := fun ob => blk_free (i := 3) (hb2 ob)
 clear hb2
 replace hb := hide hb
 go_enter Tryz.func182, Tryz.ntmps182
 go_wp2
 go_ret
 refine ⟨rfl, ?_, ?_⟩
 ·rw [hao _ _ (by rw [World.size_setCell]; exact hpl)]
  have := blk_set (j := 3) (v := .bool true) (unhide hb)
  simpa using this
 ·exact (far_set w p 3 _).trans (far_below ((Below.refl _ _).alloc (Nat.le_refl _) _)) (fun _ _ h => h)
end Go.Proofs.YtamafdcnbcoegaaGreat
namespace Go.Proofs.YtamafdcnbcoegaaGreat
namespace Mod
structure Flow where
 base : Nat
 kept : List (ByteArray × Nat)
 held : List Nat
structure Ag where
 epoch : Nat
 ticks : Nat
 welcome : Bool
 fenced : Bool
 fl : Nat → Flow
def upd (f : Nat → Flow) (s : Nat) (x : Flow) : Nat → Flow := fun t => if t = s then x else f t
theorem upd_same (f : Nat → Flow) (s : Nat) (x : Flow) : upd f s x s = x := by simp [upd]
def Ag.room (a : Ag) : Nat := (a.fl 0).kept.length + (a.fl 1).kept.length + (a.fl 2).kept.length
def Ag.refuses (a : Ag) (stream : Int) (size : Nat) : Int :=
 if stream < 0 ∨ 3 ≤ stream then 5 else if 20 < size then 6 else if 24 ≤ a.room then 7 else 0
def Ag.submit (a : Ag) (s : Nat) (body : ByteArray) : Ag := { a with fl := upd a.fl s { a.fl s with kept := (a.fl s).kept ++ [(body, 0)] } }
def Ag.spool (a : Ag) (s : Nat) : List ByteArray := (a.fl s).kept.map (·.1)
def due (f : Flow) (ticks i sent : Nat) : Bool := !(f.held.contains (f.base + 1 + i)) && (sent == 0 || decide (sent + 4 ≤ ticks))
def sendTo (epoch s : Nat) (f : Flow) (ticks : Nat) : Nat → List (ByteArray × Nat) × List (List UInt8)
 | 0 => (f.kept, [])
 | i + 1 =>
  let r := sendTo epoch s f ticks i
  match f.kept[i]? with
  | none => r
  | some x => if due f ticks i x.2 then (r.1.set i (x.1, ticks), r.2 ++ [Wire.bytes 3 epoch s (f.base + 1 + i : Nat) x.1.data.toList]) else r
def Ag.gone (a : Ag) (s : Nat) (upTo : Int) : Nat := min (upTo - (a.fl s).base).toNat (a.fl s).kept.length
def Flow.drop (f : Flow) (n : Nat) : Flow := { f with base := f.base + n, kept := f.kept.drop n }
def dropTo (f : Nat → Flow) (n : Nat → Nat) (s : Nat) : Nat → Flow := fun t => if t < s then (f t).drop (n t) else f t
theorem dropTo_zero (f : Nat → Flow) (n : Nat → Nat) : dropTo f n 0 = f := by funext t; simp [dropTo]
theorem dropTo_self (f : Nat → Flow) (n : Nat → Nat) (s : Nat) : dropTo f n s s = f s := by simp [dropTo]
theorem dropTo_succ (f : Nat → Flow) (n : Nat → Nat) (s : Nat) : dropTo f n (s + 1) = upd (dropTo f n s) s ((f s).drop (n s)) := by
 funext t
 unfold dropTo upd
 by_cases h : t = s
 ·subst h; simp
 ·by_cases h2 : t < s
  ·simp [h, h2, show t < s + 1 by omega]
  ·simp [h, h2, show ¬ t < s + 1 by omega]
def Ag.drop (a : Ag) (n : Nat → Nat) : Ag := { a with fl := dropTo a.fl n 3 }
def Ag.says (a : Ag) (kind epoch stream seq : Int) (body : ByteArray) (s : Nat) : Nat :=
 if epoch ≠ a.epoch then 0 else if kind = 2 then a.gone s (Wire.numAt body.data.toList (4 * s)) else if kind = 4 ∧ stream = s ∧ a.welcome = true then a.gone s seq else 0
def fresh (f : Nat → Flow) (s : Nat) : Nat → Flow := fun t => if t < s then { f t with kept := (f t).kept.map fun r => (r.1, 0), held := [] } else f t
def bitsOf (seq : Nat) (c : Nat) : Nat → List Nat
 | 0 => []
 | i + 1 => bitsOf seq c i ++ (if c / 2 ^ i % 2 = 1 then [seq + 2 + i] else [])
def Ag.ackSeq (a : Ag) (s : Nat) (q : Int) : Nat := min q.toNat ((a.fl s).base + (a.fl s).kept.length)
def Ag.deliver (a : Ag) (k e st q : Int) (b : ByteArray) : Ag :=
 if k = 5 ∧ (a.epoch : Int) < e then { a with fenced := true }
 else if e ≠ a.epoch then a
 else if k = 5 then { a with welcome := false }
 else if k = 2 then { a.drop (a.says k e st q b) with welcome := true, fl := fresh (a.drop (a.says k e st q b)).fl 3 }
 else if k = 4 then
  if a.welcome = false ∨ a.ackSeq st.toNat q < (a.fl st.toNat).base then a
  else { a.drop (a.says k e st q b) with fl := upd (a.drop (a.says k e st q b)).fl st.toNat { (a.drop (a.says k e st q b)).fl st.toNat with held := bitsOf (a.ackSeq st.toNat q) (b.data.toList.getD 0 0).toNat 3 } }
 else a
def sendFl (epoch ticks : Nat) (f : Nat → Flow) (s : Nat) : Nat → Flow := fun t => if t < s then { f t with kept := (sendTo epoch t (f t) ticks 4).1 } else f t
def sendOut (epoch ticks : Nat) (f : Nat → Flow) : Nat → List (List UInt8)
 | 0 => []
 | s + 1 => sendOut epoch ticks f s ++ (sendTo epoch s (f s) ticks 4).2
def Ag.tick (a : Ag) : Ag × List (List UInt8) :=
 if a.fenced = true then ({ a with ticks := a.ticks + 1 }, [])
 else if a.welcome = false then ({ a with ticks := a.ticks + 1 }, [Wire.bytes 1 a.epoch 0 0 []])
 else ({ a with ticks := a.ticks + 1, fl := sendFl a.epoch (a.ticks + 1) a.fl 3 }, sendOut a.epoch (a.ticks + 1) a.fl 3)
end Mod
end Go.Proofs.YtamafdcnbcoegaaGreat
namespace Go.Proofs.YtamafdcnbcoegaaGreat
open Go.RowKit
def numCells (l : List Nat) : List Value := l.map fun n : Nat => .int .i64 (n : Int)
structure RRest where
 dead : Bool
 g0 : Int
 g1 : Int
 g2 : Int
 st : Int
 ex : Value
end Go.Proofs.YtamafdcnbcoegaaGreat
namespace Go.Proofs.YtamafdcnbcoegaaGreat
open Go.RowKit
theorem info_parts2 {P : Program} {e : TypeId} {z : Value} {size bytes : Nat} (h : (P.info? e).map (fun i => (i.zero, i.size, i.bytes)) = some (some z, size, bytes)) : ∃ i, P.info? e = some i ∧ i.zero = some z ∧ i.size = size ∧ i.bytes = bytes := by
 cases hi : P.info? e with
 | none => rw [hi] at h; cases h
 | some i =>
  rw [hi] at h
  injection h with h
  injection h with h1 h2
  injection h2 with h2 h3
  exact ⟨i, rfl, h1, h2, h3⟩
theorem wpList_app_o {ops : Array Oper} {rest : List Oper} {o : Oper} {a : Act} {Q : Exit → Act → World → Prop} {w : World} (hgd : o.guard = none) (s x : Operand) (t : TypeId) (ho : o.op = .call { callee := .builtin .append, args := #[s, x], argTypes := #[t, t] })
  (e : TypeId) (z : Value) (size bytes : Nat) (ht : Tryz.prog.underlying t = some (.slice e)) (hinfo : (Tryz.prog.info? e).map (fun i => (i.zero, i.size, i.bytes)) = some (some z, size, bytes)) (hzs : z.cells.size = size)
  (v : Value) (n : Nat) (xs : List Value) (hown : RowO w e size v n xs) (hs : a.eval s = v) (ad : Addr) (m c : Nat) (news : List Value) (hx : a.eval x = .slice (some ad) m c) (hl : news.length = m * size) (hnews : ∀ j u, news[j]? = some u → w.cell? (ad.add j) = some u)
  (h1 : ∀ u ∈ news, u.oneCell' = true) (hm : 0 < m) (hb : (n + m) * bytes ≤ 140737488355328) (h63 : n + m ≤ 140737488355328)
  (h : ∀ v' w', RowO w' e size v' (n + m) (xs ++ news) → App w w' v v' → wpList Tryz.prog ops Q rest (a.put o.dst v') w') : wpList Tryz.prog ops Q (o :: rest) a w := by
 obtain ⟨i0, hi, hz0, hz1, hz2⟩ := info_parts2 hinfo
 obtain ⟨v', w', hr, h2, h3⟩ := run_append_o (P := Tryz.prog) w t o.type e i0 z size bytes ht hi hz0 hz1 hz2 hzs v n xs hown ad m c news hl hnews h1 hm hb h63
 refine wpList_plain hgd fun _ hK => ?_
 unfold Oper.wp execOp
 simp only [ho, resolve, invoke, builtin, Sem.run_bind, Sem.run_pure, Result.andThen_ok, List.map_toArray, List.map_cons, List.map_nil, hs, hx, hr]
 exact hK _ _ (h v' w' h2 h3)
end Go.Proofs.YtamafdcnbcoegaaGreat
namespace Go.Proofs.YtamafdcnbcoegaaGreat
open Go.RowKit
def strs (l : List ByteArray) : List Value := l.map .string
theorem strs_length (l : List ByteArray) : (strs l).length = l.length := by simp [strs]
theorem infoStr : (Tryz.prog.info? 9).map (fun i => (i.zero, i.size, i.bytes)) = some (some (.string ⟨#[]⟩), 1, 16) := by kernel_rfl
end Go.Proofs.YtamafdcnbcoegaaGreat
namespace Go.Proofs.YtamafdcnbcoegaaGreat
namespace Mod
structure Sk where
 epoch : Nat
 logs : Nat → List ByteArray
 held : List (Nat × Nat × ByteArray)
def Sk.count (s : Sk) : Nat := (s.logs 0).length + (s.logs 1).length + (s.logs 2).length
def ixFrom (st q : Nat) : Nat → List (Nat × Nat × ByteArray) → Option Nat
 | _, [] => none
 | i, h :: l => if h.1 = st ∧ h.2.1 = q then some i else ixFrom st q (i + 1) l
def Sk.ix (s : Sk) (st q : Nat) : Option Nat := ixFrom st q 0 s.held
def ixInt : Option Nat → Int
 | none => -1
 | some i => i
def Sk.commitFrom (a : Sk) (st q n : Nat) : Nat → List ByteArray → List ByteArray
 | 0, out => out
 | f + 1, out => if n + out.length < 120 then
   match a.ix st (q + out.length) with
   | none => out
   | some i => Sk.commitFrom a st q n f (out ++ [(a.held.getD i (0, 0, ⟨#[]⟩)).2.2])
  else out
def Sk.commits (a : Sk) (k e st q : Int) (b : ByteArray) : List ByteArray :=
 if k ≠ 3 ∨ e ≠ a.epoch ∨ q ≠ (a.logs st.toNat).length + 1 then [] else if 120 ≤ a.count then [] else a.commitFrom st.toNat q.toNat a.count 120 [b]
theorem Sk.commitFrom_stop {a : Sk} {st q n f : Nat} {out : List ByteArray} (h : ¬ n + out.length < 120) : a.commitFrom st q n f out = out := by
 cases f with
 | zero => rfl
 | succ f => rw [Sk.commitFrom, if_neg h]
theorem Sk.commitFrom_none {a : Sk} {st q n f : Nat} {out : List ByteArray} (h : n + out.length < 120) (hi : a.ix st (q + out.length) = none) : a.commitFrom st q n f out = out := by
 cases f with
 | zero => rfl
 | succ f => rw [Sk.commitFrom, if_pos h, hi]
theorem Sk.commitFrom_some {a : Sk} {st q n f i : Nat} {out : List ByteArray} (h : n + out.length < 120) (hi : a.ix st (q + out.length) = some i) : a.commitFrom st q n (f + 1) out = a.commitFrom st q n f (out ++ [(a.held.getD i (0, 0, ⟨#[]⟩)).2.2]) := by
 rw [Sk.commitFrom, if_pos h, hi]
def keeps (st up : Nat) (h : Nat × Nat × ByteArray) : Bool := !(decide (h.1 = st)) || decide (up < h.2.1)
def Sk.forget (a : Sk) (st up : Nat) : Sk := { a with held := a.held.filter (keeps st up) }
end Mod
end Go.Proofs.YtamafdcnbcoegaaGreat
namespace Go.Proofs.YtamafdcnbcoegaaGreat
open Go.RowKit
theorem own_shapeB {B : Nat} {w : World} {e : TypeId} {v : Value} {n : Nat} {xs : List Value} (h : w.ownsRow B e 1 v n xs) (hn : 0 < n) : ∃ g cap, v = .slice (some ⟨g, 0, none⟩) n cap := by
 obtain ⟨_, h2⟩ := h
 rcases h2 with ⟨_, h2⟩ | ⟨g, cap, cur, e, _⟩
 ·omega
 ·exact ⟨g, cap, e⟩
theorem own0 {B : Nat} {w : World} {e : TypeId} {v : Value} {n : Nat} {xs : List Value} (h : w.ownsRow B e 1 v n xs) : w.ownsRow 0 e 1 v n xs := by
 obtain ⟨h1, h2⟩ := h
 refine ⟨h1, ?_⟩
 rcases h2 with h2 | ⟨g, cap, cur, e, hB, r⟩
 ·exact .inl h2
 ·exact .inr ⟨g, cap, cur, e, Nat.zero_le _, r⟩
end Go.Proofs.YtamafdcnbcoegaaGreat
namespace Go.Proofs.YtamafdcnbcoegaaGreat
open Go.RowKit
theorem own_rowO {B : Nat} {w : World} {e : TypeId} {size n : Nat} {v : Value} {xs : List Value} (h : w.ownsRow B e size v n xs) : RowO w e size v n xs := by
 obtain ⟨h1, h2⟩ := h
 refine ⟨h1, ?_⟩
 rcases h2 with h2 | ⟨g, cap, cur, rfl, _, hh, hn, hc, hs, ht⟩
 ·exact .inl h2
 ·exact .inr ⟨g, 0, cap, cur, rfl, hh, hn, hc, by omega, by simpa using ht⟩
end Go.Proofs.YtamafdcnbcoegaaGreat
namespace Go.Proofs.YtamafdcnbcoegaaGreat
open Go.RowKit
theorem commitFrom_ne {a : Mod.Sk} {st q n : Nat} : ∀ {f : Nat} {out : List ByteArray}, out ≠ [] → a.commitFrom st q n f out ≠ []
 | 0, _, h => h
 | f + 1, out, h => by
  rw [Mod.Sk.commitFrom]
  split
  ·split
   ·exact h
   ·exact commitFrom_ne (by simp)
  ·exact h
theorem commitFrom_len {a : Mod.Sk} {st q n : Nat} : ∀ {f : Nat} {out : List ByteArray}, n + out.length ≤ 120 → n + (a.commitFrom st q n f out).length ≤ 120
 | 0, _, h => h
 | f + 1, out, h => by
  rw [Mod.Sk.commitFrom]
  split
  ·split
   ·exact h
   ·exact commitFrom_len (by simp; omega)
  ·exact h
theorem commits_room {a : Mod.Sk} (k e : Int) (s qn : Nat) (b : ByteArray) (h : a.count ≤ 120) : a.count + (a.commits k e s qn b).length ≤ 120 := by
 rw [Mod.Sk.commits]
 split
 ·simpa using h
 ·split
  ·simpa using h
  ·exact commitFrom_len (by simp; omega)
end Go.Proofs.YtamafdcnbcoegaaGreat
namespace Go.Proofs.YtamafdcnbcoegaaGreat
open Go.RowKit
theorem step_app_o {ops : Array Oper} {o : Oper} {a : Act} {K : Act → World → Prop} {Q : Exit → Act → World → Prop} {E : Prop} {w : World} (hgd : o.guard = none) (s x : Operand) (t : TypeId) (ho : o.op = .call { callee := .builtin .append, args := #[s, x], argTypes := #[t, t] })
  (e : TypeId) (z : Value) (size bytes : Nat) (ht : Tryz.prog.underlying t = some (.slice e)) (hinfo : (Tryz.prog.info? e).map (fun i => (i.zero, i.size, i.bytes)) = some (some z, size, bytes)) (hzs : z.cells.size = size)
  (v : Value) (n : Nat) (xs : List Value) (hown : RowO w e size v n xs) (hs : a.eval s = v) (ad : Addr) (m c : Nat) (news : List Value) (hx : a.eval x = .slice (some ad) m c) (hl : news.length = m * size) (hnews : ∀ j u, news[j]? = some u → w.cell? (ad.add j) = some u)
  (h1 : ∀ u ∈ news, u.oneCell' = true) (hm : 0 < m) (hb : (n + m) * bytes ≤ 140737488355328) (h63 : n + m ≤ 140737488355328)
  (h : ∀ v' w', RowO w' e size v' (n + m) (xs ++ news) → App w w' v v' → K (a.put o.dst v') w') : if Region.wanted o (yielded ops a.tmps) = true then o.wp Tryz.prog a w K Q else E := by
 rw [if_pos (by simp [Region.wanted, hgd])]
 obtain ⟨i0, hi, hz0, hz1, hz2⟩ := info_parts2 hinfo
 obtain ⟨v', w', hr, h2, h3⟩ := run_append_o (P := Tryz.prog) w t o.type e i0 z size bytes ht hi hz0 hz1 hz2 hzs v n xs hown ad m c news hl hnews h1 hm hb h63
 unfold Oper.wp execOp
 simp only [ho, resolve, invoke, builtin, Sem.run_bind, Sem.run_pure, Result.andThen_ok, List.map_toArray, List.map_cons, List.map_nil, hs, hx, hr]
 exact h v' w' h2 h3
def ackBits (a : Mod.Sk) (s up : Nat) : Nat → Nat
 | 0 => 0
 | i + 1 => ackBits a s up i + (if (a.ix s (up + 2 + i)).isSome then 2 ^ i else 0)
theorem ackBits_le (a : Mod.Sk) (s up : Nat) : ackBits a s up 3 ≤ 7 := by
 simp only [ackBits]
 split <;> split <;> split <;> omega
def ackBody (a : Mod.Sk) (s up : Nat) : ByteArray := ⟨#[UInt8.ofNat (ackBits a s up 3)]⟩
theorem ack_proper {a : Mod.Sk} {s up : Nat} (he : a.epoch ≤ 2147483647) (hs : s < 3) (hu : up ≤ 2147483647) : Wire.proper 4 a.epoch s up (ackBody a s up) = true := by
 have h7 := ackBits_le a s up
 have e1 : Wire.isNum (a.epoch : Int) = true := by simp [Wire.isNum]; omega
 have e2 : Wire.isNum (up : Int) = true := by simp [Wire.isNum]; omega
 have e3 : Wire.isStr (s : Int) = true := by simp [Wire.isStr]; omega
 have e4 : Wire.ackBody (ackBody a s up) = true := by
  have : (UInt8.ofNat (ackBits a s up 3)).toNat = ackBits a s up 3 := by simp [UInt8.toNat_ofNat']; omega
  simp [Wire.ackBody, ackBody, this, ByteArray.size]
  omega
 simp [Wire.proper, e1, e2, e3, e4]
end Go.Proofs.YtamafdcnbcoegaaGreat
namespace Go.Proofs.YtamafdcnbcoegaaGreat
open Go.RowKit
open Go.MapKept
def MapAt (w : World) (b : Nat) (f : Int → Option Value) : Prop :=
 ∃ es clock, w.heap[b]? = some (.map es clock) ∧ (∀ x ∈ es.toList, IsKey (.int .i64) x.key) ∧ (es.toList.map (·.key)).Nodup ∧
  ∀ (k : Int) (v : Value), f k = some v ↔ ∃ x ∈ es.toList, x.key = .int .i64 k ∧ x.val = v
theorem MapAt.keep {w w' : World} {b : Nat} {f : Int → Option Value} (h : MapAt w b f) (hk : w'.heap[b]? = w.heap[b]?) : MapAt w' b f := by
 obtain ⟨es, clock, hb, r⟩ := h
 exact ⟨es, clock, hk.trans hb, r⟩
theorem MapAt.lt {w : World} {b : Nat} {f : Int → Option Value} (h : MapAt w b f) : b < w.heap.size := by
 obtain ⟨es, clock, hb, r⟩ := h
 exact (Array.getElem?_eq_some_iff.1 hb).1
theorem MapAt.not_cells {w : World} {b : Nat} {f : Int → Option Value} {c : Array Value} {t : TypeId} {fr : Nat × Nat} (h : MapAt w b f) (hc : w.heap[b]? = some (.cells c t fr)) : False := by
 obtain ⟨es, clock, hb, r⟩ := h
 rw [hb] at hc
 cases hc
theorem mapAt_new (w : World) : MapAt (w.alloc (.map #[] 0)) w.heap.size fun _ => none :=
 ⟨#[], 0, heap_alloc_new w _, by simp, by simp, by simp⟩
def MapV (w : World) (v : Value) (f : Int → Option Value) : Prop := (v = .map none ∧ f = fun _ => none) ∨ ∃ b, v = .map (some b) ∧ MapAt w b f
def mapBlock : Value → Option Nat
 | .map b => b
 | _ => none
theorem MapV.keep {w w' : World} {v : Value} {f : Int → Option Value} (h : MapV w v f) (hk : ∀ b, mapBlock v = some b → w'.heap[b]? = w.heap[b]?) : MapV w' v f := by
 rcases h with h | ⟨b, rfl, h⟩
 ·exact .inl h
 ·exact .inr ⟨b, rfl, h.keep (hk b rfl)⟩
theorem MapV.lt {w : World} {v : Value} {f : Int → Option Value} (h : MapV w v f) : ∀ b, mapBlock v = some b → b < w.heap.size := by
 intro b hb
 rcases h with ⟨rfl, _⟩ | ⟨b', rfl, h⟩
 ·cases hb
 ·cases hb; exact h.lt
theorem isKeyI (k : Int) : IsKey (.int .i64) (.int .i64 k) := by simp [IsKey]
theorem look_fits {es : List MapEntry} {f : Int → Option Value} (hk : ∀ x ∈ es, IsKey (.int .i64) x.key) (hf : ∀ (k : Int) (v : Value), f k = some v ↔ ∃ x ∈ es, x.key = .int .i64 k ∧ x.val = v) (k : Int) :
  (Instr.findNow (.int .i64) (.int .i64 k) es 0 = some none ∧ f k = none ∧ ∀ x ∈ es, x.key ≠ .int .i64 k) ∨
  ∃ j e, Instr.findNow (.int .i64) (.int .i64 k) es 0 = some (some (j, e.val)) ∧ es[j]? = some e ∧ e.key = .int .i64 k ∧ f k = some e.val := by
 rcases findNow_spec (isKeyI k) es 0 hk with ⟨h1, h2⟩ | ⟨j, e, h1, h2, h3⟩
 ·refine .inl ⟨h1, ?_, h2⟩
  cases hv : f k with
  | none => rfl
  | some v =>
   obtain ⟨x, hx, hxk, _⟩ := (hf k v).1 hv
   exact absurd hxk (h2 x hx)
 ·exact .inr ⟨j, e, by rw [h1]; simp, h2, h3, (hf k e.val).2 ⟨e, List.mem_of_getElem? h2, h3, rfl⟩⟩
theorem run_lookup_i {P : Program} {w : World} {t K E : TypeId} (ht : P.underlying t = some (.map K E)) (hK : P.underlying K = some (.int .i64)) {z : Value} (hz : (zeroValue E).run P w = .ok z w) {v : Value} {f : Int → Option Value} (h : MapV w v f) (k : Int) :
  (Instr.lookup t v (.int .i64 k) true).run P w = .ok (.tuple #[(f k).getD z, .bool (f k).isSome]) w ∧ (Instr.lookup t v (.int .i64 k) false).run P w = .ok ((f k).getD z) w := by
 rcases h with ⟨rfl, rfl⟩ | ⟨b, rfl, es, clock, hb, hk, hn, hf⟩
 ·have h1 : Instr.findNow (.int .i64) (.int .i64 k) [] 0 = some none := rfl
  constructor <;> simp [Instr.lookup, run_underlying ht, run_checkKey hK (isKeyI k), run_findKey hK h1, hz, Result.andThen]
 ·rcases look_fits hk hf k with ⟨h1, h2, _⟩ | ⟨j, e, h1, h2, h3, h4⟩
  ·constructor <;> simp [Instr.lookup, run_underlying ht, MapKept.run_getObj_map hb, run_checkKey hK (isKeyI k), run_findKey hK h1, hz, h2, Result.andThen]
  ·constructor <;> simp [Instr.lookup, run_underlying ht, MapKept.run_getObj_map hb, run_checkKey hK (isKeyI k), run_findKey hK h1, h4, Result.andThen]
def putF (f : Int → Option Value) (k : Int) (v : Value) : Int → Option Value := fun j => if j = k then some v else f j
def delF (f : Int → Option Value) (k : Int) : Int → Option Value := fun j => if j = k then none else f j
theorem set_fits {es : List MapEntry} {f : Int → Option Value} (hn : (es.map (·.key)).Nodup) (hk : ∀ x ∈ es, IsKey (.int .i64) x.key) (hf : ∀ (k : Int) (v : Value), f k = some v ↔ ∃ x ∈ es, x.key = .int .i64 k ∧ x.val = v) {j : Nat} {e : MapEntry} {k : Int} (hj : es[j]? = some e) (he : e.key = .int .i64 k) (v : Value) :
  (∀ x ∈ es.set j { e with key := .int .i64 k, val := v }, IsKey (.int .i64) x.key) ∧ ((es.set j { e with key := .int .i64 k, val := v }).map (·.key)).Nodup ∧
   ∀ (k' : Int) (v' : Value), putF f k v k' = some v' ↔ ∃ x ∈ es.set j { e with key := .int .i64 k, val := v }, x.key = .int .i64 k' ∧ x.val = v' := by
 have hjl : j < es.length := (List.getElem?_eq_some_iff.1 hj).1
 have hkeys : (es.set j { e with key := .int .i64 k, val := v }).map (·.key) = es.map (·.key) := by
  rw [List.map_set]
  apply List.ext_getElem?
  intro i
  rw [List.getElem?_set]
  by_cases hij : j = i
  ·subst hij
   have := Option.some.inj ((List.getElem?_eq_getElem hjl).symm.trans hj)
   simp [hjl, this, he]
  ·simp [hij]
 have hinj : ∀ (i : Nat) (x : MapEntry), es[i]? = some x → x.key = .int .i64 k → i = j := by
  intro i x hi hx
  by_cases hij : i = j
  ·exact hij
  ·have hil : i < es.length := (List.getElem?_eq_some_iff.1 hi).1
   have h0 := List.getElem_inj (xs := es.map (·.key)) (i := i) (j := j) (h₀ := by simpa using hil) (h₁ := by simpa using hjl) hn
   have e1 : (es.map (·.key))[i]'(by simpa using hil) = .int .i64 k := by
    rw [List.getElem_map, ← hx]; congr 1; rw [List.getElem?_eq_getElem hil] at hi; exact Option.some.inj hi
   have e2 : (es.map (·.key))[j]'(by simpa using hjl) = .int .i64 k := by
    rw [List.getElem_map, ← he]; congr 1; rw [List.getElem?_eq_getElem hjl] at hj; exact Option.some.inj hj
   exact h0.1 (e1.trans e2.symm)
 refine ⟨fun x hx => ?_, hkeys ▸ hn, fun k' v' => ?_⟩
 ·rcases List.mem_or_eq_of_mem_set hx with h | h
  ·exact hk x h
  ·subst h; exact isKeyI k
 ·unfold putF
  by_cases hkk : k' = k
  ·subst hkk
   rw [if_pos rfl]
   constructor
   ·rintro ⟨⟩
    exact ⟨_, List.mem_set hjl _, rfl, rfl⟩
   ·rintro ⟨x, hx, hxk, rfl⟩
    obtain ⟨i, hi, ei⟩ := List.getElem_of_mem hx
    rw [List.getElem_set] at ei
    split at ei
    ·rw [← ei]
    ·rename_i hne
     have hil : i < es.length := by simpa using hi
     exact absurd (hinj i x (by rw [List.getElem?_eq_getElem hil, ei]) hxk).symm hne
  ·rw [if_neg hkk, hf]
   constructor
   ·rintro ⟨x, hx, hxk, rfl⟩
    obtain ⟨i, hil, ei⟩ := List.getElem_of_mem hx
    have hne : ¬ j = i := by
     rintro rfl
     rw [List.getElem?_eq_getElem hil, ei] at hj
     cases hj
     rw [he] at hxk
     injection hxk with _ h
     exact hkk h.symm
    refine ⟨x, ?_, hxk, rfl⟩
    have := List.getElem_set_ne hne (a := { e with key := .int .i64 k, val := v }) (hj := by simpa using hil)
    rw [← ei, ← this]
    exact List.getElem_mem _
   ·rintro ⟨x, hx, hxk, rfl⟩
    rcases List.mem_or_eq_of_mem_set hx with h | h
    ·exact ⟨x, h, hxk, rfl⟩
    ·subst h
     injection hxk with _ h
     exact absurd h.symm hkk
theorem run_update_i {P : Program} {w : World} {t K E : TypeId} (ht : P.underlying t = some (.map K E)) (hK : P.underlying K = some (.int .i64)) {b : Nat} {f : Int → Option Value} (h : MapAt w b f) (k : Int) (v : Value) :
  ∃ o, (∀ y : World, y.heap = w.heap → (Instr.mapUpdate t (.map (some b)) (.int .i64 k) v).run P y = .ok () { y with heap := y.heap.setIfInBounds b o }) ∧ MapAt { w with heap := w.heap.setIfInBounds b o } b (putF f k v) := by
 obtain ⟨es, clock, hb, hk, hn, hf⟩ := h
 have hlt : b < w.heap.size := (Array.getElem?_eq_some_iff.1 hb).1
 have hset : ∀ o, ({ w with heap := w.heap.setIfInBounds b o } : World).heap[b]? = some o := fun o => by simp [hlt]
 rcases look_fits hk hf k with ⟨h1, h2, h3⟩ | ⟨j, e, h1, h2, h3, h4⟩
 ·refine ⟨.map (es.push ⟨.int .i64 k, v, clock⟩) (clock + 1), ?_, es.push ⟨.int .i64 k, v, clock⟩, clock + 1, hset _, ?_, ?_, ?_⟩
  ·intro y hy
   have hb : y.heap[b]? = some (.map es clock) := by rw [hy]; exact hb
   simp [Instr.mapUpdate, run_underlying ht, MapKept.run_getObj_map hb, run_checkKey hK (isKeyI k), run_findKey hK h1, run_setObj_map _ hb, Result.andThen]
  ·intro x hx
   simp only [Array.toList_push, List.mem_append, List.mem_singleton] at hx
   rcases hx with hx | rfl
   ·exact hk x hx
   ·exact isKeyI k
  ·simp only [Array.toList_push, List.map_append, List.map_cons, List.map_nil]
   rw [List.nodup_append]
   refine ⟨hn, by simp, ?_⟩
   rintro a ha c hc rfl
   simp only [List.mem_singleton] at hc
   obtain ⟨x, hx, rfl⟩ := List.mem_map.1 ha
   exact h3 x hx hc
  ·intro k' v'
   unfold putF
   simp only [Array.toList_push, List.mem_append, List.mem_singleton]
   by_cases hkk : k' = k
   ·subst hkk
    rw [if_pos rfl]
    constructor
    ·rintro ⟨⟩
     exact ⟨_, .inr rfl, rfl, rfl⟩
    ·rintro ⟨x, hx | rfl, hxk, rfl⟩
     ·exact absurd hxk (h3 x hx)
     ·rfl
   ·rw [if_neg hkk, hf]
    constructor
    ·rintro ⟨x, hx, r⟩
     exact ⟨x, .inl hx, r⟩
    ·rintro ⟨x, hx | rfl, hxk, r⟩
     ·exact ⟨x, hx, hxk, r⟩
     ·injection hxk with _ h
      exact absurd h.symm hkk
 ·have hj : es[j]? = some e := by simpa using h2
  have hlist : (es.modify j (fun e' => { e' with key := .int .i64 k, val := v })).toList = es.toList.set j { e with key := .int .i64 k, val := v } := by
   rw [Array.toList_modify]
   apply List.ext_getElem?
   intro i
   rw [List.getElem?_set, List.getElem?_modify]
   by_cases hij : j = i
   ·subst hij
    have hjl : j < es.toList.length := (List.getElem?_eq_some_iff.1 h2).1
    rw [h2]
    simp at hjl
    simp [hjl]
   ·simp [hij]
  have hs : ∀ w, (Instr.keyThatStays (.int .i64 k) (.int .i64 k)).run P w = .ok (.int .i64 k) w := fun w => by simp [Instr.keyThatStays, Instr.sameBits]
  obtain ⟨g1, g2, g3⟩ := set_fits hn hk hf h2 h3 v
  refine ⟨.map (es.modify j (fun e' => { e' with key := .int .i64 k, val := v })) clock, ?_, _, clock, hset _, ?_, ?_, ?_⟩
  ·intro y hy
   have hb : y.heap[b]? = some (.map es clock) := by rw [hy]; exact hb
   simp [Instr.mapUpdate, run_underlying ht, MapKept.run_getObj_map hb, run_checkKey hK (isKeyI k), run_findKey hK h1, hj, h3, hs, run_setObj_map _ hb, Result.andThen]
  ·rw [hlist]; exact g1
  ·rw [hlist]; exact g2
  ·rw [hlist]; exact g3
theorem run_delete_i {P : Program} {w : World} {t K E K' : TypeId} (ht : P.underlying t = some (.map K E)) (hK : P.underlying K = some (.int .i64)) {b : Nat} {f : Int → Option Value} (h : MapAt w b f) (k : Int) :
  ∃ o, (∀ (ty : TypeId) (y : World), y.heap = w.heap → (Builtin.delete_ #[t, K'] ty #[.map (some b), .int .i64 k]).run P y = .ok (.tuple #[]) { y with heap := y.heap.setIfInBounds b o }) ∧ MapAt { w with heap := w.heap.setIfInBounds b o } b (delF f k) := by
 obtain ⟨es, clock, hb, hk, hn, hf⟩ := h
 have hlt : b < w.heap.size := (Array.getElem?_eq_some_iff.1 hb).1
 have hset : ∀ o, ({ w with heap := w.heap.setIfInBounds b o } : World).heap[b]? = some o := fun o => by simp [hlt]
 rcases look_fits hk hf k with ⟨h1, h2, h3⟩ | ⟨j, e, h1, h2, h3, h4⟩
 ·refine ⟨.map es clock, ?_, es, clock, hset _, hk, hn, ?_⟩
  ·intro ty y hy
   have hb : y.heap[b]? = some (.map es clock) := by rw [hy]; exact hb
   simp [Builtin.delete_, run_underlying ht, MapKept.run_getObj_map hb, run_checkKey hK (isKeyI k), run_findKey hK h1, run_setObj_map _ hb, Result.andThen]
  ·intro k' v'
   unfold delF
   by_cases hkk : k' = k
   ·subst hkk
    rw [if_pos rfl]
    constructor
    ·rintro ⟨⟩
    ·rintro ⟨x, hx, hxk, _⟩
     exact absurd hxk (h3 x hx)
   ·rw [if_neg hkk, hf]
 ·have hjl : j < es.toList.length := (List.getElem?_eq_some_iff.1 h2).1
  have hlist : (es.eraseIdxIfInBounds j).toList = es.toList.eraseIdx j := by
   have : j < es.size := by simpa using hjl
   unfold Array.eraseIdxIfInBounds
   rw [dif_pos this, Array.toList_eraseIdx]
  have hsub : (es.toList.eraseIdx j).Sublist es.toList := List.eraseIdx_sublist _ _
  have hno : ∀ x ∈ es.toList.eraseIdx j, x.key ≠ .int .i64 k := by
   intro x hx hxk
   obtain ⟨i, hne, hi⟩ := List.mem_eraseIdx_iff_getElem?.1 hx
   have hil : i < es.toList.length := (List.getElem?_eq_some_iff.1 hi).1
   have h0 := List.getElem_inj (xs := es.toList.map (·.key)) (i := i) (j := j) (h₀ := by simpa using hil) (h₁ := by simpa using hjl) hn
   refine hne (h0.1 ?_)
   rw [List.getElem_map, List.getElem_map]
   rw [List.getElem?_eq_getElem hil] at hi
   rw [List.getElem?_eq_getElem hjl] at h2
   rw [Option.some.inj hi, Option.some.inj h2, hxk, h3]
  refine ⟨.map (es.eraseIdxIfInBounds j) clock, ?_, _, clock, hset _, ?_, ?_, ?_⟩
  ·intro ty y hy
   have hb : y.heap[b]? = some (.map es clock) := by rw [hy]; exact hb
   simp [Builtin.delete_, run_underlying ht, MapKept.run_getObj_map hb, run_checkKey hK (isKeyI k), run_findKey hK h1, run_setObj_map _ hb, Result.andThen]
  ·rw [hlist]; exact fun x hx => hk x (hsub.subset hx)
  ·rw [hlist]; exact (hsub.map _).nodup hn
  ·rw [hlist]
   intro k' v'
   unfold delF
   by_cases hkk : k' = k
   ·subst hkk
    rw [if_pos rfl]
    constructor
    ·rintro ⟨⟩
    ·rintro ⟨x, hx, hxk, _⟩
     exact absurd hxk (hno x hx)
   ·rw [if_neg hkk, hf]
    constructor
    ·rintro ⟨x, hx, hxk, r⟩
     obtain ⟨i, hi⟩ := List.getElem?_of_mem hx
     refine ⟨x, List.mem_eraseIdx_iff_getElem?.2 ⟨i, ?_, hi⟩, hxk, r⟩
     rintro rfl
     rw [h2] at hi
     cases hi
     rw [h3] at hxk
     injection hxk with _ h
     exact hkk h.symm
    ·rintro ⟨x, hx, r⟩
     exact ⟨x, hsub.subset hx, r⟩
theorem run_clear_m {P : Program} {w : World} {t K E : TypeId} (ht : P.underlying t = some (.map K E)) {b : Nat} {f : Int → Option Value} (h : MapAt w b f) :
  ∃ o, (∀ (ty : TypeId) (y : World), y.heap = w.heap → (Builtin.clear_ #[t] ty #[.map (some b)]).run P y = .ok (.tuple #[]) { y with heap := y.heap.setIfInBounds b o }) ∧ MapAt { w with heap := w.heap.setIfInBounds b o } b (fun _ => none) := by
 obtain ⟨es, clock, hb, hk, hn, hf⟩ := h
 have hlt : b < w.heap.size := (Array.getElem?_eq_some_iff.1 hb).1
 refine ⟨.map #[] clock, ?_, #[], clock, by simp [hlt], by simp, by simp, by simp⟩
 intro ty y hy
 have hb : y.heap[b]? = some (.map es clock) := by rw [hy]; exact hb
 simp [Builtin.clear_, run_underlying ht, MapKept.run_getObj_map hb, run_setObj_map _ hb, Result.andThen]
theorem far_block {w : World} (b : Nat) (o : Obj) : Far (fun k => k = b) w { w with heap := w.heap.setIfInBounds b o } :=
 ⟨rfl, rfl, rfl, by simp, fun k _ he => by
  show (w.heap.setIfInBounds b o)[k]? = _
  rw [Array.getElem?_setIfInBounds_ne (fun e => he e.symm)]⟩
theorem run_clear_n {P : Program} {w : World} {t K E ty : TypeId} (ht : P.underlying t = some (.map K E)) : (Builtin.clear_ #[t] ty #[.map none]).run P w = .ok (.tuple #[]) w := by
 simp [Builtin.clear_, run_underlying ht, Result.andThen]
end Go.Proofs.YtamafdcnbcoegaaGreat
namespace Go.Proofs
open Go.Shelf
open Go.RowKit in
def Tryz.laysM316_ren : Go.Shelf.Ren := ⟨fun | 316 => 134 | n => n, fun | 9 => 9 | 3 => 3 | 4 => 4 | 37 => 44 | 0 => 0 | 127 => 256 | 5 => 5 | n => n, fun | n => n⟩
theorem Tryz.laysM316 : Go.Proofs.LaysM.n316 Tryz.prog Tryz.laysM316_ren := {
 mixed := by kernel_rfl
 f316 := Tryz.func134.trans (congrArg some (by kernel_rfl))
 t0 := Tryz.underlying0
 a0 := Tryz.isAgg0
 z0 := Tryz.sizeOf0
 v0 := Tryz.zeroValue0
 t3 := Tryz.underlying3
 a3 := Tryz.isAgg3
 z3 := Tryz.sizeOf3
 v3 := Tryz.zeroValue3
 t4 := Tryz.underlying4
 a4 := Tryz.isAgg4
 z4 := Tryz.sizeOf4
 v4 := Tryz.zeroValue4
 t9 := Tryz.underlying9
 a9 := Tryz.isAgg9
 z9 := Tryz.sizeOf9
 v9 := Tryz.zeroValue9
 t37 := Tryz.underlying44
 a37 := Tryz.isAgg44
 z37 := Tryz.sizeOf44
 v37 := Tryz.zeroValue44
 t127 := Tryz.underlying256
 a127 := Tryz.isAgg256
 z127 := Tryz.sizeOf256
 v127 := Tryz.zeroValue256
 t5 := Tryz.underlying5
 a5 := Tryz.isAgg5
 z5 := Tryz.sizeOf5
 v5 := Tryz.zeroValue5
 i0 := by kernel_rfl
 i3 := by kernel_rfl
 i4 := by kernel_rfl
 i5 := by kernel_rfl
 i9 := by kernel_rfl
 i37 := by kernel_rfl
 i127 := by kernel_rfl }
open Go.RowKit in
theorem Tryz.stringslite_Clone (s : ByteArray) (w : World) (hlim : s.size ≤ 281474976710656) :
  Calls Tryz.prog 134 #[.string s] w fun e w' => e = .returned (.string s) ∧ Below w.heap.size w w' := Any.stringslite_Clone Tryz.laysM316 s w hlim
open Go.RowKit Go.Lib Go.Sort in
open Go.RowKit Go.Lib Go.Sort in
open Go.RowKit Go.Lib Go.Sort in
def Tryz.laysNm216_ren : Go.Shelf.Ren := ⟨fun | 16 => 100 | n => n, fun | 24 => 45 | 9 => 9 | 4 => 4 | n => n, fun | n => n⟩
theorem Tryz.laysNm216 : Go.Proofs.Lays2.n16 Tryz.prog Tryz.laysNm216_ren := {
 mixed := by kernel_rfl
 f16 := Tryz.func100.trans (congrArg some (by kernel_rfl))
 t4 := Tryz.underlying4
 a4 := Tryz.isAgg4
 z4 := Tryz.sizeOf4
 v4 := Tryz.zeroValue4
 t9 := Tryz.underlying9
 a9 := Tryz.isAgg9
 z9 := Tryz.sizeOf9
 v9 := Tryz.zeroValue9
 t24 := Tryz.underlying45
 a24 := Tryz.isAgg45
 z24 := Tryz.sizeOf45
 v24 := Tryz.zeroValue45
 i9 := by kernel_rfl }
open Go.RowKit Go.Lib in
theorem Tryz.slices_Clone_string (b off n c : Nat) (zs : List ByteArray) (w : World) (hz : n ≤ zs.length) (hbig : n * 16 ≤ 140737488355328) (hc : ∀ j, j < zs.length → w.cell? ⟨b, off + j, none⟩ = some (.string (zs.getD j ByteArray.empty))) :
  Calls Tryz.prog 100 #[.slice (some ⟨b, off, none⟩) n c] w fun e w' => ∃ v', e = .returned v' ∧ w'.ownsRow w.heap.size 9 1 v' n ((zs.take n).map (Value.string)) ∧ v' ≠ .slice none 0 0 ∧ Below w.heap.size w w' := Any.slices_Clone_string Tryz.laysNm216 b off n c zs w hz hbig hc
open Go.RowKit Go.Lib in
theorem Tryz.slices_Clone_string_nil (n c : Nat) (w : World) :
  Calls Tryz.prog 100 #[.slice none n c] w fun e w' => e = .returned (.slice none 0 0) ∧ w' = w := Any.slices_Clone_string_nil Tryz.laysNm216 n c w
open Go.RowKit Go.Lib in
open Go.RowKit Go.Lib in
open Go.RowKit Go.Lib in
open Go.RowKit Go.Lib in
def Tryz.laysNm225_ren : Go.Shelf.Ren := ⟨fun | 25 => 132 | 31 => 185 | 32 => 186 | 37 => 217 | n => n, fun | 22 => 26 | 3 => 3 | 4 => 4 | 40 => 198 | 0 => 0 | n => n, fun | n => n⟩
theorem Tryz.laysNm225 : Go.Proofs.Lays2.n25 Tryz.prog Tryz.laysNm225_ren := {
 mixed := by kernel_rfl
 f25 := Tryz.func132.trans (congrArg some (by kernel_rfl))
 f31 := Tryz.func185.trans (congrArg some (by kernel_rfl))
 f32 := Tryz.func186.trans (congrArg some (by kernel_rfl))
 f37 := Tryz.func217.trans (congrArg some (by kernel_rfl))
 t0 := Tryz.underlying0
 a0 := Tryz.isAgg0
 z0 := Tryz.sizeOf0
 v0 := Tryz.zeroValue0
 t3 := Tryz.underlying3
 a3 := Tryz.isAgg3
 z3 := Tryz.sizeOf3
 v3 := Tryz.zeroValue3
 t4 := Tryz.underlying4
 a4 := Tryz.isAgg4
 z4 := Tryz.sizeOf4
 v4 := Tryz.zeroValue4
 t22 := Tryz.underlying26
 a22 := Tryz.isAgg26
 z22 := Tryz.sizeOf26
 v22 := Tryz.zeroValue26
 t40 := Tryz.underlying198
 a40 := Tryz.isAgg198
 z40 := Tryz.sizeOf198
 v40 := Tryz.zeroValue198 }
open Go.RowKit Go.Lib in
theorem Tryz.slices_BinarySearch_int (b off n c : Nat) (zs : List Int) (x : Int) (w : World) (hz : n ≤ zs.length) (hbig : n < 4611686018427387904) (hc : ∀ j, j < zs.length → w.cell? ⟨b, off + j, none⟩ = some (.int .i64 (zs.getD j 0))) (hs : (zs.take n).Pairwise (· ≤ ·)) :
  Calls Tryz.prog 132 #[.slice (some ⟨b, off, none⟩) n c, .int .i64 x] w fun e w' => e = .returned (.tuple #[.int .i64 ((zs.take n).countP (· < x) : Nat), .bool ((zs.take n).contains x)]) ∧ ∃ q, w' = w.drewN q := Any.slices_BinarySearch_int Tryz.laysNm225 b off n c zs x w hz hbig hc hs
def Tryz.laysNm223_ren : Go.Shelf.Ren := ⟨fun | 23 => 221 | n => n, fun | 22 => 26 | 3 => 3 | 4 => 4 | 0 => 0 | n => n, fun | n => n⟩
theorem Tryz.laysNm223 : Go.Proofs.Lays2.n23 Tryz.prog Tryz.laysNm223_ren := {
 mixed := by kernel_rfl
 f23 := Tryz.func221.trans (congrArg some (by kernel_rfl))
 t0 := Tryz.underlying0
 a0 := Tryz.isAgg0
 z0 := Tryz.sizeOf0
 v0 := Tryz.zeroValue0
 t3 := Tryz.underlying3
 a3 := Tryz.isAgg3
 z3 := Tryz.sizeOf3
 v3 := Tryz.zeroValue3
 t4 := Tryz.underlying4
 a4 := Tryz.isAgg4
 z4 := Tryz.sizeOf4
 v4 := Tryz.zeroValue4
 t22 := Tryz.underlying26
 a22 := Tryz.isAgg26
 z22 := Tryz.sizeOf26
 v22 := Tryz.zeroValue26
 i3 := by kernel_rfl }
open Go.RowKit Go.Lib Go.Sort in
open Go.RowKit Go.Lib Go.Sort in
open Go.RowKit Go.Lib Go.Sort in
open Go.RowKit Go.Lib Go.Sort in
theorem Tryz.slices_Delete_int_cells (b off n c i j : Nat) (zs : List Int) (w : World) (hz : n ≤ zs.length) (hcap : n ≤ c) (hm : c ≤ 9223372036854775807) (hij : i ≤ j) (hj : j ≤ n) (hc : ∀ j, j < zs.length → w.cell? ⟨b, off + j, none⟩ = some (.int .i64 (zs.getD j 0))) (hf : ∀ j, j < n → w.frozen? ⟨b, off + j, none⟩ = false) :
  Calls Tryz.prog 221 #[.slice (some ⟨b, off, none⟩) n c, .int .i64 i, .int .i64 j] w fun e w' => e = .returned (.slice (some ⟨b, off, none⟩) (n - (j - i)) c) ∧ ∃ q, w' = (w.drewN q).setCells b off (((zs.take n).take i ++ (zs.take n).drop j ++ List.replicate (j - i) 0).map (Value.int .i64)) := Any.slices_Delete_int_cells Tryz.laysNm223 b off n c i j zs w hz hcap hm hij hj hc hf
open Go.RowKit Go.Lib in
theorem Tryz.slices_BinarySearch_int_empty (a : Option Addr) (c : Nat) (x : Int) (w : World) :
  Calls Tryz.prog 132 #[.slice a 0 c, .int .i64 x] w fun e w' => e = .returned (.tuple #[.int .i64 0, .bool false]) ∧ w' = w := Any.slices_BinarySearch_int_empty Tryz.laysNm225 a c x w
open Go.RowKit Go.Lib in
theorem Tryz.slices_Delete_int_empty (a : Option Addr) (c : Nat) (w : World) :
  Calls Tryz.prog 221 #[.slice a 0 c, .int .i64 0, .int .i64 0] w fun e w' => e = .returned (.slice a 0 c) ∧ w' = w := Any.slices_Delete_int_empty Tryz.laysNm223 a c w
def Tryz.laysNm221_ren : Go.Shelf.Ren := ⟨fun | 21 => 133 | 27 => 187 | 28 => 188 | 35 => 218 | 39 => 225 | n => n, fun | 22 => 26 | 3 => 3 | 4 => 4 | 0 => 0 | n => n, fun | n => n⟩
theorem Tryz.laysNm221 : Go.Proofs.Lays2.n21 Tryz.prog Tryz.laysNm221_ren := {
 mixed := by kernel_rfl
 f21 := Tryz.func133.trans (congrArg some (by kernel_rfl))
 f27 := Tryz.func187.trans (congrArg some (by kernel_rfl))
 f28 := Tryz.func188.trans (congrArg some (by kernel_rfl))
 f35 := Tryz.func218.trans (congrArg some (by kernel_rfl))
 f39 := Tryz.func225.trans (congrArg some (by kernel_rfl))
 t0 := Tryz.underlying0
 a0 := Tryz.isAgg0
 z0 := Tryz.sizeOf0
 v0 := Tryz.zeroValue0
 t3 := Tryz.underlying3
 a3 := Tryz.isAgg3
 z3 := Tryz.sizeOf3
 v3 := Tryz.zeroValue3
 t4 := Tryz.underlying4
 a4 := Tryz.isAgg4
 z4 := Tryz.sizeOf4
 v4 := Tryz.zeroValue4
 t22 := Tryz.underlying26
 a22 := Tryz.isAgg26
 z22 := Tryz.sizeOf26
 v22 := Tryz.zeroValue26
 i3 := by kernel_rfl }
end Go.Proofs
