/-
  Part 7 of a proof: MonoKey, K7, K8, K9, K10, K11, K12, K13, K14, K16, K17, E1, E2, D18.
-/
import Derived.Test.YtamafdcnbcoegaaGreatFe6
namespace Go.Proofs.YtamafdcnbcoegaaGreat
open Go.RowKit
def skey (o : Oper) : Tmp := match o.dst with
 | some d => d
 | none => match o.op with
  | .store _ (.tmp t) _ => t
  | _ => 0
def keyVal (o : Oper) (a : Act) (v : Value) : Value := match o.dst with
 | some _ => v
 | none => a.tmps.getD (skey o) undef
def keyOk (ops : Array Oper) : Bool := (List.range ops.size).all fun k => match ops[k]? with
 | none => true
 | some o => match o.dst with
  | some _ => true
  | none => match wr ops (skey o) with
   | none => true
   | some j => depB ops k j
theorem keyOk_spec {ops : Array Oper} (h : keyOk ops = true) {k j : Nat} {o : Oper} (ho : ops[k]? = some o) (hd : o.dst = none) (hj : wr ops (skey o) = some j) : depB ops k j = true := by
 unfold keyOk at h
 have := List.all_eq_true.1 h k (List.mem_range.2 (Array.getElem?_eq_some_iff.1 ho).1)
 rw [ho] at this
 simp only [hd, hj] at this
 exact this
section
variable {P : Program} {ops : Array Oper} {Q : Exit → Act → World → Prop}
structure KeyInv (ops : Array Oper) (Φ : Nat → Value → World → Prop) (E : Nat → Nat → Prop) (a0 : Act) (w0 : World) (L : Array Bool) (a : Act) (w : World) : Prop where
 size : L.size = ops.size
 ext : Far (fun b => ∃ k, L.getD k false = true ∧ E k b) w0 w
 closed : ∀ k, L.getD k false = true → ∀ j, depB ops k j = true → L.getD j false = true
 vals : ∀ i o, ops[i]? = some o → L.getD i false = true → Φ i (a.tmps.getD (skey o) undef) w
 rest : ∀ t, (∀ j, wr ops t = some j → L.getD j false = false) → a.tmps.getD t undef = a0.tmps.getD t undef
 defers : a.defers = a0.defers
 tsize : a.tmps.size = a0.tmps.size
theorem mono_key {a0 : Act} {w0 : World} (Φ : Nat → Value → World → Prop) (E : Nat → Nat → Prop) (xw : Nat) (X : World → World → Prop) (hXr : ∀ w, X w w) (hok : monoOk ops a0.tmps.size = true) (hkey : keyOk ops = true)
  (hst : ∀ i j v w w', i ≠ j → depB ops j i = false → Φ j v w → Far (E i) w w' → (i = xw → X w w') → Φ j v w')
  (hop : ∀ i o, ops[i]? = some o → ∀ a w, Far (fun b => ∃ k, k ≠ i ∧ depB ops k i = false ∧ E k b) w0 w → GoodAct ops Φ a0 i o a w →
   if Region.wanted o (yielded ops a.tmps) = true then o.wp P a w (fun a' w' => ∃ v, a' = a.put o.dst v ∧ Far (E i) w w' ∧ Φ i (keyVal o a v) w' ∧ (i = xw → X w w')) Q else Φ i (keyVal o a undef) w)
  (hend : ∀ a w, Far (fun b => ∃ k, E k b) w0 w → (∀ i o, ops[i]? = some o → Φ i (a.tmps.getD (skey o) undef) w) → (∀ t, wr ops t = none → a.tmps.getD t undef = a0.tmps.getD t undef) → a.defers = a0.defers → a.tmps.size = a0.tmps.size → Q .normal a w) :
  ∀ (fuel : Nat) (L : Array Bool) (a : Act) (w : World), KeyInv ops Φ E a0 w0 L a w → (List.range ops.size).countP (fun i => !L.getD i false) ≤ fuel → wpAny P .any ops Q fuel L a w := by
 have hrdy : ∀ (L : Array Bool) (a : Act) (w : World), KeyInv ops Φ E a0 w0 L a w → Region.ready .any ops L = [] → Q .normal a w := by
  intro L a w hI hr
  have hall : ∀ n i, i < n → i < ops.size → L.getD i false = true := by
   intro n
   induction n with
   | zero => intro i h; omega
   | succ n ih =>
    intro i h hi
    by_cases hin : i < n
    ·exact ih i hin hi
    ·have e : i = n := by omega
     subst e
     cases hL : L.getD i false
     ·exfalso
      have ho : ops[i]? = some ops[i] := Array.getElem?_eq_getElem hi
      obtain ⟨_, _, h3⟩ := monoOk_spec hok ho
      have : i ∈ Region.ready .any ops L := mem_ready.2 ⟨by
       have hs : i < L.size := by rw [hI.size]; exact hi
       rw [Array.getD_eq_getD_getElem?, Array.getElem?_eq_getElem hs] at hL ⊢
       exact hL, ops[i], ho, fun e he hb => by
       have hd : depB ops i e.on = true := by
        unfold depB
        rw [ho]
        exact Array.any_eq_true'.2 ⟨e, he, by simp [hb]⟩
       have hlt := h3 _ hd
       exact ih e.on hlt (by omega)⟩
      rw [hr] at this
      cases this
     ·rfl
  refine hend a w (hI.ext.mono (fun b _ h => h.imp fun k h => h.2)) (fun i o ho => hI.vals i o ho (hall ops.size i (Array.getElem?_eq_some_iff.1 ho).1 (Array.getElem?_eq_some_iff.1 ho).1)) (fun t ht => hI.rest t (fun j hj => by rw [ht] at hj; cases hj)) hI.defers hI.tsize
 intro fuel
 induction fuel with
 | zero =>
  intro L a w hI hc
  have hr : Region.ready .any ops L = [] := by
   apply List.eq_nil_iff_forall_not_mem.2
   intro i hi
   obtain ⟨h0, o, ho, _⟩ := mem_ready.1 hi
   have hlt : i < ops.size := (Array.getElem?_eq_some_iff.1 ho).1
   have h0' : L.getD i false = false := by
    have hs : i < L.size := by rw [hI.size]; exact hlt
    rw [Array.getD_eq_getD_getElem?, Array.getElem?_eq_getElem hs] at h0 ⊢
    exact h0
   have : 0 < (List.range ops.size).countP (fun i => !L.getD i false) := List.countP_pos_iff.2 ⟨i, List.mem_range.2 hlt, by simp [h0']⟩
   omega
  exact ⟨hr, hrdy L a w hI hr⟩
 | succ fuel ih =>
  intro L a w hI hc
  refine ⟨hrdy L a w hI, fun i hi => ?_⟩
  obtain ⟨h0, o, ho, hdeps⟩ := mem_ready.1 hi
  have hlt : i < ops.size := (Array.getElem?_eq_some_iff.1 ho).1
  have hls : i < L.size := by rw [hI.size]; exact hlt
  have h0' : L.getD i false = false := by
   rw [Array.getD_eq_getD_getElem?, Array.getElem?_eq_getElem hls] at h0 ⊢
   exact h0
  obtain ⟨hd, hl, hlex⟩ := monoOk_spec hok ho
  have hdl : ∀ j, depB ops i j = true → L.getD j false = true := by
   intro j hj
   unfold depB at hj
   rw [ho] at hj
   obtain ⟨e, he, hb⟩ := Array.any_eq_true'.1 hj
   simp only [Bool.and_eq_true, beq_iff_eq] at hb
   rw [← hb.2]; exact hdeps e he hb.1
  have hgood : GoodAct ops Φ a0 i o a w := by
   intro t ht
   cases hw : wr ops t with
   | none => exact hI.rest t (fun j hj => by rw [hw] at hj; cases hj)
   | some j =>
    simp only []
    have hj := List.find?_some hw
    simp only [beq_iff_eq] at hj
    split
    ·rename_i hdep
     cases hoj : ops[j]? with
     | none => rw [hoj] at hj; cases hj
     | some oj =>
      rw [hoj] at hj
      have hvv := hI.vals j oj hoj (hdl j hdep)
      have hj' : oj.dst = some t := hj
      have hk' : skey oj = t := by unfold skey; rw [hj']
      rw [hk'] at hvv
      exact hvv
    ·rename_i hdep
     refine hI.rest t (fun j' hj' => ?_)
     rw [hw] at hj'
     cases hj'
     rcases hl t ht j hw with h | h
     ·exact absurd h hdep
     ·cases hLj : L.getD j false
      ·rfl
      ·have := hI.closed j hLj i h
       rw [h0'] at this; cases this
  have hstep : ∀ v w', Far (E i) w w' → (i = xw → X w w') → Φ i (keyVal o a v) w' → KeyInv ops Φ E a0 w0 (L.setIfInBounds i true) (a.put o.dst v) w' := by
   intro v w' hb hx hv
   have hget : ∀ k, (L.setIfInBounds i true).getD k false = true ↔ (k = i ∨ L.getD k false = true) := by
    intro k
    by_cases hk : k = i
    ·subst hk
     simp [Array.getD_eq_getD_getElem?, hls]
    ·rw [getD_set_ne false (fun e => hk e.symm)]
     simp [hk]
   have hput : ∀ t, (a.put o.dst v).tmps.getD t undef = if o.dst = some t then v else a.tmps.getD t undef := by
    intro t
    cases hdst : o.dst with
    | none => simp [Act.put]
    | some d =>
     simp only [Act.put, Option.some.injEq]
     have hdsz : d < a.tmps.size := by rw [hI.tsize]; exact (hd d hdst).1
     by_cases h : d = t
     ·subst h
      simp [Array.getD_eq_getD_getElem?, hdsz]
     ·simp [Array.getD_eq_getD_getElem?, h]
   refine ⟨by simp [hI.size], (hI.ext.mono (fun b _ h => by obtain ⟨k, h1, h2⟩ := h; exact ⟨k, (hget k).2 (.inr h1), h2⟩)).trans hb (fun b _ h => ⟨i, (hget i).2 (.inl rfl), h⟩), ?_, ?_, ?_, ?_, ?_⟩
   ·intro k hk j hj
    rw [hget] at hk ⊢
    rcases hk with rfl | hk
    ·exact .inr (hdl j hj)
    ·exact .inr (hI.closed k hk j hj)
   ·intro k ok hok' hk
    rw [hget] at hk
    rcases hk with rfl | hk
    ·rw [ho] at hok'; cases hok'
     unfold keyVal at hv
     cases hdst : o.dst with
     | none =>
      rw [hdst] at hv
      have hp := hput (skey o)
      rw [if_neg (by rw [hdst]; simp), hdst] at hp
      rw [hp]; exact hv
     | some d =>
      rw [hdst] at hv
      have hs : skey o = d := by unfold skey; rw [hdst]
      have hp := hput d
      rw [if_pos hdst, hdst] at hp
      rw [hs, hp]; exact hv
    ·have hki : i ≠ k := by
      intro e
      subst e
      rw [h0'] at hk; cases hk
     have hnd : depB ops k i = false := by
      cases hd : depB ops k i with
      | false => rfl
      | true =>
       have := hI.closed k hk i hd
       rw [h0'] at this; cases this
     have hvk := hst i k _ _ _ hki hnd (hI.vals k ok hok' hk) hb hx
     have hne : o.dst ≠ some (skey ok) := by
      intro e
      have h1 := (hd _ e).2
      cases hdk : ok.dst with
      | some d =>
       have hs : skey ok = d := by unfold skey; rw [hdk]
       have h2 := ((monoOk_spec hok hok').1 d hdk).2
       rw [hs, h2] at h1
       cases h1
       exact hki rfl
      | none =>
       have := keyOk_spec hkey hok' hdk h1
       rw [this] at hnd; cases hnd
     rw [hput, if_neg hne]
     exact hvk
   ·intro t ht
    rw [hput]
    have hne : o.dst ≠ some t := by
     intro e
     have := ht i (hd t e).2
     have h2 := (hget i).2 (.inl rfl)
     rw [this] at h2; cases h2
    rw [if_neg hne]
    refine hI.rest t (fun j hj => ?_)
    cases hLj : L.getD j false
    ·rfl
    ·have := ht j hj
     rw [(hget j).2 (.inr hLj)] at this; cases this
   ·cases o.dst <;> exact hI.defers
   ·rw [← hI.tsize]; cases o.dst <;> simp [Act.put]
  have hcount : (List.range ops.size).countP (fun k => !(L.setIfInBounds i true).getD k false) ≤ fuel := by
   have := countP_lt (l := List.range ops.size) (p := fun k => !L.getD k false) (q := fun k => !(L.setIfInBounds i true).getD k false)
    (fun k _ hk => by
     by_cases hki : k = i
     ·subst hki; simp [h0']
     ·rw [getD_set_ne false (fun e => hki e.symm)] at hk; exact hk)
    ⟨i, List.mem_range.2 hlt, by simp [h0'], by simp [Array.getD_eq_getD_getElem?, hls]⟩
   omega
  have hg := hop i o ho a w (hI.ext.mono (fun b _ h => by
   obtain ⟨k, h1, h2⟩ := h
   refine ⟨k, fun e => ?_, ?_, h2⟩
   ·subst e; rw [h0'] at h1; cases h1
   ·cases hd : depB ops k i with
    | false => rfl
    | true =>
     have := hI.closed k h1 i hd
     rw [h0'] at this; cases this)) hgood
  unfold wpOp
  rw [ho]
  simp only []
  split at hg
  ·rename_i hw
   rw [if_pos hw]
   refine .inl (Oper.wp_mono ?_ hg)
   rintro a' w' ⟨v, rfl, hb, hv, hx⟩
   exact ih _ _ _ (hstep v w' hb hx hv) hcount
  ·rename_i hw
   rw [if_neg hw]
   exact ih _ _ _ (hstep undef w (Far.refl _ _) (fun _ => hXr w) hg) hcount
def StableX (E : Nat → Prop) (X : World → World → Prop) (φ : Value → World → Prop) : Prop := ∀ v w w', φ v w → Far E w w' → X w w' → φ v w'
theorem stableX_of {E : Nat → Prop} {X : World → World → Prop} {φ : Value → World → Prop} (h : StableF E φ) : StableX E X φ := fun v w w' h1 h2 _ => h v w w' h1 h2
def StableButX (ops : Array Oper) (i : Nat) (E : Nat → Prop) (X : World → World → Prop) : Nat → List (Value → World → Prop) → Prop
 | _, [] => True
 | j, φ :: r => (i = j ∨ depB ops j i = true ∨ StableX E X φ) ∧ StableButX ops i E X (j + 1) r
def AllStableX (ops : Array Oper) (L : List (Value → World → Prop)) (xw : Nat) (X : World → World → Prop) : List (Nat × (Nat → Prop)) → Prop
 | [] => True
 | p :: r => StableButX ops p.1 p.2 (fun w w' => p.1 = xw → X w w') 0 L ∧ AllStableX ops L xw X r
theorem stableButX_get {ops : Array Oper} {i : Nat} {E : Nat → Prop} {X : World → World → Prop} : ∀ {L : List (Value → World → Prop)} {s : Nat}, StableButX ops i E X s L → ∀ j, i ≠ s + j → depB ops (s + j) i = false → StableX E X (L.getD j (fun _ _ => True))
 | [], _, _, _, _, _ => fun _ _ _ _ _ _ => by simp
 | φ :: r, s, h, 0, hne, hd => by
  rcases h.1 with h | h | h
  ·exact absurd h hne
  ·rw [Nat.add_zero] at hd; rw [hd] at h; cases h
  ·exact h
 | φ :: r, s, h, j + 1, hne, hd => by
  have := stableButX_get (L := r) (s := s + 1) h.2 j (by omega) (by rw [show s + 1 + j = s + (j + 1) by omega]; exact hd)
  simpa using this
theorem allStableX_get {ops : Array Oper} {L : List (Value → World → Prop)} {xw : Nat} {X : World → World → Prop} : ∀ {Ws : List (Nat × (Nat → Prop))}, AllStableX ops L xw X Ws → ∀ p ∈ Ws, StableButX ops p.1 p.2 (fun w w' => p.1 = xw → X w w') 0 L
 | [], _, _, hp => by cases hp
 | q :: r, h, p, hp => by
  cases hp with
  | head => exact h.1
  | tail _ hp => exact allStableX_get h.2 p hp
def KeyOps (P : Program) (ops : Array Oper) (Q : Exit → Act → World → Prop) (L : List (Value → World → Prop)) (Ws : List (Nat × (Nat → Prop))) (xw : Nat) (X : World → World → Prop) (a0 : Act) (w0 : World) : Nat → List Oper → List (List (Tmp × Option Nat)) → List (Value → World → Prop) → Prop
 | i, o :: os, pl :: pls, φ :: φs => (∀ a w, Far (footBut Ws ops i) w0 w → PlanFacts L a0 a w pl →
   if Region.wanted o (yielded ops a.tmps) = true then o.wp P a w (fun a' w' => ∃ v, a' = a.put o.dst v ∧ Far (footOf Ws i) w w' ∧ φ (keyVal o a v) w' ∧ (i = xw → X w w')) Q else φ (keyVal o a undef) w) ∧ KeyOps P ops Q L Ws xw X a0 w0 (i + 1) os pls φs
 | _, [], _, _ => True
 | _, _, _, _ => False
theorem keyOps_get {L : List (Value → World → Prop)} {Ws : List (Nat × (Nat → Prop))} {xw : Nat} {X : World → World → Prop} {a0 : Act} {w0 : World} : ∀ {s : Nat} {os : List Oper} {pls : List (List (Tmp × Option Nat))} {φs : List (Value → World → Prop)}, KeyOps P ops Q L Ws xw X a0 w0 s os pls φs →
  ∀ (i : Nat) o pl, os[i]? = some o → pls[i]? = some pl → ∀ a w, Far (footBut Ws ops (s + i)) w0 w → PlanFacts L a0 a w pl →
   if Region.wanted o (yielded ops a.tmps) = true then o.wp P a w (fun a' w' => ∃ v, a' = a.put o.dst v ∧ Far (footOf Ws (s + i)) w w' ∧ φs.getD i (fun _ _ => True) (keyVal o a v) w' ∧ (s + i = xw → X w w')) Q else φs.getD i (fun _ _ => True) (keyVal o a undef) w
 | _, [], _, _, _, i, o, pl, ho, _ => by simp at ho
 | _, o :: os, [], _, h, _, _, _, _, _ => h.elim
 | _, o :: os, pl :: pls, [], h, _, _, _, _, _ => h.elim
 | _, o :: os, pl :: pls, φ :: φs, h, 0, o', pl', ho, hp => by
  simp at ho hp; subst ho; subst hp
  exact h.1
 | s, o :: os, pl :: pls, φ :: φs, h, i + 1, o', pl', ho, hp => by
  have := keyOps_get h.2 i o' pl' (by simpa using ho) (by simpa using hp)
  rw [show s + 1 + i = s + (i + 1) by omega] at this
  simpa using this
def KeyWords (f : Nat → Value) (w : World) : List Tmp → List (Value → World → Prop) → Prop
 | d :: ds, φ :: φs => φ (f d) w ∧ KeyWords f w ds φs
 | _, _ => True
def keysOf (ops : Array Oper) : List Tmp := ops.toList.map skey
theorem keyWords_of {f : Nat → Value} {w : World} : ∀ {os : List Oper} {L : List (Value → World → Prop)}, (∀ i o, os[i]? = some o → L.getD i (fun _ _ => True) (f (skey o)) w) → KeyWords f w (os.map skey) L
 | [], _, _ => by simp [KeyWords]
 | o :: os, [], _ => by simp [KeyWords]
 | o :: os, φ :: φs, h => by
  have ih := keyWords_of (os := os) (L := φs) (fun i o' ho => by have := h (i + 1) o' (by simpa using ho); simpa using this)
  exact ⟨h 0 o rfl, ih⟩
theorem wp_region_key {id : Nat} {a0 : Act} {w0 : World} (hm : P.follows .mixedOrders = true) (L : List (Value → World → Prop)) (plan : List (List (Tmp × Option Nat))) (Ks : List Tmp) (M : List Bool) (Ws : List (Nat × (Nat → Prop))) (xw : Nat) (X : World → World → Prop) (hXr : ∀ w, X w w)
  (hon : onceB Ws = true) (hok : monoOk ops a0.tmps.size = true) (hkey : keyOk ops = true) (hplan : planOf ops = plan) (hD : keysOf ops = Ks) (hM : maskOf ops a0.tmps.size = M) (hst : AllStable L) (hstF : AllStableX ops L xw X Ws) (hop : KeyOps P ops Q L Ws xw X a0 w0 0 ops.toList plan L)
  (hend : ∀ f w, Far (fun b => ∃ p ∈ Ws, p.2 b) w0 w → KeyWords f w Ks L → Q .normal { tmps := (mergeT M a0.tmps.toList 0 f).toArray, defers := a0.defers } w) :
  (Code.region id ops true).wp P Q a0 w0 := by
 refine wp_region_any hm (mono_key (w0 := w0) (fun i => L.getD i (fun _ _ => True)) (footOf Ws) xw X hXr hok hkey ?_ ?_ ?_ ops.size _ a0 _ ⟨by simp, far_below ((Below.refl _ _).drew), ?_, ?_, fun _ _ => rfl, rfl, rfl⟩ ?_)
 ·intro i j v w w' hij hd hv hF hX
  by_cases hi : ∃ p ∈ Ws, p.1 = i
  ·obtain ⟨p, hp, rfl⟩ := hi
   have hs := stableButX_get (allStableX_get hstF p hp) j (by omega) (by rw [Nat.zero_add]; exact hd)
   exact hs v w w' hv (hF.mono (fun b _ h => by
    obtain ⟨q, hq, e, hb⟩ := h
    rw [once_same hon hp hq e.symm]; exact hb)) hX
  ·exact allStable_get hst j v w w' hv (hF.below (Nat.le_refl _) (fun k _ h => by
    obtain ⟨q, hq, e, _⟩ := h
    exact hi ⟨q, hq, e⟩))
 ·intro i o ho a w hb hg
  have hlt : i < ops.size := (Array.getElem?_eq_some_iff.1 ho).1
  have hpl : plan[i]? = some ((o.looksAt ops).map fun t => (t, match wr ops t with
     | some j => if depB ops i j = true then some j else none
     | none => none)) := by
   rw [← hplan]
   unfold planOf
   rw [List.getElem?_map, List.getElem?_range hlt, Option.map_some, ho]
   try rfl
  have := keyOps_get hop i o _ (by simpa using ho) hpl a w (by
   rw [Nat.zero_add]
   exact hb.mono (fun b _ h => by
    obtain ⟨k, h1, h2, p, hp, rfl, h3⟩ := h
    exact ⟨p, hp, h1, h2, h3⟩)) (planFacts_of rfl (o := o) _ hg)
  rw [Nat.zero_add] at this
  exact this
 ·intro a w hb hv hr hd hs
  have h := hend (fun t => a.tmps.getD t undef) w (hb.mono (fun b _ h => by
   obtain ⟨k, p, hp, _, h3⟩ := h
   exact ⟨p, hp, h3⟩)) (by rw [← hD]; exact keyWords_of (fun i o ho => hv i o (by simpa using ho)))
  have e : mergeT M a0.tmps.toList 0 (fun t => a.tmps.getD t undef) = a.tmps.toList := by
   refine mergeT_eq _ _ _ _ _ (by rw [← hM]; simp [maskOf]) (by simpa using hs) ?_ ?_
   ·intro j hj _
    simp [Array.getD_eq_getD_getElem?, List.getD_eq_getElem?_getD]
   ·intro j hj hb
    rw [← hM] at hb
    have hj' : j < a0.tmps.size := by rw [← hs]; simpa using hj
    have hw : wr ops j = none := by
     unfold maskOf at hb
     simp [List.getD_eq_getElem?_getD, List.getElem?_map, List.getElem?_range hj'] at hb
     exact hb
    have := hr j hw
    simpa [Array.getD_eq_getD_getElem?, List.getD_eq_getElem?_getD] using this
  rw [e, ← hd] at h
  exact h
 ·intro k hk
  simp [Array.getD_eq_getD_getElem?] at hk
  rcases h : (Array.replicate ops.size false)[k]? with _ | b <;> simp [h] at hk
  subst hk
  have := Array.getElem?_eq_some_iff.1 h
  obtain ⟨h1, h2⟩ := this
  simp at h2
 ·intro i o ho hk
  exfalso
  simp [Array.getD_eq_getD_getElem?] at hk
  rcases h : (Array.replicate ops.size false)[i]? with _ | b <;> simp [h] at hk
  subst hk
  have := Array.getElem?_eq_some_iff.1 h
  obtain ⟨h1, h2⟩ := this
  simp at h2
 ·exact Nat.le_trans List.countP_le_length (by simp)
end
end Go.Proofs.YtamafdcnbcoegaaGreat
namespace Go.Proofs.YtamafdcnbcoegaaGreat
open Go.RowKit
theorem pk_not_cells {w : World} {p e : Nat} {logs : Nat → List ByteArray} {sh : Nat → List (Nat × Value)} {st : Mod.Stv} {c : Sv} (H : PkAt w p e logs sh st c) {q : Nat} {cs : Array Value} {t : TypeId} {fr : Nat × Nat} (hb : w.heap[q]? = some (.cells cs t fr))
  (h1 : t ≠ 176) (h2 : t ≠ 9) (h3 : t ≠ 3) (h4 : t ≠ 203) (h5 : t ≠ 252) (h6 : t ≠ 5) (h7 : t ≠ 261) (h8 : t ≠ 179) : ¬ PkU p c q := by
 rintro (h | (h | h) | h)
 ·exact ks_not_cells H.ks hb h1 h2 h3 h
 ·subst h
  have := H.stt.blk
  rw [hb] at this
  injection this with this
  injection this with _ this _
  exact h4 this
 ·exact dk_ne H.stt.dk hb (fun e => h5 e.symm) (fun e => h6 e.symm) (fun e => h7 e.symm) h
 ·exact H.rl.ne hb (fun e => h8 e.symm) h
theorem grown_zero (a : Mod.Sk) (s : Nat) : (grown a s []).logs = a.logs := by
 funext t
 show (if t = s then a.logs s ++ [] else a.logs t) = _
 split
 ·rename_i h; subst h; simp
 ·rfl
theorem grown_snoc (a : Mod.Sk) (s : Nat) (out : List ByteArray) (c : ByteArray) : (fun j => if j = s then (grown a s out).logs s ++ [c] else (grown a s out).logs j) = (grown a s (out ++ [c])).logs := by
 funext t
 show (if t = s then (if s = s then a.logs s ++ out else a.logs s) ++ [c] else (if t = s then a.logs s ++ out else a.logs t)) = if t = s then a.logs s ++ (out ++ [c]) else a.logs t
 split
 ·simp
 ·rfl
theorem grown_sum (a : Mod.Sk) (s : Nat) (hs : s < 3) (out : List ByteArray) : ((grown a s out).logs 0).length + ((grown a s out).logs 1).length + ((grown a s out).logs 2).length = a.count + out.length := grown_count a s hs out
theorem grown_self (a : Mod.Sk) (s : Nat) (out : List ByteArray) : (grown a s out).logs s = a.logs s ++ out := by
 show (if s = s then _ else _) = _
 rw [if_pos rfl]
def RecKept (w1 w2 : World) : Prop := ∀ (g : Nat) (x : ByteArray), w1.heap[g]? = some (.cells #[.string x] 235 (0, 0)) → ∃ x' : ByteArray, w2.heap[g]? = some (.cells #[.string x'] 235 (0, 0))
theorem recKept_refl (w : World) : RecKept w w := fun _ x h => ⟨x, h⟩
theorem recKept_set (w : World) (g : Nat) (b : ByteArray) : RecKept w (w.setCell ⟨g, 0, none⟩ (.string b)) := by
 intro k x h
 by_cases e : k = g
 ·subst e
  have := blk_set (j := 0) (v := .string b) h
  exact ⟨b, by simpa using this⟩
 ·exact ⟨x, (far_set w g 0 (.string b)).blk h e⟩
def sliceLen : Option Value → Nat
 | some (.slice _ n _) => n
 | _ => 0
end Go.Proofs.YtamafdcnbcoegaaGreat
namespace Go.Proofs.YtamafdcnbcoegaaGreat
open Go.RowKit
theorem onSh_ix {a : Mod.Sk} {sh : Nat → List (Nat × Value)} (O : OnSh a.held sh) (A : ∀ s, s < 3 → AreS (sh s)) {s : Nat} (hs : s < 3) (q : Nat) : (look (sh s) (q : Int)).isSome = (a.ix s q).isSome := by
 cases h : a.ix s q with
 | none =>
  rcases areS_look (A s hs) (q : Int) with ⟨b, hl⟩ | hl
  ·exact absurd ((O s hs q b).1 hl) (ix_none h b)
  ·rw [hl]; rfl
 | some i =>
  rw [(O s hs q _).2 (ix_some h)]
  rfl
theorem ack_same {a : Mod.Sk} {sh : Nat → List (Nat × Value)} (O : OnSh a.held sh) (A : ∀ s, s < 3 → AreS (sh s)) {s : Nat} (hs : s < 3) (up : Nat) : ∀ j, ackTo (sh s) up j = ackBits a s up j
 | 0 => rfl
 | j + 1 => by rw [ackTo, ackBits, ack_same O A hs up j, onSh_ix O A hs]
theorem ack_body_same {a : Mod.Sk} {sh : Nat → List (Nat × Value)} (O : OnSh a.held sh) (A : ∀ s, s < 3 → AreS (sh s)) {s : Nat} (hs : s < 3) (up : Nat) : (⟨#[UInt8.ofNat (ackTo (sh s) up 3)]⟩ : ByteArray) = ackBody a s up := by
 rw [ack_same O A hs up 3]
 rfl
theorem commitFrom_end {a : Mod.Sk} {st q n : Nat} : ∀ (f : Nat) (out : List ByteArray), 120 ≤ n + out.length + f → ¬ (n + (a.commitFrom st q n f out).length < 120) ∨ a.ix st (q + (a.commitFrom st q n f out).length) = none
 | 0, out, h => .inl (by show ¬ (n + out.length < 120); omega)
 | f + 1, out, h => by
  by_cases hr : n + out.length < 120
  ·cases hi : a.ix st (q + out.length) with
   | none => rw [Mod.Sk.commitFrom_none hr hi]; exact .inr hi
   | some i =>
    rw [Mod.Sk.commitFrom_some hr hi]
    exact commitFrom_end f _ (by simp; omega)
  ·rw [Mod.Sk.commitFrom_stop hr]; exact .inl hr
theorem skMore_hold {a : Mod.Sk} (M : SkMore a) (s q : Nat) (b : ByteArray) (hb : b.size ≤ 20) : SkMore (holdIt a s q b) := by
 unfold holdIt
 split
 ·rename_i h
  obtain ⟨h1, h2, h3⟩ := h
  refine ⟨fun x hx => ?_, fun hr t ht c hc => ?_⟩
  ·simp only [List.mem_append, List.mem_singleton] at hx
   rcases hx with hx | rfl
   ·exact M.bod x hx
   ·exact hb
  ·simp only [List.mem_append, List.mem_singleton] at hc
   rcases hc with hc | hc
   ·exact M.nxt hr t ht c hc
   ·injection hc with e1 e2
    injection e2 with e2 e3
    subst e1
    omega
 ·exact M
theorem skMore_take {a : Mod.Sk} (M : SkMore a) (s : Nat) (b : ByteArray) (hs : s < 3) (hroom : a.count < 120) : SkMore (takeIt a s (a.commitFrom s ((a.logs s).length + 1) a.count 120 [b])) := by
 have hend := commitFrom_end (a := a) (st := s) (q := (a.logs s).length + 1) (n := a.count) 120 [b] (by omega)
 obtain ⟨got, hg⟩ : ∃ got, got = a.commitFrom s ((a.logs s).length + 1) a.count 120 [b] := ⟨_, rfl⟩
 rw [← hg] at hend ⊢
 have hcount : (takeIt a s got).count = a.count + got.length := grown_count a s hs got
 refine ⟨fun x hx => M.bod x (List.mem_filter.1 (show x ∈ a.held.filter _ from hx)).1, fun hr t ht c hc => ?_⟩
 rw [hcount] at hr
 have hc' : (t, ((takeIt a s got).logs t).length + 1, c) ∈ a.held := (List.mem_filter.1 (show _ ∈ a.held.filter _ from hc)).1
 by_cases e : t = s
 ·subst e
  rw [takeIt_logs, List.length_append] at hc'
  rcases hend with h | h
  ·exact h hr
  ·rw [show (a.logs t).length + 1 + got.length = (a.logs t).length + got.length + 1 by omega] at h
   exact ix_none h c hc'
 ·have hl : (takeIt a s got).logs t = a.logs t := by
   show (if t = s then _ else a.logs t) = _
   rw [if_neg e]
  rw [hl] at hc'
  exact M.nxt hroom t ht c hc'
theorem skMore_hello {a : Mod.Sk} (M : SkMore a) (e : Nat) : SkMore (helloIt a e) := by
 unfold helloIt helloHeld
 split
 ·exact ⟨fun x hx => by simp at hx, fun _ t _ c hc => by simp at hc⟩
 ·exact ⟨M.bod, M.nxt⟩
theorem commits_some {a : Mod.Sk} {s : Nat} {b : ByteArray} (hroom : a.count < 120) : a.commits 3 a.epoch s ((a.logs s).length + 1 : Nat) b = a.commitFrom s ((a.logs s).length + 1) a.count 120 [b] := by
 unfold Mod.Sk.commits
 rw [if_neg (by simp), if_neg (by omega)]
 simp
theorem commits_other {a : Mod.Sk} {s q : Nat} {b : ByteArray} (h : ¬ (q = (a.logs s).length + 1 ∧ a.count < 120)) : a.commits 3 a.epoch s q b = [] := by
 unfold Mod.Sk.commits
 by_cases h1 : q = (a.logs s).length + 1
 ·rw [if_neg (by simp [h1]), if_pos (by omega)]
 ·rw [if_pos (by right; right; simp; omega)]
theorem skAfter_take {a : Mod.Sk} {s : Nat} {b : ByteArray} (hroom : a.count < 120) : skAfter a 3 a.epoch s ((a.logs s).length + 1) b = takeIt a s (a.commitFrom s ((a.logs s).length + 1) a.count 120 [b]) := by
 unfold skAfter
 rw [commits_some hroom, if_neg (commitFrom_ne (by simp))]
theorem skAfter_hold {a : Mod.Sk} {s q : Nat} {b : ByteArray} (h : ¬ (q = (a.logs s).length + 1 ∧ a.count < 120)) : skAfter a 3 a.epoch s q b = holdIt a s q b := by
 unfold skAfter
 rw [commits_other h, if_pos rfl]
theorem skMore_after {a : Mod.Sk} (M : SkMore a) (s q : Nat) (b : ByteArray) (hs : s < 3) (hb : b.size ≤ 20) : SkMore (skAfter a 3 a.epoch s q b) := by
 by_cases h : q = (a.logs s).length + 1 ∧ a.count < 120
 ·obtain ⟨rfl, hr⟩ := h
  rw [skAfter_take hr]
  exact skMore_take M s b hs hr
 ·rw [skAfter_hold h]
  exact skMore_hold M s q b hb
theorem onSh_hold {a : Mod.Sk} {sh : Nat → List (Nat × Value)} (O : OnSh a.held sh) (s q : Nat) (b : ByteArray) (hs : s < 3) (hq : a.ix s q = none) : OnSh (a.held ++ [(s, q, b)]) (fun t => if t = s then putL (sh s) q (recS b) else sh t) := by
 intro t ht n c
 show look (if t = s then _ else sh t) _ = _ ↔ _
 rw [List.mem_append, List.mem_singleton]
 by_cases e : t = s
 ·subst e
  rw [if_pos rfl, look_putL]
  unfold putF
  by_cases h1 : (n : Int) = (q : Int)
  ·have h1' : n = q := by omega
   subst h1'
   rw [if_pos rfl]
   constructor
   ·intro h
    injection h with h
    unfold recS at h
    injection h with h
    have : c = b := by
     have := congrArg Array.toList h
     simp at this
     exact this.symm
    subst this
    exact .inr rfl
   ·rintro (h | h)
    ·exact absurd h (ix_none hq c)
    ·injection h with _ h
     injection h with _ h
     rw [h]
  ·rw [if_neg h1, O t ht n c]
   constructor
   ·exact .inl
   ·rintro (h | h)
    ·exact h
    ·injection h with _ h
     injection h with h _
     omega
 ·rw [if_neg e, O t ht n c]
  constructor
  ·exact .inl
  ·rintro (h | h)
   ·exact h
   ·injection h with h _
    exact absurd h e
theorem onSh_nil : OnSh [] (fun _ => []) := by
 intro t _ n c
 simp [look]
structure BoxAt (w : World) (cs : Array Value) (x : World) : Prop where
 box : x.heap[w.heap.size]? = some (.cells cs 41 (0, 0))
 bel : Below w.heap.size w x
theorem boxAt_new (w : World) (cs : Array Value) : BoxAt w cs (w.alloc (.cells cs 41)) := ⟨heap_alloc_new _ _, (Below.refl _ _).alloc (Nat.le_refl _) _⟩
theorem BoxAt.lt {w x : World} {cs : Array Value} (h : BoxAt w cs x) : w.heap.size < x.heap.size := lt_of_block h.box
theorem BoxAt.below {w x y : World} {cs : Array Value} (h : BoxAt w cs x) (hb : Below x.heap.size x y) : BoxAt w cs y :=
 ⟨(hb.block _ h.lt).trans h.box, h.bel.trans (hb.mono h.bel.size)⟩
theorem BoxAt.drewN {w x : World} {cs : Array Value} (h : BoxAt w cs x) (n : Nat) : BoxAt w cs (x.drewN n) := h.below (below_drewN (Below.refl _ _) n)
theorem onSh_small {a : Mod.Sk} {sh : Nat → List (Nat × Value)} (G : SkGood a) (O : OnSh a.held sh) (A : ∀ s, s < 3 → AreS (sh s)) {s : Nat} (hs : s < 3) (hsort : ((sh s).map (·.1)).Pairwise (· < ·)) : (sh s).length < 1000 := by
 have hin : ∀ n ∈ (sh s).map (·.1), (a.logs s).length + 1 ≤ n ∧ n ≤ (a.logs s).length + 4 := by
  intro n hn
  have hc : (look (sh s) (n : Int)).isSome = true := by rw [look_isSome]; simpa using hn
  rcases areS_look (A s hs) (n : Int) with ⟨b, hl⟩ | hl
  ·have hm := (O s hs n b).1 hl
   exact (G.held _ hm).2
  ·rw [hl] at hc; cases hc
 have h1 : (((sh s).map (·.1)).map fun n => n - (a.logs s).length - 1).Nodup := by
  rw [List.Nodup, List.pairwise_map]
  refine hsort.imp_of_mem (fun {x y} hx hy hlt e => ?_)
  have gx := hin x hx
  have gy := hin y hy
  omega
 have h2 := nodup_lt 4 _ h1 (fun n hn => by
  obtain ⟨m, hm, rfl⟩ := List.mem_map.1 hn
  have := hin m hm
  omega)
 simp at h2
 omega
end Go.Proofs.YtamafdcnbcoegaaGreat
namespace Go.Proofs.YtamafdcnbcoegaaGreat
open Go.RowKit
end Go.Proofs.YtamafdcnbcoegaaGreat
namespace Go.Proofs.YtamafdcnbcoegaaGreat
open Go.RowKit
theorem numbersOf_any (e : Nat) (w : World) : Calls Tryz.prog 107 #[.int .i64 e] w fun r w' => r = .returned (.agg #[.int .i64 e, .int .i64 0, .int .i64 0]) ∧ Below w.heap.size w w' := by
 go_enter Tryz.func107, Tryz.ntmps107
 go_wp2
 refine bodyPost_ret (v := .agg #[.int .i64 e, .int .i64 0, .int .i64 0]) (by simp [results, Tryz.results107, go_sem]) rfl ⟨rfl, ?_⟩
 exact (Below.refl _ _).alloc (Nat.le_refl _) _
set_option maxHeartbeats 1000000 in
theorem resetOf_any (e : Nat) (w : World) : Calls Tryz.prog 159 #[.int .i64 e] w fun r w' => r = .returned (.agg #[.int .i64 5, .int .i64 e, .int .i64 0, .int .i64 0, .string ⟨#[]⟩]) ∧ Below w.heap.size w w' := by
 go_enter Tryz.func159, Tryz.ntmps159
 go_wp2
 refine bodyPost_ret (v := .agg #[.int .i64 5, .int .i64 e, .int .i64 0, .int .i64 0, .string ⟨#[]⟩]) (by simp [results, Tryz.results159, go_sem]) rfl ⟨rfl, ?_⟩
 first | exact (Below.refl _ _).alloc (Nat.le_refl _) _ | exact below_five ((Below.refl _ _).alloc (Nat.le_refl _) _) _ _ _ _ _
end Go.Proofs.YtamafdcnbcoegaaGreat
namespace Go.Proofs.YtamafdcnbcoegaaGreat
open Go.RowKit
theorem pkStep_ep {w : World} {p e : Nat} {logs : Nat → List ByteArray} {sh : Nat → List (Nat × Value)} {st : Mod.Stv} {c : Sv} (H : PkAt w p e logs sh st c) (e2 : Nat) (he : e2 ≤ 2147483647) :
  PkStep w (w.setCell ⟨p, 1, none⟩ (.int .i64 e2)) p e2 logs sh st c := by
 have hpl : ∀ j, j < 3 → (c.lv j).ownBlock ≠ some p := fun j hj => (H.ks.lgs j hj).ne H.ks.blk (by decide)
 have hps : ∀ j, j < 3 → ¬ ShU (c.nv j) (c.mv j) p := fun j hj => (H.ks.shs j hj).ne H.ks.blk (by decide)
 have hs := far_set w p 1 (.int .i64 e2)
 have hget : ∀ j, j ≠ 1 → (c.arr.setIfInBounds 1 (.int .i64 e2))[j]? = c.arr[j]? := fun j hj => Array.getElem?_setIfInBounds_ne (fun e => hj e.symm)
 have h1 : 1 < c.arr.size := by rw [H.ks.sz]; omega
 refine ⟨{ c with arr := c.arr.setIfInBounds 1 (.int .i64 e2) }, ⟨⟨blk_set H.ks.blk, by simpa using H.ks.sz, ?_, ?_, ?_, ?_, ?_, ?_, ?_, ?_, H.ks.are, H.ks.apl, H.ks.aps, H.ks.cnt, he⟩, H.stt.far hs (fun k hk h => H.sep k (.inl h) hk), H.rl.far hs (fun g hg h => (H.sepr g hg).1 (.inl h)), H.len⟩, hs.mono (fun k _ h => .inl (.inl h)), fun k hk => .inl hk, rfl, rfl⟩
 ·rw [hget _ (by omega)]; exact H.ks.a0
 ·simp [h1]
 ·intro j hj; rw [hget _ (by omega)]; exact H.ks.al j hj
 ·intro j hj; rw [hget _ (by omega)]; exact H.ks.an j hj
 ·intro j hj; rw [hget _ (by omega)]; exact H.ks.am j hj
 ·rw [hget _ (by omega)]; exact H.ks.ar
 ·intro j hj; exact (H.ks.lgs j hj).far hs (fun g hg h => hpl j hj (by rw [hg, h]))
 ·intro j hj; exact (H.ks.shs j hj).far hs (fun k hk h => hps j hj (by rw [← h]; exact hk))
theorem helloIt_same (a : Mod.Sk) : helloIt a a.epoch = a := by
 unfold helloIt helloHeld
 rw [if_neg (by omega)]
theorem onSh_cleared {sh : Nat → List (Nat × Value)} : OnSh [] (fun t => if t < 3 then [] else sh t) := by
 intro t ht n c
 show look (if t < 3 then [] else sh t) _ = _ ↔ _
 rw [if_pos ht]
 simp [look]
end Go.Proofs.YtamafdcnbcoegaaGreat
namespace Go.Proofs.YtamafdcnbcoegaaGreat
open Go.RowKit
theorem size_frame : (Tryz.prog.info? 41).map (·.size) = some 5 := by kernel_rfl
def zFr : Array Value := #[.int .i64 0, .int .i64 0, .int .i64 0, .int .i64 0, .string ⟨#[]⟩]
structure RsAt (w : World) (cs rs : Array Value) (x : World) : Prop where
 box : x.heap[w.heap.size]? = some (.cells cs 41 (0, 0))
 res : x.heap[w.heap.size + 1]? = some (.cells rs 41 (0, 0))
 bel : Below w.heap.size w x
theorem rsAt_new (w : World) (cs rs : Array Value) : RsAt w cs rs ((w.alloc (.cells cs 41)).alloc (.cells rs 41)) :=
 ⟨(alloc2 _ _ _).1, (alloc2 _ _ _).2.1, (alloc2 _ _ _).2.2⟩
theorem RsAt.lt {w x : World} {cs rs : Array Value} (h : RsAt w cs rs x) : w.heap.size + 1 < x.heap.size := lt_of_block h.res
theorem RsAt.below {w x y : World} {cs rs : Array Value} (h : RsAt w cs rs x) (hb : Below x.heap.size x y) : RsAt w cs rs y :=
 ⟨(hb.block _ (by have := h.lt; omega)).trans h.box, (hb.block _ h.lt).trans h.res, h.bel.trans (hb.mono h.bel.size)⟩
theorem RsAt.drewN {w x : World} {cs rs : Array Value} (h : RsAt w cs rs x) (n : Nat) : RsAt w cs rs (x.drewN n) := h.below (below_drewN (Below.refl _ _) n)
set_option maxRecDepth 100000 in
set_option maxHeartbeats 4000000 in
theorem answerData_other {w : World} {p : Nat} {a : Mod.Sk} {sh : Nat → List (Nat × Value)} {st : Mod.Stv} {c : Sv} (H : PkAt w p a.epoch a.logs sh st c) (e : Nat) (s q : Int) (b : ByteArray) (hne : e ≠ a.epoch) :
  Calls Tryz.prog 110 #[ptrTo p, .agg #[.int .i64 3, .int .i64 e, .int .i64 s, .int .i64 q, .string b]] w fun r z =>
   r = .returned (.tuple #[.agg #[.int .i64 5, .int .i64 (max e a.epoch : Nat), .int .i64 0, .int .i64 0, .string ⟨#[]⟩], .int .i64 0]) ∧ Below w.heap.size w z := by
 have c1 : w.cell? ⟨p, 1, none⟩ = some (.int .i64 a.epoch) := by rw [blk_cell H.ks.blk, H.ks.a1]
 have hpl := lt_of_block H.ks.blk
 obtain ⟨ep, hep⟩ : ∃ ep, ep = a.epoch := ⟨_, rfl⟩
 rw [← hep] at c1 hne ⊢
 have hneb : ((e : Int) != (ep : Int)) = true := by simp; omega
 obtain ⟨m, hm⟩ : ∃ m, m = max e ep := ⟨_, rfl⟩
 have hmI : max (e : Int) (ep : Int) = (m : Int) := by omega
 rw [← hm]
 have hR := fun y => hide (resetOf_any m y)
 have DD := hide (rsAt_new w #[.int .i64 3, .int .i64 e, .int .i64 s, .int .i64 q, .string b] zFr)
 clear H hep hm
 unfold ptrTo
 go_enter Tryz.func110, Tryz.ntmps110
 go_upto_region 1 with fail
 refine wp_world (RsAt w #[.int .i64 3, .int .i64 e, .int .i64 s, .int .i64 q, .string b] zFr) (unhide DD) ?_
 clear DD
 intro x X
 have y1 := blk_cell (i := 1) X.box
 simp at y1
 have z1 := (X.bel.cell (p := ⟨p, 1, none⟩) hpl).trans c1
 have HX := hide X
 clear X
 go_quiet (fail)
 go_upto_region 2 with fail
 refine wp_world (RsAt w #[.int .i64 3, .int .i64 e, .int .i64 s, .int .i64 q, .string b] zFr) ((unhide HX).drewN _) ?_
 clear HX y1 z1
 intro x2 X
 have HX := hide X
 have hgx := X.lt
 clear X
 refine wp_region_foot (by kernel_rfl)
  [fun v _ => v = .pointer (some ⟨w.heap.size, 1, none⟩), fun v _ => v = .int .i64 e, fun v _ => v = .pointer (some ⟨p, 0, none⟩), fun v _ => v = .pointer (some ⟨p, 0, none⟩), fun v _ => v = .pointer (some ⟨p, 1, none⟩), fun v _ => v = .int .i64 ep, fun v _ => v = .int .i64 m,
   fun v _ => v = .agg #[.int .i64 5, .int .i64 m, .int .i64 0, .int .i64 0, .string ⟨#[]⟩], fun _ z => z.heap[w.heap.size + 1]? = some (.cells #[.int .i64 5, .int .i64 m, .int .i64 0, .int .i64 0, .string ⟨#[]⟩] 41 (0, 0)), fun v _ => v = .int .i64 0]
  [[(3, none)], [(15, some 0)], [(0, none)], [(17, some 2)], [(18, some 3)], [(19, some 4)], [(16, some 1), (20, some 5)], [(21, some 6)], [(4, none), (22, some 7)], []] [some 15, some 16, some 17, some 18, some 19, some 20, some 21, some 22, none, some 5] [false, false, false, false, false, true, false, false, false, false, false, false, false, false, false, true, true, true, true, true, true, true, true, false, false, false, false, false, false, false, false, false, false, false, false, false, false, false, false, false, false, false, false, false, false, false, false, false, false, false, false, false]
  [(8, fun k => k = w.heap.size + 1)]
  (by kernel_rfl) (by kernel_rfl) (by kernel_rfl) (by kernel_rfl) (by kernel_rfl) ?_ ?_ ?_ ?_
 ·repeat' (first | exact stable_eq _ | exact stable_blk _ _ | exact trivial | apply And.intro)
 ·repeat' (first | exact trivial | exact .inl rfl | exact .inr (.inr (stableF_eq _ _)) | apply And.intro)
 ·refine ⟨?_, ?_, ?_, ?_, ?_, ?_, ?_, ?_, ?_, ?_, trivial⟩
  all_goals
   intro a' z hb hf
   have zb := hb.blk (unhide HX).box (footBut_no (by intro q hq; simp at hq; subst hq; intro (h : w.heap.size = w.heap.size + 1); omega))
   have y1 : z.cell? ⟨w.heap.size, 1, none⟩ = some (.int .i64 e) := blk_cell (i := 1) zb
   have z1 : z.cell? ⟨p, 1, none⟩ = some (.int .i64 ep) := by
    have hr := hb.rest p (by omega) (footBut_no (by intro q hq; simp at hq; subst hq; intro (h : p = w.heap.size + 1); omega))
    have := ((unhide HX).bel.cell (p := ⟨p, 1, none⟩) hpl).trans c1
    unfold World.cell? at this ⊢
    simp only at this ⊢
    rw [hr]
    exact this
   clear zb
   simp only [PlanFacts, List.getD_cons_zero, List.getD_cons_succ, Array.getD_eq_getD_getElem?] at hf
   try simp at hf
  iterate 7
   ·clear hb
    go_simp
    exact ⟨_, rfl, Far.refl _ _, rfl⟩
  ·clear hb
   go_simp
   refine (unhide (hR z)).mono ?_
   rintro r z2 ⟨rfl, hb2⟩
   exact ⟨_, rfl, far_below hb2, rfl⟩
  ·have q0 := hb.blk (unhide HX).res (by
    rintro ⟨q, hq, g1, g2, g3⟩
    simp at hq
    subst hq
    exact g1 rfl)
   clear hb
   rw [if_pos (by rfl)]
   refine wp_store_row 41 (.tmp 4) (.tmp 22) rfl (w.heap.size + 1) #[.int .i64 5, .int .i64 m, .int .i64 0, .int .i64 0, .string ⟨#[]⟩] (by simp [Act.eval, hf]) (by simp [Act.eval, hf]) 41 _ q0 (by rw [size_frame]; rfl) rfl (by rw [Array.all_eq_true_iff_forall_mem]; intro u hu; simp at hu; rcases hu with rfl | rfl | rfl | rfl <;> rfl) ?_
   exact ⟨_, rfl, footOf_of (.head _) (far_setRow _ _ _), setRow_heap _ _ _ _ _ _ q0⟩
  ·clear hb
   go_simp
   exact ⟨_, rfl, Far.refl _ _, rfl⟩
 ·intro f z hF hwd
  have h8 := hwd.2.2.2.2.2.2.2.2.1
  have h9 := hwd.2.2.2.2.2.2.2.2.2.1
  have q0 : z.cell? ⟨w.heap.size + 1, 0, none⟩ = some (.int .i64 5) := blk_cell (i := 0) h8
  have q1 : z.cell? ⟨w.heap.size + 1, 1, none⟩ = some (.int .i64 m) := blk_cell (i := 1) h8
  have q2 : z.cell? ⟨w.heap.size + 1, 2, none⟩ = some (.int .i64 0) := blk_cell (i := 2) h8
  have q3 : z.cell? ⟨w.heap.size + 1, 3, none⟩ = some (.int .i64 0) := blk_cell (i := 3) h8
  have q4 : z.cell? ⟨w.heap.size + 1, 4, none⟩ = some (.string ⟨#[]⟩) := blk_cell (i := 4) h8
  have hbz : Below w.heap.size w z := (unhide HX).bel.trans (hF.below (B := w.heap.size) (by omega) (fun k hk h => by
   obtain ⟨q, hq, h⟩ := h
   simp at hq
   subst hq
   have h : k = w.heap.size + 1 := h
   omega))
  have HBZ := hide hbz
  clear hwd hF h8 hbz
  simp only [mergeT, h9]
  generalize f 15 = x15
  generalize f 16 = x16
  generalize f 17 = x17
  generalize f 18 = x18
  generalize f 19 = x19
  generalize f 20 = x20
  generalize f 21 = x21
  generalize f 22 = x22
  go_simp
  go_wp2
  exact bodyPost_ret (v := .tuple #[.agg #[.int .i64 5, .int .i64 m, .int .i64 0, .int .i64 0, .string ⟨#[]⟩], .int .i64 0]) (by simp [results, Tryz.results110, go_sem, q0, q1, q2, q3, q4]) rfl ⟨rfl, unhide HBZ⟩
end Go.Proofs.YtamafdcnbcoegaaGreat
namespace Go.Proofs.YtamafdcnbcoegaaGreat
open Go.RowKit
theorem wel_bytes (a b c : Int) : (⟨(Wire.le4 a ++ Wire.le4 b ++ Wire.le4 c).toArray⟩ : ByteArray) = le4S a ++ le4S b ++ le4S c := by
 rw [← wel_data]
set_option maxRecDepth 100000 in
set_option maxHeartbeats 4000000 in
theorem answerHello_old {w : World} {p : Nat} {a : Mod.Sk} {sh : Nat → List (Nat × Value)} {st : Mod.Stv} {c : Sv} (H : PkAt w p a.epoch a.logs sh st c) (e : Nat) (s q : Int) (b : ByteArray) (hlt : e < a.epoch) :
  Calls Tryz.prog 109 #[ptrTo p, .agg #[.int .i64 1, .int .i64 e, .int .i64 s, .int .i64 q, .string b]] w fun r z =>
   r = .returned (.tuple #[.agg #[.int .i64 5, .int .i64 a.epoch, .int .i64 0, .int .i64 0, .string ⟨#[]⟩], .int .i64 0]) ∧ Below w.heap.size w z := by
 have c1 : w.cell? ⟨p, 1, none⟩ = some (.int .i64 a.epoch) := by rw [blk_cell H.ks.blk, H.ks.a1]
 have hpl := lt_of_block H.ks.blk
 obtain ⟨ep, hep⟩ : ∃ ep, ep = a.epoch := ⟨_, rfl⟩
 rw [← hep] at c1 hlt ⊢
 have hltI : (e : Int) < (ep : Int) := by omega
 have hR := fun y => hide (resetOf_any ep y)
 have DD := hide (rsAt_new w #[.int .i64 1, .int .i64 e, .int .i64 s, .int .i64 q, .string b] zFr)
 clear H hep hlt
 unfold ptrTo
 go_enter Tryz.func109, Tryz.ntmps109
 go_upto_region 1 with fail
 refine wp_world (RsAt w #[.int .i64 1, .int .i64 e, .int .i64 s, .int .i64 q, .string b] zFr) (unhide DD) ?_
 clear DD
 intro x X
 have y1 := blk_cell (i := 1) X.box
 simp at y1
 have z1 := (X.bel.cell (p := ⟨p, 1, none⟩) hpl).trans c1
 have HX := hide X
 clear X
 go_quiet (fail)
 go_upto_region 2 with fail
 refine wp_world (RsAt w #[.int .i64 1, .int .i64 e, .int .i64 s, .int .i64 q, .string b] zFr) ((unhide HX).drewN _) ?_
 clear HX y1 z1
 intro x2 X
 have z1 := (X.bel.cell (p := ⟨p, 1, none⟩) hpl).trans c1
 have HX := hide X
 have hpx : p < x2.heap.size := Nat.lt_of_lt_of_le hpl X.bel.size
 clear X
 go_wp2_with (go_at_call 159; refine (unhide (hR _)).mono ?_; rintro r y ⟨rfl, hb⟩; have X := (unhide HX).below hb; have q0 := blk_cell (i := 0) X.res; have q1 := blk_cell (i := 1) X.res; have q2 := blk_cell (i := 2) X.res; have q3 := blk_cell (i := 3) X.res; have q4 := blk_cell (i := 4) X.res; have f0 := blk_free (i := 0) X.res; have f1 := blk_free (i := 1) X.res; have f2 := blk_free (i := 2) X.res; have f3 := blk_free (i := 3) X.res; have f4 := blk_free (i := 4) X.res; simp [zFr] at q0 q1 q2 q3 q4; have HXX := hide X; clear X hb)
 refine bodyPost_ret (v := .tuple #[.agg #[.int .i64 5, .int .i64 ep, .int .i64 0, .int .i64 0, .string ⟨#[]⟩], .int .i64 0]) (by simp [results, Tryz.results109, go_sem, *]) rfl ⟨rfl, ?_⟩
 have hb := (unhide HXX).bel
 refine ((((hb.setCell (p := ⟨w.heap.size + 1, 0, none⟩) (by simp) _).setCell (p := ⟨w.heap.size + 1, 1, none⟩) (by simp) _).setCell (p := ⟨w.heap.size + 1, 2, none⟩) (by simp) _).setCell (p := ⟨w.heap.size + 1, 3, none⟩) (by simp) _).setCell (p := ⟨w.heap.size + 1, 4, none⟩) (by simp) _
end Go.Proofs.YtamafdcnbcoegaaGreat
namespace Go.Proofs.YtamafdcnbcoegaaGreat
open Go.RowKit
theorem framesOut_one {B g : Nat} {z : World} {v : Value} {l : List UInt8} (hv : Owns B z v l) (hB : B ≤ g) (hg : z.heap[g]? = some (.cells #[v] 44 (0, 0))) : FramesOut B z (.slice (some ⟨g, 0, none⟩) 1 1) [v] [⟨l.toArray⟩] (fun _ => False) := by
 refine ⟨rfl, ⟨by simp, .inr ⟨g, 1, _, rfl, hB, hg, by simp, by unfold maxLen; omega, by simp, by simp⟩⟩, ?_, ?_, fun _ _ h => h⟩
 ·intro j u hj
  cases j with
  | zero => simp at hj; subst hj; exact hv
  | succ j => simp at hj
 ·intro i j u u' hi hj hne
  cases i with
  | zero =>
   cases j with
   | zero => exact absurd rfl hne
   | succ j => simp at hj
  | succ i => simp at hi
theorem framesOut_none (B : Nat) (z : World) : FramesOut B z (.slice none 0 0) [] [] (fun _ => False) :=
 ⟨rfl, World.ownsRow_nil _ _ _ _, fun j v hj => by simp at hj, fun i j u v hi => by simp at hi, fun _ _ h => h⟩
end Go.Proofs.YtamafdcnbcoegaaGreat
namespace Go.Proofs.YtamafdcnbcoegaaGreat
open Go.RowKit
theorem fence_proper (n : Nat) (hn : n ≤ 2147483647) : Wire.proper 5 n 0 0 ⟨#[]⟩ = true := by
 simp [Wire.proper, Wire.isNum, ByteArray.size]; omega
theorem reads_parts {l : List UInt8} (hr : Wire.reads l = true) : ∃ (k : Int) (e s q : Nat) (b : ByteArray), Wire.kindOf l = k ∧ Wire.epochOf l = e ∧ Wire.streamOf l = s ∧ Wire.seqOf l = q ∧ Wire.bodyOf l = b ∧ e ≤ 2147483647 ∧ s < 3 ∧ q ≤ 2147483647 ∧ b.size ≤ 20 := by
 have hp := hr
 unfold Wire.reads at hp
 rw [Bool.and_eq_true] at hp
 obtain ⟨_, h2, h3, h4, h5⟩ := proper_small hp.2
 exact ⟨_, (Wire.epochOf l).toNat, (Wire.streamOf l).toNat, (Wire.seqOf l).toNat, _, rfl, by omega, by omega, by omega, rfl, by omega, by omega, by omega, h5⟩
theorem skSays_yes {a : Mod.Sk} {l : List UInt8} (hr : Wire.reads l = true) {k : Int} {e s q : Nat} {b : ByteArray} (h1 : Wire.kindOf l = k) (h2 : Wire.epochOf l = e) (h3 : Wire.streamOf l = s) (h4 : Wire.seqOf l = q) (h5 : Wire.bodyOf l = b) :
  skSays a l = (0, skReply a k e s q b) := by
 unfold skSays
 rw [hr, h1, h2, h3, h4, h5]
 rfl
theorem skSays_no {a : Mod.Sk} {l : List UInt8} (hr : Wire.reads l = false) : skSays a l = (1, a, []) := by
 unfold skSays
 rw [hr]
 rfl
theorem skMore_reply {a : Mod.Sk} (M : SkMore a) (k : Int) (e s q : Nat) (b : ByteArray) (hs : s < 3) (hb : b.size ≤ 20) : SkMore (skReply a k e s q b).1 := by
 unfold skReply
 split
 ·split
  ·exact M
  ·exact skMore_hello M _
 ·split
  ·rename_i h3
   subst h3
   split
   ·rename_i he
    rw [he]
    exact skMore_after M s q b hs hb
   ·exact M
  ·exact M
theorem skMore_says {a : Mod.Sk} (M : SkMore a) (l : List UInt8) : SkMore (skSays a l).2.1 := by
 cases hr : Wire.reads l
 ·rw [skSays_no hr]; exact M
 ·obtain ⟨k, e, s, q, b, h1, h2, h3, h4, h5, g1, g2, g3, g4⟩ := reads_parts hr
  rw [skSays_yes hr h1 h2 h3 h4 h5]
  exact skMore_reply M k e s q b g2 g4
end Go.Proofs.YtamafdcnbcoegaaGreat
namespace Go.Proofs.YtamafdcnbcoegaaGreat
open Go.RowKit
theorem sinkEpoch_any {w : World} {p e : Nat} {logs : Nat → List ByteArray} {sh : Nat → List (Nat × Value)} {st : Mod.Stv} {c : Sv} (H : PkAt w p e logs sh st c) :
  Calls Tryz.prog 67 #[ptrTo p] w fun r w' => r = .returned (.int .i64 e) ∧ w' = w := by
 have c1 : w.cell? ⟨p, 1, none⟩ = some (.int .i64 e) := by rw [blk_cell H.ks.blk, H.ks.a1]
 clear H
 unfold ptrTo
 go_enter Tryz.func67, Tryz.ntmps67
 go_wp2
 go_ret
 exact ⟨rfl, rfl⟩
theorem cloneStrs_any {w : World} {v : Value} {l : List ByteArray} (h : RowO w 9 1 v l.length (strs l)) (hl : l.length ≤ 1000) :
  Calls Tryz.prog 100 #[v] w fun r w' => ∃ v', r = .returned v' ∧ w'.ownsRow w.heap.size 9 1 v' l.length (strs l) ∧ Below w.heap.size w w' := by
 obtain ⟨_, h2⟩ := h
 rcases h2 with ⟨rfl, hz⟩ | ⟨g, o, cap, cur, rfl, hh, hc, hm, hs, ht⟩
 ·obtain rfl : l = [] := List.length_eq_zero_iff.1 hz
  refine (Tryz.slices_Clone_string_nil 0 0 w).mono ?_
  rintro r y ⟨rfl, rfl⟩
  exact ⟨_, rfl, World.ownsRow_nil _ _ _ _, Below.refl _ _⟩
 ·refine (Tryz.slices_Clone_string g o l.length cap l w (Nat.le_refl _) (by omega) (fun j hj => ?_)).mono ?_
  ·have h0 : ((cur.toList.drop o).take (l.length * 1))[j]? = (strs l)[j]? := by rw [ht]
   rw [List.getElem?_take, if_pos (by omega), List.getElem?_drop] at h0
   rw [blk_cell hh, ← Array.getElem?_toList, h0]
   simp [strs, hj, List.getD_eq_getElem?_getD]
  ·rintro r y ⟨v', rfl, hr, _, hb⟩
   exact ⟨v', rfl, by rw [List.take_of_length_le (Nat.le_refl _)] at hr; exact hr, hb⟩
end Go.Proofs.YtamafdcnbcoegaaGreat
namespace Go.Proofs.YtamafdcnbcoegaaGreat
namespace Mod
def sec (L : List UInt8) (k : Nat) : List UInt8 := (L.drop (k * 64)).take 64
theorem length_sec {L : List UInt8} {k : Nat} (h : k * 64 + 64 ≤ L.length) : (sec L k).length = 64 := by
 simp [sec]; omega
theorem sec_set {L s : List UInt8} {k : Nat} (hs : s.length = 64) (hk : 64 * k + 64 ≤ L.length) : sec (setSec L k s) k = s := by
 unfold sec setSec
 have h1 : (L.take (64 * k)).length = k * 64 := by simp; omega
 rw [List.append_assoc, List.drop_append_of_le_length (by omega), List.drop_of_length_le (by omega), List.nil_append, List.take_append_of_le_length (by omega), List.take_of_length_le (by omega)]
theorem sec_other {L s : List UInt8} {k j : Nat} (hs : s.length = 64) (hk : 64 * k + 64 ≤ L.length) (h : j ≠ k) : sec (setSec L k s) j = sec L j := by
 unfold sec
 apply List.ext_getElem?
 intro i
 rw [List.getElem?_take, List.getElem?_take]
 split
 ·rename_i hi
  rw [List.getElem?_drop, List.getElem?_drop]
  unfold setSec
  rw [List.append_assoc]
  by_cases hjk : j < k
  ·rw [List.getElem?_append_left (by simp; omega), List.getElem?_take, if_pos (by omega)]
  ·have hl : (L.take (64 * k)).length = 64 * k := by simp; omega
   rw [List.getElem?_append_right (by omega), hl, List.getElem?_append_right (by omega), hs, List.getElem?_drop]
   congr 1
   omega
 ·rfl
def nought : List UInt8 := List.replicate 64 0
def opOf (S : List UInt8) : Nat := (Wire.numAt S 0).toNat
def ctOf (S : List UInt8) : Nat := (Wire.numAt S 4).toNat + (Wire.numAt S 8).toNat * 4294967296
theorem opOf_lt (S : List UInt8) : opOf S < 4294967296 := by have := Wire.numAt_range S 0; unfold opOf; omega
theorem ctOf_lt (S : List UInt8) : ctOf S < 18446744073709551616 := by have := Wire.numAt_range S 4; have := Wire.numAt_range S 8; unfold ctOf; omega
structure Hd where
 o : Nat
 c : Nat
 a : Nat
 b : Nat
 d : Nat
def hd0 : Hd := ⟨0, 0, 0, 0, 0⟩
def hdOf (S : List UInt8) : Hd := ⟨opOf S, ctOf S, (Wire.numAt S 12).toNat, (Wire.numAt S 16).toNat, (Wire.numAt S 20).toNat⟩
def sealH (h : Hd) : List UInt8 := sealB h.o h.c (headIn h.a h.b h.d)
def Hd.small (h : Hd) : Bool := decide (h.a ≤ 2147483647) && (decide (h.b ≤ 2147483647) && decide (h.d ≤ 2147483647))
def isStamp (o : Nat) : Bool := decide (1 ≤ o) && decide (o ≤ 1073741824)
def headOk (S : List UInt8) : Bool := decide (S = nought) || ((hdOf S).small && (isStamp (opOf S) && decide (sealH (hdOf S) = S)))
def headIs (S : List UInt8) : Hd := if S = nought then hd0 else hdOf S
theorem numAt_le4 {n : Nat} (h : n < 4294967296) (p q : List UInt8) : Wire.numAt (p ++ (Wire.le4 (n : Int) ++ q)) p.length = n := by
 unfold Wire.numAt Wire.le4
 have e := Wire.num4_le4 (n := (n : Int)) (by omega) (by omega)
 conv => rhs; rw [← e]
 congr 1 <;> simp [List.getD_eq_getElem?_getD]
theorem stamp_split (o c : Nat) (r : List UInt8) : stampB o c ++ r = Wire.le4 (o : Int) ++ (Wire.le4 ((c % 4294967296 : Nat) : Int) ++ (Wire.le4 ((c / 4294967296 : Nat) : Int) ++ r)) := by
 unfold stampB; simp
theorem opOf_seal {o c : Nat} {ins : List UInt8} (ho : o < 4294967296) : opOf (sealB o c ins) = o := by
 unfold opOf sealB
 rw [List.append_assoc, stamp_split]
 have := numAt_le4 ho [] (Wire.le4 ((c % 4294967296 : Nat) : Int) ++ (Wire.le4 ((c / 4294967296 : Nat) : Int) ++ ((ins ++ List.replicate (40 - ins.length) 0) ++ stampB o c)))
 simp only [List.nil_append, List.length_nil] at this
 rw [this]
 omega
theorem ctOf_seal {o c : Nat} {ins : List UInt8} (hc : c < 18446744073709551616) : ctOf (sealB o c ins) = c := by
 unfold ctOf sealB
 rw [List.append_assoc, stamp_split]
 have h1 := numAt_le4 (n := c % 4294967296) (by omega) (Wire.le4 (o : Int)) (Wire.le4 ((c / 4294967296 : Nat) : Int) ++ ((ins ++ List.replicate (40 - ins.length) 0) ++ stampB o c))
 have h2 := numAt_le4 (n := c / 4294967296) (by omega) (Wire.le4 (o : Int) ++ Wire.le4 ((c % 4294967296 : Nat) : Int)) ((ins ++ List.replicate (40 - ins.length) 0) ++ stampB o c)
 rw [Wire.length_le4] at h1
 rw [List.length_append, Wire.length_le4, Wire.length_le4, List.append_assoc] at h2
 rw [h1, h2]
 omega
theorem inside_at {o c n : Nat} {p q : List UInt8} (hn : n < 4294967296) : Wire.numAt (sealB o c (p ++ (Wire.le4 (n : Int) ++ q))) (12 + p.length) = n := by
 unfold sealB
 have h := numAt_le4 hn (stampB o c ++ p) (q ++ (List.replicate (40 - (p ++ (Wire.le4 (n : Int) ++ q)).length) 0 ++ stampB o c))
 have e : (stampB o c ++ p).length = 12 + p.length := by rw [List.length_append, length_stampB]
 rw [e] at h
 conv => rhs; rw [← h]
 congr 1
 simp
theorem hdOf_seal {h : Hd} (ho : h.o < 4294967296) (hc : h.c < 18446744073709551616) (ha : h.a < 4294967296) (hb : h.b < 4294967296) (hd : h.d < 4294967296) : hdOf (sealH h) = h := by
 unfold hdOf sealH
 have e1 : headIn h.a h.b h.d = [] ++ (Wire.le4 (h.a : Int) ++ (Wire.le4 (h.b : Int) ++ Wire.le4 (h.d : Int))) := by unfold headIn; simp
 have e2 : headIn h.a h.b h.d = Wire.le4 (h.a : Int) ++ (Wire.le4 (h.b : Int) ++ Wire.le4 (h.d : Int)) := by unfold headIn; simp
 have e3 : headIn h.a h.b h.d = (Wire.le4 (h.a : Int) ++ Wire.le4 (h.b : Int)) ++ (Wire.le4 (h.d : Int) ++ []) := by unfold headIn; simp
 have f1 := inside_at (o := h.o) (c := h.c) (p := []) (q := Wire.le4 (h.b : Int) ++ Wire.le4 (h.d : Int)) ha
 have f2 := inside_at (o := h.o) (c := h.c) (p := Wire.le4 (h.a : Int)) (q := Wire.le4 (h.d : Int)) hb
 have f3 := inside_at (o := h.o) (c := h.c) (p := Wire.le4 (h.a : Int) ++ Wire.le4 (h.b : Int)) (q := []) hd
 rw [← e1] at f1
 rw [← e2, Wire.length_le4] at f2
 rw [← e3, List.length_append, Wire.length_le4, Wire.length_le4] at f3
 simp only [List.length_nil] at f1
 rw [opOf_seal ho, ctOf_seal hc, f1, f2, f3]
 simp
theorem length_sealH (h : Hd) : (sealH h).length = 64 := length_sealB _ _ (by rw [length_headIn]; omega)
theorem opOf_nought : opOf nought = 0 := by decide
theorem sealH_ne {h : Hd} (ho : 1 ≤ h.o) (ho2 : h.o < 4294967296) : sealH h ≠ nought := by
 intro e
 have := opOf_seal (c := h.c) (ins := headIn h.a h.b h.d) ho2
 unfold sealH at e
 rw [e, opOf_nought] at this
 omega
theorem headOk_seal {h : Hd} (hs : isStamp h.o = true) (hc : h.c < 18446744073709551616) (hn : h.small = true) : headOk (sealH h) = true ∧ headIs (sealH h) = h := by
 have ho : 1 ≤ h.o ∧ h.o ≤ 1073741824 := by simpa [isStamp] using hs
 have hb : h.a ≤ 2147483647 ∧ h.b ≤ 2147483647 ∧ h.d ≤ 2147483647 := by simpa [Hd.small] using hn
 have e := hdOf_seal (h := h) (by omega) hc (by omega) (by omega) (by omega)
 have e0 := opOf_seal (c := h.c) (ins := headIn h.a h.b h.d) (o := h.o) (by omega)
 refine ⟨?_, ?_⟩
 ·unfold headOk
  rw [e, hn]
  rw [show opOf (sealH h) = h.o from e0, hs]
  simp
 ·unfold headIs
  rw [if_neg (sealH_ne ho.1 (by omega)), e]
theorem headOk_nought : headOk nought = true ∧ headIs nought = hd0 := by simp [headOk, headIs]
theorem headOk_some {S : List UInt8} (h : headOk S = true) : (S = nought ∧ headIs S = hd0) ∨ (isStamp (headIs S).o = true ∧ (headIs S).c < 18446744073709551616 ∧ (headIs S).small = true ∧ S = sealH (headIs S)) := by
 unfold headOk at h
 by_cases e : S = nought
 ·exact .inl ⟨e, by unfold headIs; rw [if_pos e]⟩
 ·right
  have h' : (hdOf S).small = true ∧ isStamp (opOf S) = true ∧ sealH (hdOf S) = S := by simpa [e] using h
  unfold headIs
  rw [if_neg e]
  exact ⟨h'.2.1, ctOf_lt S, h'.1, h'.2.2.symm⟩
def newer2 (h g : Hd) : Bool := if h.o ≠ g.o then decide (g.o < h.o) else decide (g.c < h.c)
def newest (L : List UInt8) : Option (Hd × Nat) :=
 if headOk (sec L 0) = true ∧ headOk (sec L 1) = true then
  if newer2 (headIs (sec L 1)) (headIs (sec L 0)) = true then some (headIs (sec L 1), 1)
  else if newer2 (headIs (sec L 0)) (headIs (sec L 1)) = true then some (headIs (sec L 0), 0)
  else if (headIs (sec L 0)).o = 0 ∧ (headIs (sec L 1)).o = 0 then some (hd0, 0) else none
 else none
structure Rc where
 s : Nat
 q : Nat
 b : ByteArray
def rc0 : Rc := ⟨0, 0, ⟨#[]⟩⟩
def lenOf (S : List UInt8) : Nat := (S.getD 13 0).toNat
def rcOf (S : List UInt8) : Rc := ⟨(S.getD 12 0).toNat, (Wire.numAt S 14).toNat, ⟨((S.drop 18).take (lenOf S)).toArray⟩⟩
def sealR (o c : Nat) (r : Rc) : List UInt8 := sealB o c (recIn r.s r.q r.b.data.toList)
def recOk (S : List UInt8) (last : Nat) : Bool :=
 decide (S = nought) || ((decide (lenOf S ≤ 20) && (decide ((rcOf S).s < 3) && (decide (1 ≤ (rcOf S).q) && decide ((rcOf S).q ≤ 2147483647)))) && (isStamp (opOf S) && (decide (opOf S ≤ last) && decide (sealR (opOf S) (ctOf S) (rcOf S) = S))))
def recIs (S : List UInt8) : Rc := if S = nought then rc0 else rcOf S
def Rc.fits (r : Rc) : Prop := r.s < 3 ∧ 1 ≤ r.q ∧ r.q ≤ 2147483647 ∧ r.b.size ≤ 20
theorem len_b (b : ByteArray) : b.data.toList.length = b.size := Array.length_toList
theorem rcOf_seal {o c : Nat} {r : Rc} (hr : r.fits) : rcOf (sealR o c r) = r ∧ lenOf (sealR o c r) = r.b.size := by
 obtain ⟨h1, h2, h3, h4⟩ := hr
 have hl := len_b r.b
 have e13 : lenOf (sealR o c r) = r.b.size := by
  unfold lenOf sealR sealB recIn
  rw [List.append_assoc, List.getD_eq_getElem?_getD, List.getElem?_append_right (by rw [length_stampB]; omega), length_stampB]
  simp
  omega
 refine ⟨?_, e13⟩
 have e12 : ((sealR o c r).getD 12 0).toNat = r.s := by
  unfold sealR sealB recIn
  rw [List.append_assoc, List.getD_eq_getElem?_getD, List.getElem?_append_right (by rw [length_stampB]; omega), length_stampB]
  simp
  omega
 have e14 : (Wire.numAt (sealR o c r) 14).toNat = r.q := by
  have := inside_at (o := o) (c := c) (p := [UInt8.ofNat (r.s % 256), UInt8.ofNat (r.b.data.toList.length % 256)]) (q := r.b.data.toList) (n := r.q) (by omega)
  rw [← List.append_assoc] at this
  unfold sealR recIn
  rw [show (14 : Nat) = 12 + [UInt8.ofNat (r.s % 256), UInt8.ofNat (r.b.data.toList.length % 256)].length from rfl, this]
  rfl
 have e18 : ((sealR o c r).drop 18).take r.b.size = r.b.data.toList := by
  have hd : (sealR o c r).drop 18 = r.b.data.toList ++ (List.replicate (40 - (recIn r.s r.q r.b.data.toList).length) 0 ++ stampB o c) := by
   unfold sealR sealB
   have : stampB o c ++ (recIn r.s r.q r.b.data.toList ++ List.replicate (40 - (recIn r.s r.q r.b.data.toList).length) 0) ++ stampB o c
     = (stampB o c ++ ([UInt8.ofNat (r.s % 256), UInt8.ofNat (r.b.data.toList.length % 256)] ++ Wire.le4 (r.q : Int))) ++ (r.b.data.toList ++ (List.replicate (40 - (recIn r.s r.q r.b.data.toList).length) 0 ++ stampB o c)) := by
    conv => lhs; arg 1; arg 2; arg 1; unfold recIn
    simp
   rw [this]
   exact List.drop_left' (by simp [length_stampB, Wire.length_le4])
  rw [hd, List.take_append_of_le_length (by omega), List.take_of_length_le (by omega)]
 unfold rcOf
 rw [e12, e13, e14, e18]
theorem length_sealR {o c : Nat} {r : Rc} (hr : r.b.size ≤ 20) : (sealR o c r).length = 64 :=
 length_sealB _ _ (by rw [length_recIn, len_b]; omega)
theorem sealR_ne {o c : Nat} {r : Rc} (ho : 1 ≤ o) (ho2 : o < 4294967296) : sealR o c r ≠ nought := by
 intro e
 have := opOf_seal (c := c) (ins := recIn r.s r.q r.b.data.toList) ho2
 unfold sealR at e
 rw [e, opOf_nought] at this
 omega
def RecAt (S : List UInt8) (last : Nat) (r : Rc) : Prop := (S = nought ∧ r = rc0) ∨ ∃ o c, 1 ≤ o ∧ o ≤ last ∧ o < 4294967296 ∧ c < 18446744073709551616 ∧ r.fits ∧ S = sealR o c r
theorem RecAt.up {S : List UInt8} {n m : Nat} {r : Rc} (h : RecAt S n r) (hm : n ≤ m) : RecAt S m r := by
 rcases h with h | ⟨o, c, h1, h2, h3⟩
 ·exact .inl h
 ·exact .inr ⟨o, c, h1, by omega, h3⟩
theorem recOk_at {S : List UInt8} {last : Nat} {r : Rc} (h : RecAt S last r) (hl : last ≤ 1073741824) : recOk S last = true ∧ recIs S = r := by
 rcases h with ⟨rfl, rfl⟩ | ⟨o, c, h1, h2, h3, h4, hr, rfl⟩
 ·simp [recOk, recIs]
 ·obtain ⟨e1, e2⟩ := rcOf_seal (o := o) (c := c) hr
  have e3 : opOf (sealR o c r) = o := opOf_seal h3
  have e4 : ctOf (sealR o c r) = c := ctOf_seal h4
  obtain ⟨g1, g2, g3, g4⟩ := hr
  refine ⟨?_, ?_⟩
  ·unfold recOk
   rw [e1, e2, e3, e4]
   simp [isStamp]
   right
   omega
  ·unfold recIs
   rw [if_neg (sealR_ne h1 h3), e1]
theorem recAt_ok {S : List UInt8} {last : Nat} (h : recOk S last = true) : RecAt S last (recIs S) := by
 unfold recOk at h
 by_cases e : S = nought
 ·exact .inl ⟨e, by unfold recIs; rw [if_pos e]⟩
 ·right
  have h' : (lenOf S ≤ 20 ∧ (rcOf S).s < 3 ∧ 1 ≤ (rcOf S).q ∧ (rcOf S).q ≤ 2147483647) ∧ isStamp (opOf S) = true ∧ opOf S ≤ last ∧ sealR (opOf S) (ctOf S) (rcOf S) = S := by
   have := h
   simp [e] at this
   omega
  obtain ⟨⟨g1, g2, g3, g4⟩, g5, g6, g7⟩ := h'
  have ho : 1 ≤ opOf S ∧ opOf S ≤ 1073741824 := by simpa [isStamp] using g5
  unfold recIs
  rw [if_neg e]
  refine ⟨opOf S, ctOf S, ho.1, g6, by omega, ctOf_lt S, ⟨g2, g3, g4, ?_⟩, g7.symm⟩
  show (rcOf S).b.size ≤ 20
  simp [rcOf, ByteArray.size]
  omega
theorem recOk_small {S : List UInt8} {last : Nat} (h : recOk S last = true) : (recIs S).s < 3 ∧ (recIs S).q ≤ 2147483647 ∧ (recIs S).b.size ≤ 20 := by
 rcases recAt_ok h with ⟨_, e⟩ | ⟨o, c, _, _, _, _, ⟨h1, h2, h3, h4⟩, _⟩
 ·rw [e]; simp [rc0, ByteArray.size]
 ·exact ⟨h1, h3, h4⟩
def recsFrom (L : List UInt8) (last : Nat) : Nat → Nat → Option (List Rc)
 | _, 0 => some []
 | x, n + 1 => if recOk (sec L (2 + x)) last = true then (recsFrom L last (x + 1) n).map (recIs (sec L (2 + x)) :: ·) else none
end Mod
end Go.Proofs.YtamafdcnbcoegaaGreat
namespace Go.Proofs.YtamafdcnbcoegaaGreat
namespace Mod
def Older (S : List UInt8) (op c : Nat) : Prop := S = nought ∨ ∃ h : Hd, 1 ≤ h.o ∧ h.o ≤ op ∧ h.c < 18446744073709551616 ∧ h.small = true ∧ (h.o < op ∨ h.c < c) ∧ S = sealH h
structure DiskOk (L : List UInt8) (op ct hd : Nat) (g : Nat → Nat) (m : Nat) : Prop where
 len : L.length = m * 64
 two : 2 ≤ m
 hd1 : hd ≤ 1
 op1 : 1 ≤ op
 opm : op < 4294967296
 ctm : ct < 18446744073709551616
 sm : ∀ i, i < 3 → g i ≤ 2147483647
 hs : ∃ c, c ≤ ct ∧ sec L hd = sealH ⟨op, c, g 0, g 1, g 2⟩ ∧ Older (sec L (1 - hd)) op c
theorem newer2_of {h g : Hd} (H : g.o < h.o ∨ g.o = h.o ∧ g.c < h.c) : newer2 h g = true ∧ newer2 g h = false := by
 unfold newer2
 rcases H with H | ⟨H, H2⟩
 ·rw [if_pos (by omega), if_pos (by omega)]; simp; omega
 ·rw [if_neg (by omega), if_neg (by omega)]; simp; omega
theorem Older.head {S : List UInt8} {op c : Nat} (h : Older S op c) (hop : op ≤ 1073741824) (hop1 : 1 ≤ op) : headOk S = true ∧ ((headIs S).o < op ∨ (headIs S).o = op ∧ (headIs S).c < c) := by
 rcases h with rfl | ⟨h, h1, h2, h3, h4, h5, rfl⟩
 ·exact ⟨headOk_nought.1, .inl (by rw [headOk_nought.2]; exact hop1)⟩
 ·have := headOk_seal (h := h) (by simp [isStamp]; omega) h3 h4
  refine ⟨this.1, ?_⟩
  rw [this.2]
  omega
theorem small_of {a b d : Nat} {o c : Nat} (ha : a ≤ 2147483647) (hb : b ≤ 2147483647) (hd : d ≤ 2147483647) : Hd.small ⟨o, c, a, b, d⟩ = true := by simp [Hd.small]; omega
theorem DiskOk.newest {L : List UInt8} {op ct hd : Nat} {g : Nat → Nat} {m : Nat} (h : DiskOk L op ct hd g m) (hop : op ≤ 1073741824) : ∃ c, newest L = some (⟨op, c, g 0, g 1, g 2⟩, hd) := by
 obtain ⟨c, h1, h2, h3⟩ := h.hs
 have s := headOk_seal (h := ⟨op, c, g 0, g 1, g 2⟩) (by have := h.op1; simp [isStamp]; omega) (by have := h.ctm; show c < _; omega) (small_of (h.sm 0 (by omega)) (h.sm 1 (by omega)) (h.sm 2 (by omega)))
 obtain ⟨o1, o2⟩ := h3.head hop h.op1
 refine ⟨c, ?_⟩
 have hh := h.hd1
 obtain rfl | rfl : hd = 0 ∨ hd = 1 := by omega
 ·have hn := newer2_of (h := ⟨op, c, g 0, g 1, g 2⟩) (g := headIs (sec L 1)) o2
  unfold Mod.newest
  rw [h2, s.1, s.2, show sec L 1 = sec L (1 - 0) from rfl, o1]
  rw [if_pos ⟨rfl, rfl⟩, show headIs (sec L (1 - 0)) = headIs (sec L 1) from rfl, hn.2, if_neg (by simp), hn.1, if_pos rfl]
 ·have hn := newer2_of (h := ⟨op, c, g 0, g 1, g 2⟩) (g := headIs (sec L 0)) o2
  unfold Mod.newest
  rw [h2, s.1, s.2, show sec L 0 = sec L (1 - 1) from rfl, o1]
  rw [if_pos ⟨rfl, rfl⟩, show headIs (sec L (1 - 1)) = headIs (sec L 0) from rfl, hn.1, if_pos rfl]
theorem DiskOk.numbers {L : List UInt8} {op ct hd : Nat} {g g' : Nat → Nat} {m : Nat} (h : DiskOk L op ct hd g m) (hg : ∀ i, i < 3 → g' i ≤ 2147483647) (hct : ct + 1 < 18446744073709551616) :
  DiskOk (setSec L (1 - hd) (sealH ⟨op, ct + 1, g' 0, g' 1, g' 2⟩)) op (ct + 1) (1 - hd) g' m := by
 obtain ⟨c, h1, h2, h3⟩ := h.hs
 have hl := h.len
 have htw := h.two
 have hh := h.hd1
 have hS := length_sealH ⟨op, ct + 1, g' 0, g' 1, g' 2⟩
 refine ⟨by rw [length_setSec hS (by omega)]; exact hl, htw, by omega, h.op1, h.opm, hct, hg, ct + 1, Nat.le_refl _, sec_set hS (by omega), ?_⟩
 rw [sec_other hS (by omega) (by omega), show 1 - (1 - hd) = hd by omega, h2]
 exact .inr ⟨⟨op, c, g 0, g 1, g 2⟩, h.op1, Nat.le_refl _, by have := h.ctm; show c < _; omega, small_of (h.sm 0 (by omega)) (h.sm 1 (by omega)) (h.sm 2 (by omega)), .inr (by show c < ct + 1; omega), rfl⟩
theorem DiskOk.record {L : List UInt8} {op ct hd : Nat} {g : Nat → Nat} {m : Nat} (h : DiskOk L op ct hd g m) {x : Nat} {S : List UInt8} (hS : S.length = 64) (hx : 2 + x < m) (hct : ct + 1 < 18446744073709551616) :
  DiskOk (setSec L (2 + x) S) op (ct + 1) hd g m := by
 obtain ⟨c, h1, h2, h3⟩ := h.hs
 have hl := h.len
 have hh := h.hd1
 refine ⟨by rw [length_setSec hS (by omega)]; exact hl, h.two, hh, h.op1, h.opm, hct, h.sm, c, by omega, ?_, ?_⟩
 ·rw [sec_other hS (by omega) (by omega)]; exact h2
 ·rw [sec_other hS (by omega) (by omega)]; exact h3
theorem newest_some {L : List UInt8} {h : Hd} {at' : Nat} (H : newest L = some (h, at')) : at' ≤ 1 ∧ headOk (sec L at') = true ∧ h = headIs (sec L at') ∧ headOk (sec L (1 - at')) = true := by
 unfold newest at H
 split at H
 ·rename_i hk
  split at H
  ·cases H
   exact ⟨by omega, hk.2, rfl, hk.1⟩
  ·split at H
   ·cases H
    exact ⟨by omega, hk.1, rfl, hk.2⟩
   ·split at H
    ·rename_i h0
     cases H
     refine ⟨by omega, hk.1, ?_, hk.2⟩
     rcases headOk_some hk.1 with ⟨_, e⟩ | ⟨e, _⟩
     ·exact e.symm
     ·rw [h0.1] at e; cases e
    ·cases H
 ·cases H
theorem headIs_small {S : List UInt8} (h : headOk S = true) : (headIs S).o ≤ 1073741824 ∧ (headIs S).c < 18446744073709551616 ∧ (headIs S).a ≤ 2147483647 ∧ (headIs S).b ≤ 2147483647 ∧ (headIs S).d ≤ 2147483647 := by
 rcases headOk_some h with ⟨_, e⟩ | ⟨e1, e2, e3, _⟩
 ·rw [e]; simp [hd0]
 ·have h1 : 1 ≤ (headIs S).o ∧ (headIs S).o ≤ 1073741824 := by simpa [isStamp] using e1
  have h2 : (headIs S).a ≤ 2147483647 ∧ (headIs S).b ≤ 2147483647 ∧ (headIs S).d ≤ 2147483647 := by simpa [Hd.small] using e3
  exact ⟨h1.2, e2, h2⟩
def Hd.num (h : Hd) (i : Nat) : Nat := if i = 0 then h.a else if i = 1 then h.b else h.d
def openL (L : List UInt8) (h : Hd) (at' : Nat) : List UInt8 := setSec L (1 - at') (sealH ⟨h.o + 1, 1, h.a, h.b, h.d⟩)
theorem opened_ok {L : List UInt8} {h : Hd} {at' m : Nat} (H : newest L = some (h, at')) (hl : L.length = m * 64) (hm : 2 ≤ m) : DiskOk (openL L h at') (h.o + 1) 1 (1 - at') h.num m := by
 obtain ⟨h1, h2, rfl, h3⟩ := newest_some H
 have hs := headIs_small h2
 have hS := length_sealH ⟨(headIs (sec L at')).o + 1, 1, (headIs (sec L at')).a, (headIs (sec L at')).b, (headIs (sec L at')).d⟩
 refine ⟨by unfold openL; rw [length_setSec hS (by omega)]; exact hl, hm, by omega, by omega, by omega, by omega, ?_, 1, Nat.le_refl _, sec_set hS (by omega), ?_⟩
 ·intro i _
  unfold Hd.num
  split
  ·omega
  ·split <;> omega
 ·unfold openL
  rw [sec_other hS (by omega) (by omega), show 1 - (1 - at') = at' by omega]
  rcases headOk_some h2 with ⟨e, _⟩ | ⟨e1, e2, e3, e4⟩
  ·exact .inl e
  ·have h1 : 1 ≤ (headIs (sec L at')).o ∧ (headIs (sec L at')).o ≤ 1073741824 := by simpa [isStamp] using e1
   exact .inr ⟨_, h1.1, by omega, e2, e3, .inl (by omega), e4⟩
theorem openL_other {L : List UInt8} {h : Hd} {at' m : Nat} (hl : L.length = m * 64) (hm : 2 ≤ m) {k : Nat} (hk : 2 ≤ k) : sec (openL L h at') k = sec L k := by
 unfold openL
 exact sec_other (length_sealH _) (by omega) (by omega)
theorem recsFrom_at {L : List UInt8} {last : Nat} (hlast : last ≤ 1073741824) (r : Nat → Rc) : ∀ (n x : Nat), (∀ y, x ≤ y → y < x + n → RecAt (sec L (2 + y)) last (r y)) → recsFrom L last x n = some ((List.range n).map fun j => r (x + j))
 | 0, _, _ => rfl
 | n + 1, x, h => by
  obtain ⟨h1, h2⟩ := recOk_at (h x (Nat.le_refl _) (by omega)) hlast
  have ih := recsFrom_at hlast r n (x + 1) (fun y hy hy2 => h y (by omega) (by omega))
  rw [recsFrom, if_pos h1, h2, ih, List.range_succ_eq_map]
  simp
  intro a _
  rw [Nat.add_assoc, Nat.add_comm 1 a]
theorem recsFrom_some {L : List UInt8} {last : Nat} : ∀ (n x : Nat) {rs : List Rc}, recsFrom L last x n = some rs → rs.length = n ∧ ∀ y, y < n → recOk (sec L (2 + (x + y))) last = true ∧ rs[y]? = some (recIs (sec L (2 + (x + y))))
 | 0, _, rs, h => by cases h; exact ⟨rfl, fun y hy => by omega⟩
 | n + 1, x, rs, h => by
  rw [recsFrom] at h
  split at h
  ·rename_i hk
   cases hr : recsFrom L last (x + 1) n with
   | none => rw [hr] at h; cases h
   | some rs' =>
    rw [hr] at h
    cases h
    obtain ⟨i1, i2⟩ := recsFrom_some n (x + 1) hr
    refine ⟨by simp [i1], fun y hy => ?_⟩
    cases y with
    | zero => exact ⟨hk, rfl⟩
    | succ y =>
     have := i2 y (by omega)
     rw [show x + (y + 1) = x + 1 + y by omega]
     exact ⟨this.1, by rw [List.getElem?_cons_succ]; exact this.2⟩
  ·cases h
def openSt (L : List UInt8) : Option (Hd × Nat × List Rc) :=
 match newest L with
 | none => none
 | some (h, at') => match recsFrom L h.o 0 (L.length / 64 - 2) with
  | none => none
  | some rs => some (h, at', rs)
theorem openSt_some {L : List UInt8} {h : Hd} {at' : Nat} {rs : List Rc} (H : openSt L = some (h, at', rs)) : newest L = some (h, at') ∧ recsFrom L h.o 0 (L.length / 64 - 2) = some rs := by
 unfold openSt at H
 cases hn : newest L with
 | none => rw [hn] at H; cases H
 | some p =>
  obtain ⟨h', a'⟩ := p
  rw [hn] at H
  simp only at H
  cases hr : recsFrom L h'.o 0 (L.length / 64 - 2) with
  | none => rw [hr] at H; cases H
  | some rs' => rw [hr] at H; cases H; exact ⟨rfl, hr⟩
theorem openSt_of {L : List UInt8} {h : Hd} {at' : Nat} {rs : List Rc} (h1 : newest L = some (h, at')) (h2 : recsFrom L h.o 0 (L.length / 64 - 2) = some rs) : openSt L = some (h, at', rs) := by
 unfold openSt
 rw [h1]
 simp only
 rw [h2]
theorem DiskOk.opens {L : List UInt8} {op ct hd : Nat} {g : Nat → Nat} {m : Nat} (h : DiskOk L op ct hd g m) (hop : op ≤ 1073741824) (r : Nat → Rc) (hr : ∀ x, x < m - 2 → RecAt (sec L (2 + x)) op (r x)) :
  ∃ c, openSt L = some (⟨op, c, g 0, g 1, g 2⟩, hd, (List.range (m - 2)).map r) := by
 obtain ⟨c, hn⟩ := h.newest hop
 refine ⟨c, openSt_of hn ?_⟩
 rw [show L.length / 64 = m by have := h.len; omega]
 have := recsFrom_at (L := L) hop r (m - 2) 0 (fun y _ hy => hr y (by omega))
 simpa using this
theorem nought_sec (n k : Nat) (h : k * 64 + 64 ≤ n) : sec (List.replicate n 0) k = nought := by
 unfold sec nought
 rw [List.drop_replicate, List.take_replicate]
 congr 1
 omega
theorem openSt_nought (m : Nat) (hm : 2 ≤ m) : openSt (List.replicate (m * 64) 0) = some (hd0, 0, (List.range (m - 2)).map fun _ => rc0) := by
 have h0 := nought_sec (m * 64) 0 (by omega)
 have h1 := nought_sec (m * 64) 1 (by omega)
 have hn : newest (List.replicate (m * 64) 0) = some (hd0, 0) := by
  unfold newest
  rw [h0, h1, headOk_nought.1, headOk_nought.2]
  rfl
 refine openSt_of hn ?_
 have := recsFrom_at (L := List.replicate (m * 64) 0) (last := 0) (by omega) (fun _ => rc0) (m - 2) 0 (fun y _ hy => .inl ⟨nought_sec _ _ (by omega), rfl⟩)
 rw [List.length_replicate, Nat.mul_div_cancel _ (by omega : 0 < 64)]
 exact this
end Mod
end Go.Proofs.YtamafdcnbcoegaaGreat
namespace Go.Proofs.YtamafdcnbcoegaaGreat
open Go.RowKit
theorem size_stamp : (Tryz.prog.info? 201).map (·.size) = some 2 := by kernel_rfl
theorem number_sec (S : List UInt8) (hS : S.length = 64) (g : Nat) (t : TypeId) (w : World) (h : w.heap[g]? = some (.cells (bv S).toArray t (0, 0))) (i n cap : Nat) (hi : i + 4 ≤ 64) (hn : 4 ≤ n) :
  Calls Tryz.prog 95 #[.slice (some ⟨g, i, none⟩) n cap] w fun e w' => e = .returned (.int .u32 (Wire.numAt S i)) ∧ Below w.heap.size w w' := by
 have hc : ∀ j, j < 64 → w.cell? ⟨g, j, none⟩ = some (.int .u8 (S.getD j 0).toNat) := fun j hj => by
  rw [blk_cell h, bv_at (by omega)]
 refine (number_bytes g i n cap (S.getD i 0) (S.getD (i + 1) 0) (S.getD (i + 2) 0) (S.getD (i + 3) 0) w hn (hc _ (by omega)) (hc _ (by omega)) (hc _ (by omega)) (hc _ (by omega))).mono ?_
 rintro r y ⟨rfl, k, rfl⟩
 exact ⟨rfl, below_drewN (Below.refl _ _) k⟩
theorem numAt_nat (S : List UInt8) (i : Nat) : ((Wire.numAt S i).toNat : Int) = Wire.numAt S i := by have := Wire.numAt_range S i; omega
theorem ctOf_int (S : List UInt8) : (Mod.ctOf S : Int) = Wire.numAt S 4 + Wire.numAt S 8 * 4294967296 := by
 unfold Mod.ctOf
 have := numAt_nat S 4
 have := numAt_nat S 8
 omega
theorem or_ct (S : List UInt8) : bits BinOp.or IntKind.u64 (Wire.numAt S 4) (Wire.numAt S 8 * 4294967296) = (Mod.ctOf S : Int) := by
 have h1 := Wire.numAt_range S 4
 have h2 := Wire.numAt_range S 8
 rw [u64_or32 _ _ h1.1 h1.2 (by omega) (by omega) (by omega), ctOf_int]
set_option maxRecDepth 100000 in
set_option maxHeartbeats 1000000 in
theorem stampOf_any (S : List UInt8) (hS : S.length = 64) (w : World) :
  Calls Tryz.prog 219 #[.agg (bv S).toArray] w fun r w' => r = .returned (.agg #[.int .u32 (Mod.opOf S), .int .u64 (Mod.ctOf S)]) ∧ Below w.heap.size w w' := by
 have hN0 := fun (y : World) (h : y.heap[w.heap.size]? = some (.cells (bv S).toArray 207 (0, 0))) => hide (number_sec S hS w.heap.size _ y h 0 64 64 (by omega) (by omega))
 have hN4 := fun (y : World) (h : y.heap[w.heap.size]? = some (.cells (bv S).toArray 207 (0, 0))) => hide (number_sec S hS w.heap.size _ y h 4 60 60 (by omega) (by omega))
 have hN8 := fun (y : World) (h : y.heap[w.heap.size]? = some (.cells (bv S).toArray 207 (0, 0))) => hide (number_sec S hS w.heap.size _ y h 8 56 56 (by omega) (by omega))
 have HO := hide (or_ct S)
 have HP : Hid ((Mod.opOf S : Int) = Wire.numAt S 0) := numAt_nat S 0
 obtain ⟨ct, hct⟩ : ∃ ct, ct = Mod.ctOf S := ⟨_, rfl⟩
 obtain ⟨on, hon⟩ : ∃ on, on = Mod.opOf S := ⟨_, rfl⟩
 rw [← hct] at HO ⊢
 rw [← hon] at HP ⊢
 clear hct hon
 have b1 := Wire.numAt_range S 4
 have b2 := Wire.numAt_range S 8
 obtain ⟨b10, b11⟩ := b1
 obtain ⟨b20, b21⟩ := b2
 go_enter Tryz.func219, Tryz.ntmps219
 go_upto_region 1 with fail
 refine wp_world (fun x => x.heap[w.heap.size]? = some (.cells (bv S).toArray 207 (0, 0)) ∧ x.heap[w.heap.size + 1]? = some (.cells #[.int .u32 0, .int .u64 0] 201 (0, 0)) ∧ Below w.heap.size w x) (alloc2 _ _ _) ?_
 rintro x ⟨h0, h1, hB⟩
 have hz := lt_of_block h1
 have H0 := hide h0
 have H1 := hide h1
 have HB := hide hB
 clear h0 h1 hB
 generalize hn0 : Wire.numAt S 0 = n0 at *
 generalize hn4 : Wire.numAt S 4 = n4 at *
 generalize hn8 : Wire.numAt S 8 = n8 at *
 have w4 : IntKind.u64.wrap n4 = n4 := by rw [IntKind.wrap_u64]; omega
 have w8 : IntKind.u64.wrap n8 = n8 := by rw [IntKind.wrap_u64]; omega
 have w9 : IntKind.u64.wrap (n8 * 4294967296) = n8 * 4294967296 := by rw [IntKind.wrap_u64]; omega
 refine wp_region_last (by kernel_rfl)
  [fun v _ => v = .slice (some ⟨w.heap.size, 0, none⟩) 64 64, fun v _ => v = .int .u32 n0, fun v _ => v = .slice (some ⟨w.heap.size, 4, none⟩) 60 60, fun v _ => v = .int .u32 n4, fun v _ => v = .int .u64 n4,
   fun v _ => v = .slice (some ⟨w.heap.size, 8, none⟩) 56 56, fun v _ => v = .int .u32 n8, fun v _ => v = .int .u64 n8, fun v _ => v = .int .u64 (n8 * 4294967296), fun v _ => v = .int .u64 ct, fun v _ => v = .agg #[.int .u32 n0, .int .u64 ct], fun _ _ => True]
  [[(1, none)], [(3, some 0)], [(1, none)], [(5, some 2)], [(6, some 3)], [(1, none)], [(8, some 5)], [(9, some 6)], [(10, some 7)], [(7, some 4), (11, some 8)], [(4, some 1), (12, some 9)], [(2, none), (13, some 10)]] [some 3, some 4, some 5, some 6, some 7, some 8, some 9, some 10, some 11, some 12, some 13, none] [false, false, false, true, true, true, true, true, true, true, true, true, true, true]
  11 _ rfl rfl (by kernel_rfl) (by kernel_rfl) (by kernel_rfl) (by kernel_rfl) (by kernel_rfl) (by kernel_rfl) ?_ ?_ ?_
 ·repeat' (first | exact stable_eq _ | exact stable_true | exact trivial | apply And.intro)
 ·refine ⟨?_, ?_, ?_, ?_, ?_, ?_, ?_, ?_, ?_, ?_, ?_, trivial⟩
  all_goals
   intro a y hb hf
   have y0 := (hb.block _ (by omega : w.heap.size < x.heap.size)).trans (unhide H0)
   have HN0 := hN0 y y0
   have HN4 := hN4 y y0
   have HN8 := hN8 y y0
   clear hb y0 hN0 hN4 hN8
   simp only [PlanFacts, List.getD_cons_zero, List.getD_cons_succ, Array.getD_eq_getD_getElem?] at hf
   try simp at hf
  ·go_simp
   first | exact Below.refl _ _ | exact ⟨_, rfl, Below.refl _ _, rfl⟩
  ·go_simp
   refine (unhide HN0).mono ?_
   rintro r w1 ⟨rfl, hb1⟩
   first | exact hb1 | exact ⟨rfl, hb1⟩ | exact ⟨_, rfl, hb1, rfl⟩
  ·go_simp
   first | exact Below.refl _ _ | exact ⟨_, rfl, Below.refl _ _, rfl⟩
  ·go_simp
   refine (unhide HN4).mono ?_
   rintro r w1 ⟨rfl, hb1⟩
   first | exact hb1 | exact ⟨rfl, hb1⟩ | exact ⟨_, rfl, hb1, rfl⟩
  ·go_simp
   first | exact Below.refl _ _ | exact ⟨_, rfl, Below.refl _ _, rfl⟩
  ·go_simp
   first | exact Below.refl _ _ | exact ⟨_, rfl, Below.refl _ _, rfl⟩
  ·go_simp
   refine (unhide HN8).mono ?_
   rintro r w1 ⟨rfl, hb1⟩
   first | exact hb1 | exact ⟨rfl, hb1⟩ | exact ⟨_, rfl, hb1, rfl⟩
  ·go_simp
   first | exact Below.refl _ _ | exact ⟨_, rfl, Below.refl _ _, rfl⟩
  ·go_simp
   first | exact Below.refl _ _ | exact ⟨_, rfl, Below.refl _ _, rfl⟩
  ·go_simp
   first | exact ⟨by rw [unhide HO], Below.refl _ _⟩ | exact ⟨_, rfl, Below.refl _ _, by rw [← unhide HO]⟩
  ·go_simp
   first | exact Below.refl _ _ | exact ⟨_, rfl, Below.refl _ _, rfl⟩
 ·intro f y hby hwd
  simp only [AllWords, List.take] at hwd
  have h10 := hwd.2.2.2.2.2.2.2.2.2.2.1
  have y1 := (hby.block _ hz).trans (unhide H1)
  have HBY := hide ((unhide HB).trans (hby.mono (unhide HB).size))
  clear hwd hby
  simp only [mergeT, h10]
  refine wp_store_row 201 (.tmp 2) (.tmp 13) rfl (w.heap.size + 1) #[.int .u32 n0, .int .u64 ct] (by simp [Act.eval]) (by simp [Act.eval]) 201 _ y1 (by rw [size_stamp]; rfl) (by simp) (by rw [Array.all_eq_true_iff_forall_mem]; intro u hu; simp at hu; rcases hu with rfl | rfl <;> rfl) ?_
  have hz2 := setRow_heap y (w.heap.size + 1) _ #[.int .u32 n0, .int .u64 ct] 201 (0, 0) y1
  have HF := hide (far_setRow y (w.heap.size + 1) #[.int .u32 n0, .int .u64 ct])
  generalize f 3 = x3
  generalize f 4 = x4
  generalize f 5 = x5
  generalize f 6 = x6
  generalize f 7 = x7
  generalize f 8 = x8
  generalize f 9 = x9
  generalize f 10 = x10
  generalize f 11 = x11
  generalize f 12 = x12
  generalize y.setRow (w.heap.size + 1) #[.int .u32 n0, .int .u64 ct] = z at *
  have q0 : z.cell? ⟨w.heap.size + 1, 0, none⟩ = some (.int .u32 n0) := blk_cell (i := 0) hz2
  have q1 : z.cell? ⟨w.heap.size + 1, 1, none⟩ = some (.int .u64 ct) := blk_cell (i := 1) hz2
  clear hz2 y1
  go_simp
  go_wp2
  refine bodyPost_ret (v := .agg #[.int .u32 n0, .int .u64 ct]) (by simp [results, Tryz.results219, go_sem, q0, q1]) rfl ⟨by rw [unhide HP], ?_⟩
  exact (unhide HBY).trans ((unhide HF).below (unhide HBY).size (fun k hk e => by omega))
end Go.Proofs.YtamafdcnbcoegaaGreat
