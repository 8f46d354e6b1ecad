/-
  Part 4 of a proof: MonoFoot, D6, D7, M1, X2, X3, X4, X5, X6, Y3, Y4, Y6.
-/
import Derived.Laws.OwnMore
import Derived.Test.YtamafdcnbcoegaaGreatSd3
namespace Go.Proofs.YtamafdcnbcoegaaGreat
open Go.RowKit

/-- What an operation leaves, where it writes no slot: nothing. -/
def valOf (d : Option Tmp) (v : Value) : Value := match d with | some _ => v | none => undef
section
variable {P : Program} {ops : Array Oper} {Q : Exit → Act → World → Prop}

structure FootInv (ops : Array Oper) (Φ : Nat → Value → World → Prop) (E : Nat → Nat → Prop) (a0 : Act) (w0 : World) (L : Array Bool) (a : Act) (w : World) : Prop where
  size : L.size = ops.size
  ext : Far (fun b => ∃ k, L.getD k false = true ∧ E k b) w0 w
  closed : ∀ k, L.getD k false = true → ∀ j, depB ops k j = true → L.getD j false = true
  vals : ∀ i o, ops[i]? = some o → L.getD i false = true → Φ i (match o.dst with | some d => a.tmps.getD d undef | none => undef) w
  rest : ∀ t, (∀ j, wr ops t = some j → L.getD j false = false) → a.tmps.getD t undef = a0.tmps.getD t undef
  defers : a.defers = a0.defers
  tsize : a.tmps.size = a0.tmps.size

theorem mono_foot {a0 : Act} {w0 : World} (Φ : Nat → Value → World → Prop) (E : Nat → Nat → Prop) (hok : monoOk ops a0.tmps.size = true)
    (hst : ∀ i j v w w', i ≠ j → depB ops j i = false → Φ j v w → Far (E i) w w' → Φ j v w')
    (hop : ∀ i o, ops[i]? = some o → ∀ a w, Far (fun b => ∃ k, k ≠ i ∧ depB ops k i = false ∧ E k b) w0 w → GoodAct ops Φ a0 i o a w →
      if Region.wanted o (yielded ops a.tmps) = true then o.wp P a w (fun a' w' => ∃ v, a' = a.put o.dst v ∧ Far (E i) w w' ∧ Φ i (valOf o.dst v) w') Q else Φ i undef w)
    (hend : ∀ a w, Far (fun b => ∃ k, E k b) w0 w → (∀ i o, ops[i]? = some o → Φ i (match o.dst with | some d => a.tmps.getD d undef | none => undef) w) → (∀ t, wr ops t = none → a.tmps.getD t undef = a0.tmps.getD t undef) → a.defers = a0.defers → a.tmps.size = a0.tmps.size → Q .normal a w) :
    ∀ (fuel : Nat) (L : Array Bool) (a : Act) (w : World), FootInv ops Φ E a0 w0 L a w → (List.range ops.size).countP (fun i => !L.getD i false) ≤ fuel → wpAny P .any ops Q fuel L a w := by
  have hrdy : ∀ (L : Array Bool) (a : Act) (w : World), FootInv ops Φ E a0 w0 L a w → Region.ready .any ops L = [] → Q .normal a w := by
    intro L a w hI hr
    have hall : ∀ n i, i < n → i < ops.size → L.getD i false = true := by
      intro n
      induction n with
      | zero => intro i h; omega
      | succ n ih =>
        intro i h hi
        by_cases hin : i < n
        · exact ih i hin hi
        · have e : i = n := by omega
          subst e
          cases hL : L.getD i false
          · exfalso
            have ho : ops[i]? = some ops[i] := Array.getElem?_eq_getElem hi
            obtain ⟨_, _, h3⟩ := monoOk_spec hok ho
            have : i ∈ Region.ready .any ops L := mem_ready.2 ⟨by
              have hs : i < L.size := by rw [hI.size]; exact hi
              rw [Array.getD_eq_getD_getElem?, Array.getElem?_eq_getElem hs] at hL ⊢
              exact hL, ops[i], ho, fun e he hb => by
              have hd : depB ops i e.on = true := by
                unfold depB
                rw [ho]
                exact Array.any_eq_true'.2 ⟨e, he, by simp [hb]⟩
              have hlt := h3 _ hd
              exact ih e.on hlt (by omega)⟩
            rw [hr] at this
            cases this
          · rfl
    refine hend a w (hI.ext.mono (fun b _ h => h.imp fun k h => h.2)) (fun i o ho => hI.vals i o ho (hall ops.size i (Array.getElem?_eq_some_iff.1 ho).1 (Array.getElem?_eq_some_iff.1 ho).1)) (fun t ht => hI.rest t (fun j hj => by rw [ht] at hj; cases hj)) hI.defers hI.tsize
  intro fuel
  induction fuel with
  | zero =>
    intro L a w hI hc
    have hr : Region.ready .any ops L = [] := by
      apply List.eq_nil_iff_forall_not_mem.2
      intro i hi
      obtain ⟨h0, o, ho, _⟩ := mem_ready.1 hi
      have hlt : i < ops.size := (Array.getElem?_eq_some_iff.1 ho).1
      have h0' : L.getD i false = false := by
        have hs : i < L.size := by rw [hI.size]; exact hlt
        rw [Array.getD_eq_getD_getElem?, Array.getElem?_eq_getElem hs] at h0 ⊢
        exact h0
      have : 0 < (List.range ops.size).countP (fun i => !L.getD i false) := List.countP_pos_iff.2 ⟨i, List.mem_range.2 hlt, by simp [h0']⟩
      omega
    exact ⟨hr, hrdy L a w hI hr⟩
  | succ fuel ih =>
    intro L a w hI hc
    refine ⟨hrdy L a w hI, fun i hi => ?_⟩
    obtain ⟨h0, o, ho, hdeps⟩ := mem_ready.1 hi
    have hlt : i < ops.size := (Array.getElem?_eq_some_iff.1 ho).1
    have hls : i < L.size := by rw [hI.size]; exact hlt
    have h0' : L.getD i false = false := by
      rw [Array.getD_eq_getD_getElem?, Array.getElem?_eq_getElem hls] at h0 ⊢
      exact h0
    obtain ⟨hd, hl, hlex⟩ := monoOk_spec hok ho
    have hdl : ∀ j, depB ops i j = true → L.getD j false = true := by
      intro j hj
      unfold depB at hj
      rw [ho] at hj
      obtain ⟨e, he, hb⟩ := Array.any_eq_true'.1 hj
      simp only [Bool.and_eq_true, beq_iff_eq] at hb
      rw [← hb.2]; exact hdeps e he hb.1
    have hgood : GoodAct ops Φ a0 i o a w := by
      intro t ht
      cases hw : wr ops t with
      | none => exact hI.rest t (fun j hj => by rw [hw] at hj; cases hj)
      | some j =>
        simp only []
        have hj := List.find?_some hw
        simp only [beq_iff_eq] at hj
        split
        · rename_i hdep
          cases hoj : ops[j]? with
          | none => rw [hoj] at hj; cases hj
          | some oj =>
            rw [hoj] at hj
            have hvv := hI.vals j oj hoj (hdl j hdep)
            have hj' : oj.dst = some t := hj
            rw [hj'] at hvv
            exact hvv
        · rename_i hdep
          refine hI.rest t (fun j' hj' => ?_)
          rw [hw] at hj'
          cases hj'
          rcases hl t ht j hw with h | h
          · exact absurd h hdep
          · cases hLj : L.getD j false
            · rfl
            · have := hI.closed j hLj i h
              rw [h0'] at this; cases this
    have hstep : ∀ v w', Far (E i) w w' → Φ i (valOf o.dst v) w' → FootInv ops Φ E a0 w0 (L.setIfInBounds i true) (a.put o.dst v) w' := by
      intro v w' hb hv
      have hget : ∀ k, (L.setIfInBounds i true).getD k false = true ↔ (k = i ∨ L.getD k false = true) := by
        intro k
        by_cases hk : k = i
        · subst hk
          simp [Array.getD_eq_getD_getElem?, hls]
        · rw [getD_set_ne false (fun e => hk e.symm)]
          simp [hk]
      have hput : ∀ t, (a.put o.dst v).tmps.getD t undef = if o.dst = some t then v else a.tmps.getD t undef := by
        intro t
        cases hdst : o.dst with
        | none => simp [Act.put]
        | some d =>
          simp only [Act.put, Option.some.injEq]
          have hdsz : d < a.tmps.size := by rw [hI.tsize]; exact (hd d hdst).1
          by_cases h : d = t
          · subst h
            simp [Array.getD_eq_getD_getElem?, hdsz]
          · simp [Array.getD_eq_getD_getElem?, h]
      refine ⟨by simp [hI.size], (hI.ext.mono (fun b _ h => by obtain ⟨k, h1, h2⟩ := h; exact ⟨k, (hget k).2 (.inr h1), h2⟩)).trans hb (fun b _ h => ⟨i, (hget i).2 (.inl rfl), h⟩), ?_, ?_, ?_, ?_, ?_⟩
      · intro k hk j hj
        rw [hget] at hk ⊢
        rcases hk with rfl | hk
        · exact .inr (hdl j hj)
        · exact .inr (hI.closed k hk j hj)
      · intro k ok hok' hk
        rw [hget] at hk
        rcases hk with rfl | hk
        · rw [ho] at hok'; cases hok'
          cases hdst : o.dst with
          | none => rw [hdst] at hv; exact hv
          | some d =>
            rw [hdst] at hv
            simp only []
            have hp := hput d
            rw [if_pos hdst, hdst] at hp
            rw [hp]; exact hv
        · have hki : i ≠ k := by
            intro e
            subst e
            rw [h0'] at hk; cases hk
          have hnd : depB ops k i = false := by
            cases hd : depB ops k i with
            | false => rfl
            | true =>
              have := hI.closed k hk i hd
              rw [h0'] at this; cases this
          have hvk := hst i k _ _ _ hki hnd (hI.vals k ok hok' hk) hb
          cases hdk : ok.dst with
          | none => rw [hdk] at hvk; exact hvk
          | some d =>
            rw [hdk] at hvk
            simp only [] at hvk ⊢
            have hne : o.dst ≠ some d := by
              intro e
              have h1 := (hd d e).2
              have h2 := ((monoOk_spec hok hok').1 d hdk).2
              rw [h1] at h2
              cases h2
              exact hki rfl
            rw [hput, if_neg hne]
            exact hvk
      · intro t ht
        rw [hput]
        have hne : o.dst ≠ some t := by
          intro e
          have := ht i (hd t e).2
          have h2 := (hget i).2 (.inl rfl)
          rw [this] at h2; cases h2
        rw [if_neg hne]
        refine hI.rest t (fun j hj => ?_)
        cases hLj : L.getD j false
        · rfl
        · have := ht j hj
          rw [(hget j).2 (.inr hLj)] at this; cases this
      · cases o.dst <;> exact hI.defers
      · rw [← hI.tsize]; cases o.dst <;> simp [Act.put]
    have hcount : (List.range ops.size).countP (fun k => !(L.setIfInBounds i true).getD k false) ≤ fuel := by
      have := countP_lt (l := List.range ops.size) (p := fun k => !L.getD k false) (q := fun k => !(L.setIfInBounds i true).getD k false)
        (fun k _ hk => by
          by_cases hki : k = i
          · subst hki; simp [h0']
          · rw [getD_set_ne false (fun e => hki e.symm)] at hk; exact hk)
        ⟨i, List.mem_range.2 hlt, by simp [h0'], by simp [Array.getD_eq_getD_getElem?, hls]⟩
      omega
    have hg := hop i o ho a w (hI.ext.mono (fun b _ h => by
      obtain ⟨k, h1, h2⟩ := h
      refine ⟨k, fun e => ?_, ?_, h2⟩
      · subst e; rw [h0'] at h1; cases h1
      · cases hd : depB ops k i with
        | false => rfl
        | true =>
          have := hI.closed k h1 i hd
          rw [h0'] at this; cases this)) hgood
    unfold wpOp
    rw [ho]
    simp only []
    split at hg
    · rename_i hw
      rw [if_pos hw]
      refine .inl (Oper.wp_mono ?_ hg)
      rintro a' w' ⟨v, rfl, hb, hv⟩
      exact ih _ _ _ (hstep v w' hb hv) hcount
    · rename_i hw
      rw [if_neg hw]
      exact ih _ _ _ (hstep undef w (Far.refl _ _) (by cases o.dst <;> exact hg)) hcount


/-- What the operations write: for each that writes, its blocks. -/
def footOf (Ws : List (Nat × (Nat → Prop))) (i : Nat) (b : Nat) : Prop := ∃ p ∈ Ws, p.1 = i ∧ p.2 b
def footBut (Ws : List (Nat × (Nat → Prop))) (ops : Array Oper) (i : Nat) (b : Nat) : Prop := ∃ p ∈ Ws, p.1 ≠ i ∧ depB ops p.1 i = false ∧ p.2 b
def StableF (E : Nat → Prop) (φ : Value → World → Prop) : Prop := ∀ v w w', φ v w → Far E w w' → φ v w'
theorem stableF_eq (E : Nat → Prop) (c : Value) : StableF E (fun v _ => v = c) := fun _ _ _ h _ => h
theorem stableF_true (E : Nat → Prop) : StableF E (fun _ _ => True) := fun _ _ _ _ _ => trivial
/-- All words but those of who comes ahead of i, and i's own, stand against what i writes. -/
def StableBut (ops : Array Oper) (i : Nat) (E : Nat → Prop) : Nat → List (Value → World → Prop) → Prop
  | _, [] => True
  | j, φ :: r => (i = j ∨ depB ops j i = true ∨ StableF E φ) ∧ StableBut ops i E (j + 1) r
def AllStableF (ops : Array Oper) (L : List (Value → World → Prop)) : List (Nat × (Nat → Prop)) → Prop
  | [] => True
  | p :: r => StableBut ops p.1 p.2 0 L ∧ AllStableF ops L r
theorem stableBut_get {ops : Array Oper} {i : Nat} {E : Nat → Prop} : ∀ {L : List (Value → World → Prop)} {s : Nat}, StableBut ops i E s L → ∀ j, i ≠ s + j → depB ops (s + j) i = false → StableF E (L.getD j (fun _ _ => True))
  | [], _, _, _, _, _ => by simpa using stableF_true E
  | φ :: r, s, h, 0, hne, hd => by
    rcases h.1 with h | h | h
    · exact absurd h hne
    · rw [Nat.add_zero] at hd; rw [hd] at h; cases h
    · exact h
  | φ :: r, s, h, j + 1, hne, hd => by
    have := stableBut_get (L := r) (s := s + 1) h.2 j (by omega) (by rw [show s + 1 + j = s + (j + 1) by omega]; exact hd)
    simpa using this
theorem allStableF_get {ops : Array Oper} {L : List (Value → World → Prop)} : ∀ {Ws : List (Nat × (Nat → Prop))}, AllStableF ops L Ws → ∀ p ∈ Ws, StableBut ops p.1 p.2 0 L
  | [], _, _, hp => by cases hp
  | q :: r, h, p, hp => by
    cases hp with
    | head => exact h.1
    | tail _ hp => exact allStableF_get h.2 p hp
/-- Each writer once. -/
def onceB (Ws : List (Nat × (Nat → Prop))) : Bool := (Ws.map (·.1)).all fun i => (Ws.map (·.1)).count i == 1
theorem once_same {Ws : List (Nat × (Nat → Prop))} (h : onceB Ws = true) {p q : Nat × (Nat → Prop)} (hp : p ∈ Ws) (hq : q ∈ Ws) (e : p.1 = q.1) : p = q := by
  induction Ws with
  | nil => cases hp
  | cons x r ih =>
    have hx : ∀ y ∈ r, y.1 ≠ x.1 := by
      intro y hy e
      have h1 := List.all_eq_true.1 h x.1 (by simp)
      rw [beq_iff_eq, List.map_cons, List.count_cons_self] at h1
      have : (r.map (·.1)).count x.1 = 0 := by omega
      exact (List.count_eq_zero.1 this) (List.mem_map.2 ⟨y, hy, e⟩)
    have hr : onceB r = true := by
      unfold onceB at h ⊢
      rw [List.all_eq_true] at h ⊢
      intro i hi
      have h1 := h i (by rw [List.map_cons]; exact .tail _ hi)
      obtain ⟨y, hy, rfl⟩ := List.mem_map.1 hi
      rw [beq_iff_eq, List.map_cons, List.count_cons_of_ne (fun e => hx y hy e.symm)] at h1
      rw [beq_iff_eq]; exact h1
    cases hp with
    | head =>
      cases hq with
      | head => rfl
      | tail _ hq => exact absurd e.symm (hx q hq)
    | tail _ hp =>
      cases hq with
      | head => exact absurd e (hx p hp)
      | tail _ hq => exact ih hr hp hq
def FootOps (P : Program) (ops : Array Oper) (Q : Exit → Act → World → Prop) (L : List (Value → World → Prop)) (Ws : List (Nat × (Nat → Prop))) (a0 : Act) (w0 : World) : Nat → List Oper → List (List (Tmp × Option Nat)) → List (Value → World → Prop) → Prop
  | i, o :: os, pl :: pls, φ :: φs => (∀ a w, Far (footBut Ws ops i) w0 w → PlanFacts L a0 a w pl →
      if Region.wanted o (yielded ops a.tmps) = true then o.wp P a w (fun a' w' => ∃ v, a' = a.put o.dst v ∧ Far (footOf Ws i) w w' ∧ φ (valOf o.dst v) w') Q else φ undef w) ∧ FootOps P ops Q L Ws a0 w0 (i + 1) os pls φs
  | _, [], _, _ => True
  | _, _, _, _ => False
theorem footOps_get {L : List (Value → World → Prop)} {Ws : List (Nat × (Nat → Prop))} {a0 : Act} {w0 : World} : ∀ {s : Nat} {os : List Oper} {pls : List (List (Tmp × Option Nat))} {φs : List (Value → World → Prop)}, FootOps P ops Q L Ws a0 w0 s os pls φs →
    ∀ (i : Nat) o pl, os[i]? = some o → pls[i]? = some pl → ∀ a w, Far (footBut Ws ops (s + i)) w0 w → PlanFacts L a0 a w pl →
      if Region.wanted o (yielded ops a.tmps) = true then o.wp P a w (fun a' w' => ∃ v, a' = a.put o.dst v ∧ Far (footOf Ws (s + i)) w w' ∧ φs.getD i (fun _ _ => True) (valOf o.dst v) w') Q else φs.getD i (fun _ _ => True) undef w
  | _, [], _, _, _, i, o, pl, ho, _ => by simp at ho
  | _, o :: os, [], _, h, _, _, _, _, _ => h.elim
  | _, o :: os, pl :: pls, [], h, _, _, _, _, _ => h.elim
  | _, o :: os, pl :: pls, φ :: φs, h, 0, o', pl', ho, hp => by
    simp at ho hp; subst ho; subst hp
    exact h.1
  | s, o :: os, pl :: pls, φ :: φs, h, i + 1, o', pl', ho, hp => by
    have := footOps_get h.2 i o' pl' (by simpa using ho) (by simpa using hp)
    rw [show s + 1 + i = s + (i + 1) by omega] at this
    simpa using this
def EveryWord (f : Nat → Value) (w : World) : List (Option Tmp) → List (Value → World → Prop) → Prop
  | some d :: ds, φ :: φs => φ (f d) w ∧ EveryWord f w ds φs
  | none :: ds, φ :: φs => φ undef w ∧ EveryWord f w ds φs
  | _, _ => True
theorem everyWord_of {f : Nat → Value} {w : World} : ∀ {os : List Oper} {L : List (Value → World → Prop)}, (∀ i o, os[i]? = some o → L.getD i (fun _ _ => True) (match o.dst with | some d => f d | none => undef) w) → EveryWord f w (os.map (·.dst)) L
  | [], _, _ => by simp [EveryWord]
  | o :: os, [], _ => by cases h : o.dst <;> simp [EveryWord, h]
  | o :: os, φ :: φs, h => by
    have ih := everyWord_of (os := os) (L := φs) (fun i o' ho => by have := h (i + 1) o' (by simpa using ho); simpa using this)
    have h0 := h 0 o rfl
    cases hd : o.dst with
    | none => rw [hd] at h0; simpa [EveryWord, hd] using ⟨h0, ih⟩
    | some d => rw [hd] at h0; simpa [EveryWord, hd] using ⟨h0, ih⟩

theorem footBut_no {Ws : List (Nat × (Nat → Prop))} {ops : Array Oper} {i k : Nat} (h : ∀ p ∈ Ws, ¬ p.2 k) : ¬ footBut Ws ops i k := fun ⟨p, hp, _, _, h3⟩ => h p hp h3
theorem footOf_of {Ws : List (Nat × (Nat → Prop))} {i : Nat} {E : Nat → Prop} {w w' : World} (hp : (i, E) ∈ Ws) (h : Far E w w') : Far (footOf Ws i) w w' := h.mono (fun _ _ hb => ⟨(i, E), hp, rfl, hb⟩)
/-- The region's law: words for the operations, blocks for those that write, the frame behind it written out. -/
theorem wp_region_foot {id : Nat} {a0 : Act} {w0 : World} (hm : P.follows .mixedOrders = true) (L : List (Value → World → Prop)) (plan : List (List (Tmp × Option Nat))) (D : List (Option Tmp)) (M : List Bool) (Ws : List (Nat × (Nat → Prop)))
    (hon : onceB Ws = true) (hok : monoOk ops a0.tmps.size = true) (hplan : planOf ops = plan) (hD : dstsOf ops = D) (hM : maskOf ops a0.tmps.size = M) (hst : AllStable L) (hstF : AllStableF ops L Ws) (hop : FootOps P ops Q L Ws a0 w0 0 ops.toList plan L)
    (hend : ∀ f w, Far (fun b => ∃ p ∈ Ws, p.2 b) w0 w → EveryWord f w D L → Q .normal { tmps := (mergeT M a0.tmps.toList 0 f).toArray, defers := a0.defers } w) :
    (Code.region id ops true).wp P Q a0 w0 := by
  refine wp_region_any hm (mono_foot (w0 := w0) (fun i => L.getD i (fun _ _ => True)) (footOf Ws) hok ?_ ?_ ?_ ops.size _ a0 _ ⟨by simp, far_below ((Below.refl _ _).drew), ?_, ?_, fun _ _ => rfl, rfl, rfl⟩ ?_)
  · intro i j v w w' hij hd hv hF
    by_cases hi : ∃ p ∈ Ws, p.1 = i
    · obtain ⟨p, hp, rfl⟩ := hi
      have hs := stableBut_get (allStableF_get hstF p hp) j (by omega) (by rw [Nat.zero_add]; exact hd)
      exact hs v w w' hv (hF.mono (fun b _ h => by
        obtain ⟨q, hq, e, hb⟩ := h
        rw [once_same hon hp hq e.symm]; exact hb))
    · exact allStable_get hst j v w w' hv (hF.below (Nat.le_refl _) (fun k _ h => by
        obtain ⟨q, hq, e, _⟩ := h
        exact hi ⟨q, hq, e⟩))
  · intro i o ho a w hb hg
    have hlt : i < ops.size := (Array.getElem?_eq_some_iff.1 ho).1
    have hpl : plan[i]? = some ((o.looksAt ops).map fun t => (t, match wr ops t with
          | some j => if depB ops i j = true then some j else none
          | none => none)) := by
      rw [← hplan]
      unfold planOf
      rw [List.getElem?_map, List.getElem?_range hlt, Option.map_some, ho]
      try rfl
    have := footOps_get hop i o _ (by simpa using ho) hpl a w (by
      rw [Nat.zero_add]
      exact hb.mono (fun b _ h => by
        obtain ⟨k, h1, h2, p, hp, rfl, h3⟩ := h
        exact ⟨p, hp, h1, h2, h3⟩)) (planFacts_of rfl (o := o) _ hg)
    rw [Nat.zero_add] at this
    exact this
  · intro a w hb hv hr hd hs
    have h := hend (fun t => a.tmps.getD t undef) w (hb.mono (fun b _ h => by
      obtain ⟨k, p, hp, _, h3⟩ := h
      exact ⟨p, hp, h3⟩)) (by rw [← hD]; exact everyWord_of (fun i o ho => hv i o (by simpa using ho)))
    have e : mergeT M a0.tmps.toList 0 (fun t => a.tmps.getD t undef) = a.tmps.toList := by
      refine mergeT_eq _ _ _ _ _ (by rw [← hM]; simp [maskOf]) (by simpa using hs) ?_ ?_
      · intro j hj _
        simp [Array.getD_eq_getD_getElem?, List.getD_eq_getElem?_getD]
      · intro j hj hb
        rw [← hM] at hb
        have hj' : j < a0.tmps.size := by rw [← hs]; simpa using hj
        have hw : wr ops j = none := by
          unfold maskOf at hb
          simp [List.getD_eq_getElem?_getD, List.getElem?_map, List.getElem?_range hj'] at hb
          exact hb
        have := hr j hw
        simpa [Array.getD_eq_getD_getElem?, List.getD_eq_getElem?_getD] using this
    rw [e, ← hd] at h
    exact h
  · intro k hk
    simp [Array.getD_eq_getD_getElem?] at hk
    rcases h : (Array.replicate ops.size false)[k]? with _ | b <;> simp [h] at hk
    subst hk
    have := Array.getElem?_eq_some_iff.1 h
    obtain ⟨h1, h2⟩ := this
    simp at h2
  · intro i o ho hk
    exfalso
    simp [Array.getD_eq_getD_getElem?] at hk
    rcases h : (Array.replicate ops.size false)[i]? with _ | b <;> simp [h] at hk
    subst hk
    have := Array.getElem?_eq_some_iff.1 h
    obtain ⟨h1, h2⟩ := this
    simp at h2
  · exact Nat.le_trans List.countP_le_length (by simp)
end
end Go.Proofs.YtamafdcnbcoegaaGreat
namespace Go.Proofs.YtamafdcnbcoegaaGreat
open Go.RowKit

theorem alloc2 (w : World) (A B : Obj) : ((w.alloc A).alloc B).heap[w.heap.size]? = some A ∧ ((w.alloc A).alloc B).heap[w.heap.size + 1]? = some B ∧ Below w.heap.size w ((w.alloc A).alloc B) := by
  have h1 := heap_alloc_new (w.alloc A) B
  have e1 : (w.alloc A).heap.size = w.heap.size + 1 := by simp
  rw [e1] at h1
  refine ⟨?_, h1, ((Below.refl _ _).alloc (Nat.le_refl _) _).alloc (by omega) _⟩
  rw [heap_alloc_old _ _ (by omega)]
  exact heap_alloc_new w A

set_option maxRecDepth 100000 in
set_option maxHeartbeats 2000000 in
theorem sealHead_any (o c a b d : Nat) (w : World) (ho : o < 4294967296) (hc : c < 18446744073709551616) (ha : a < 4294967296) (hb : b < 4294967296) (hd : d < 4294967296) :
    Calls Tryz.prog 198 #[.agg #[.int .u32 o, .int .u64 c, .int .i64 a, .int .i64 b, .int .i64 d]] w fun r w' => r = .returned (.agg (bv (Mod.sealB o c (Mod.headIn a b d))).toArray) ∧ Below w.heap.size w w' := by
  have e0 : ∀ y : World, (Instr.index 136 (.agg #[.int .i64 a, .int .i64 b, .int .i64 d]) (.int .i64 0)).run Tryz.prog y = .ok (.int .i64 a) y := fun y => by kernel_rfl
  have e1 : ∀ y : World, (Instr.index 136 (.agg #[.int .i64 a, .int .i64 b, .int .i64 d]) (.int .i64 1)).run Tryz.prog y = .ok (.int .i64 b) y := fun y => by kernel_rfl
  have e2 : ∀ y : World, (Instr.index 136 (.agg #[.int .i64 a, .int .i64 b, .int .i64 d]) (.int .i64 2)).run Tryz.prog y = .ok (.int .i64 d) y := fun y => by kernel_rfl
  have hl : ∀ n : Int, (Wire.le4 n).length = 4 := fun n => Wire.length_le4 n
  go_enter Tryz.func198, Tryz.ntmps198
  go_upto_region 2 with fail
  refine wp_world (fun x => x.heap[w.heap.size]? = some (.cells #[.int .u32 o, .int .u64 c, .int .i64 a, .int .i64 b, .int .i64 d] 217 (0, 0)) ∧ x.heap[w.heap.size + 1]? = some (.cells (bv zeros).toArray 207 (0, 0)) ∧ Below w.heap.size w x) ?_ ?_
  · exact ⟨(alloc2 _ _ _).1, cells_eq (alloc2 _ _ _).2.1 (by kernel_rfl), (alloc2 _ _ _).2.2⟩
  rintro x ⟨h0, h1, hB⟩
  have c2 : x.cell? ⟨w.heap.size, 2, none⟩ = some (.int .i64 a) := blk_cell (i := 2) h0
  have c3 : x.cell? ⟨w.heap.size, 3, none⟩ = some (.int .i64 b) := blk_cell (i := 3) h0
  have c4 : x.cell? ⟨w.heap.size, 4, none⟩ = some (.int .i64 d) := blk_cell (i := 4) h0
  have hz := lt_of_block h1
  have H0 := hide h0
  have H1 := hide h1
  have HB0 := hide hB
  clear h0 h1 hB
  go_wp2
  go_loopw [3, 5, 8] (fun v _ i wr => ∃ j : Nat, j ≤ 3 ∧ i = .int .i64 j ∧ Owns (w.heap.size + 2) wr v ((Mod.headIn a b d).take (4 * j)) ∧ wr.heap[w.heap.size]? = some (.cells #[.int .u32 o, .int .u64 c, .int .i64 a, .int .i64 b, .int .i64 d] 217 (0, 0)) ∧ wr.heap[w.heap.size + 1]? = some (.cells (bv zeros).toArray 207 (0, 0)) ∧ Below w.heap.size w wr) (fun _ _ i _ => 3 - (intOf i).toNat)
  case atStart => exact ⟨0, by omega, rfl, owns_nil _ _, unhide H0, unhide H1, unhide HB0⟩
  case round =>
    obtain ⟨j, hj, rfl, ho', h0', h1', hb'⟩ := hrel
    clear H0 H1 HB0 c2 c3 c4
    have hz' := lt_of_block h1'
    have HO := hide ho'
    have H0 := hide h0'
    have H1 := hide h1'
    have HB := hide hb'
    clear ho' h0' h1' hb'
    rcases (show j = 0 ∨ j = 1 ∨ j = 2 ∨ j = 3 by omega) with rfl | rfl | rfl | rfl
    · have HL := hide (show (Mod.headIn a b d).take (4 * (0 + 1)) = (Mod.headIn a b d).take (4 * 0) ++ Wire.le4 a by simp [Mod.headIn, Wire.le4])
      go_upto_region 6 with (go_at_call 135; refine (appendNumber_any (w.heap.size + 2) (a : Int) u3 _ wr (by simp only [List.length_take, Mod.length_headIn]; omega) (by omega) (by omega) (unhide HO)).mono ?_; rintro r z ⟨v', rfl, hown, hg⟩; have hb2 : Below (w.heap.size + 2) wr z := below_grown_new hg (by omega) (fun g hg => ((unhide HO).lt g hg).1); have HO2 := hide hown; have HB2 := hide ((unhide HB).trans (hb2.mono (by omega))); have H02 := hide ((hb2.block _ (by omega)).trans (unhide H0)); have H12 := hide ((hb2.block _ (by omega)).trans (unhide H1)); clear hown hg hb2)
      go_wp2
      exact ⟨⟨0 + 1, by omega, by go_num, by rw [unhide HL]; exact unhide HO2, unhide H02, unhide H12, unhide HB2⟩, by simp [intOf]⟩
    · have HL := hide (show (Mod.headIn a b d).take (4 * (1 + 1)) = (Mod.headIn a b d).take (4 * 1) ++ Wire.le4 b by simp [Mod.headIn, Wire.le4])
      go_upto_region 6 with (go_at_call 135; refine (appendNumber_any (w.heap.size + 2) (b : Int) u3 _ wr (by simp only [List.length_take, Mod.length_headIn]; omega) (by omega) (by omega) (unhide HO)).mono ?_; rintro r z ⟨v', rfl, hown, hg⟩; have hb2 : Below (w.heap.size + 2) wr z := below_grown_new hg (by omega) (fun g hg => ((unhide HO).lt g hg).1); have HO2 := hide hown; have HB2 := hide ((unhide HB).trans (hb2.mono (by omega))); have H02 := hide ((hb2.block _ (by omega)).trans (unhide H0)); have H12 := hide ((hb2.block _ (by omega)).trans (unhide H1)); clear hown hg hb2)
      go_wp2
      exact ⟨⟨1 + 1, by omega, by go_num, by rw [unhide HL]; exact unhide HO2, unhide H02, unhide H12, unhide HB2⟩, by simp [intOf]⟩
    · have HL := hide (show (Mod.headIn a b d).take (4 * (2 + 1)) = (Mod.headIn a b d).take (4 * 2) ++ Wire.le4 d by simp [Mod.headIn, Wire.le4])
      go_upto_region 6 with (go_at_call 135; refine (appendNumber_any (w.heap.size + 2) (d : Int) u3 _ wr (by simp only [List.length_take, Mod.length_headIn]; omega) (by omega) (by omega) (unhide HO)).mono ?_; rintro r z ⟨v', rfl, hown, hg⟩; have hb2 : Below (w.heap.size + 2) wr z := below_grown_new hg (by omega) (fun g hg => ((unhide HO).lt g hg).1); have HO2 := hide hown; have HB2 := hide ((unhide HB).trans (hb2.mono (by omega))); have H02 := hide ((hb2.block _ (by omega)).trans (unhide H0)); have H12 := hide ((hb2.block _ (by omega)).trans (unhide H1)); clear hown hg hb2)
      go_wp2
      exact ⟨⟨2 + 1, by omega, by go_num, by rw [unhide HL]; exact unhide HO2, unhide H02, unhide H12, unhide HB2⟩, by simp [intOf]⟩
    · rw [List.take_of_length_le (by rw [Mod.length_headIn]; omega)] at HO
      have c0 : wr.cell? ⟨w.heap.size, 0, none⟩ = some (.int .u32 o) := blk_cell (i := 0) (unhide H0)
      have c1 : wr.cell? ⟨w.heap.size, 1, none⟩ = some (.int .u64 c) := blk_cell (i := 1) (unhide H0)
      have hS := hide (seal_any o c (Mod.headIn a b d) u3 wr ho hc (by rw [Mod.length_headIn]; omega) (unhide HO).at)
      have hL3 : (Mod.sealB o c (Mod.headIn a b d)).length = 64 := Mod.length_sealB o c (by rw [Mod.length_headIn]; omega)
      obtain ⟨S, hSd⟩ : ∃ S, S = Mod.sealB o c (Mod.headIn a b d) := ⟨_, rfl⟩
      rw [← hSd] at hS hL3
      have HSD := hide hSd
      clear hSd
      go_wp2_with (first
        | (go_at_call 184; refine (unhide hS).mono ?_; rintro r z ⟨rfl, hb3⟩)
        | (refine wpList_store_sec rfl (.tmp 2) (.tmp 19) rfl (w.heap.size + 1) rfl S hL3 rfl 207 _ (by simp [bv_length, length_zeros]) ((hb3.block _ (by omega)).trans (unhide H1)) ?_; intro z4 hz4 hF4; go_simp))
      exact bodyPost_ret (results_sec Tryz.results198 _ _ (w.heap.size + 1) _ _ hL3 rfl hz4) rfl ⟨by rw [unhide HSD], ((unhide HB).trans (hb3.mono (unhide HB).size)).trans (hF4.below (by have := (unhide HB).size; have := hb3.size; omega) (fun k hk e => by omega))⟩

/-- append of a string's bytes. -/
theorem oper_app_str {o : Oper} {a : Act} {K : Act → World → Prop} {Q : Exit → Act → World → Prop} {w : World} (s x : Operand)
    (ho : o.op = .call { callee := .builtin .append, args := #[s, x], argTypes := #[44, 9] }) (B : Nat) (v : Value) (l : List UInt8) (hown : Owns B w v l) (hs : a.eval s = v)
    (str : ByteArray) (hx : a.eval x = .string str) (hsz : l.length + str.size ≤ 140737488355328) (hB : B ≤ w.heap.size)
    (h : ∀ v' w', Owns B w' v' (l ++ str.data.toList) → w.grownBy w' v.ownBlock → K (a.put o.dst v') w') : o.wp Tryz.prog a w K Q := by
  obtain ⟨i0, hi, hz0, hz1, hz2⟩ := info_parts info5
  obtain ⟨v', w', hr, h1, h2, _⟩ := Lib.run_append_own_string (P := Tryz.prog) w B 44 9 o.type 5 i0 Tryz.underlying44 Tryz.underlying9 hi hz0 hz1 hz2 v l.length (bv l) hown str
    (by unfold maxLen; omega) hsz hB
  unfold Oper.wp execOp
  simp only [ho, resolve, invoke, builtin, Sem.run_bind, Sem.run_pure, Result.andThen_ok, List.map_toArray, List.map_cons, List.map_nil, hs, hx, hr]
  refine h v' w' ?_ h2
  unfold Owns
  rw [bv_append, List.length_append, ← bv_str]
  have : str.data.toList.length = str.size := by simp
  rw [this]
  exact h1
theorem ownsRow_keepB {w w' : World} {B size : Nat} {e : TypeId} {v : Value} {n : Nat} {xs : List Value} (h : w.ownsRow B e size v n xs) (hk : ∀ g, v.ownBlock = some g → w'.heap[g]? = w.heap[g]?) : w'.ownsRow B e size v n xs := by
  obtain ⟨h1, h2⟩ := h
  refine ⟨h1, ?_⟩
  rcases h2 with h2 | ⟨g, cap, cur, rfl, hb, hh, r⟩
  · exact .inl h2
  · exact .inr ⟨g, cap, cur, rfl, hb, by rw [hk g rfl]; exact hh, r⟩
theorem stableF_ownsW {B : Nat} {l : List UInt8} {E : Nat → Prop} (hE : ∀ k, E k → k < B) : StableF E (OwnsW B l) := fun _ _ _ h hF =>
  ⟨ownsRow_keepB h.1 (fun g hg => hF.rest g (h.2 g hg) (fun e => by have := (h.1.lt g hg).1; have := hE g e; omega)), fun g hg => Nat.lt_of_lt_of_le (h.2 g hg) hF.size⟩
theorem stable_blk (k : Nat) (o : Obj) : Stable (fun _ w => w.heap[k]? = some o) := fun _ _ _ h hb => (hb.block k (lt_of_block h)).trans h
theorem stableF_blk {k : Nat} {o : Obj} {E : Nat → Prop} (hE : ¬ E k) : StableF E (fun _ w => w.heap[k]? = some o) := fun _ _ _ h hF => hF.blk h hE
theorem owns_two {B : Nat} (x : World) (hB : B ≤ x.heap.size) (a b : Nat) (ha : a < 256) (hb : b < 256) : Owns B (x.alloc (.cells #[.int .u8 a, .int .u8 b] 5)) (.slice (some ⟨x.heap.size, 0, none⟩) 2 2) [UInt8.ofNat (a % 256), UInt8.ofNat (b % 256)] := by
  refine ⟨by simp [bv], .inr ⟨x.heap.size, 2, _, rfl, hB, heap_alloc_new x _, by simp, by unfold maxLen; omega, by simp, ?_⟩⟩
  have h1 : a % 256 = a := by omega
  have h2 : b % 256 = b := by omega
  simp [bv, h1, h2]

set_option maxRecDepth 100000 in
set_option maxHeartbeats 2000000 in
theorem sealRecord_any (o c st q : Nat) (b : ByteArray) (w : World) (ho : o < 4294967296) (hc : c < 18446744073709551616) (hs : st < 256) (hq : q < 4294967296) (hb : b.size ≤ 20) :
    Calls Tryz.prog 131 #[.agg #[.int .u32 o, .int .u64 c], .agg #[.int .i64 st, .int .i64 q, .string b]] w fun r w' => r = .returned (.agg (bv (Mod.sealB o c (Mod.recIn st q b.data.toList))).toArray) ∧ Below w.heap.size w w' := by
  have hws : IntKind.u8.wrap (st : Int) = (st : Int) := by rw [IntKind.wrap_u8]; omega
  have hwb : IntKind.u8.wrap (b.size : Int) = (b.size : Int) := by rw [IntKind.wrap_u8]; omega
  have hwq : IntKind.u32.wrap (q : Int) = (q : Int) := by rw [IntKind.wrap_u32]; omega
  go_enter Tryz.func131, Tryz.ntmps131
  go_upto_region 1 with fail
  refine wp_world (fun x => x.heap[w.heap.size]? = some (.cells #[.int .u32 o, .int .u64 c] 201 (0, 0)) ∧ x.heap[w.heap.size + 1]? = some (.cells #[.int .i64 st, .int .i64 q, .string b] 155 (0, 0)) ∧ x.heap[w.heap.size + 2]? = some (.cells (bv zeros).toArray 207 (0, 0)) ∧ Below w.heap.size w x) ?_ ?_
  · exact ⟨(alloc3 _ _ _ _).1, (alloc3 _ _ _ _).2.1, cells_eq (alloc3 _ _ _ _).2.2.1 (by kernel_rfl), (alloc3 _ _ _ _).2.2.2⟩
  rintro x ⟨h0, h1, h2, hB⟩
  have hz := lt_of_block h2
  have c0 : x.cell? ⟨w.heap.size + 1, 0, none⟩ = some (.int .i64 st) := blk_cell (i := 0) h1
  have c1 : x.cell? ⟨w.heap.size + 1, 1, none⟩ = some (.int .i64 q) := blk_cell (i := 1) h1
  have c2 : x.cell? ⟨w.heap.size + 1, 2, none⟩ = some (.string b) := blk_cell (i := 2) h1
  have c1a : ∀ ob, (x.alloc ob).cell? ⟨w.heap.size + 1, 1, none⟩ = some (.int .i64 q) := fun ob => by
    exact (World.cell?_alloc_lt x _ ⟨w.heap.size + 1, 1, none⟩ (by show w.heap.size + 1 < _; omega)).trans c1
  have H0 := hide h0
  have H1 := hide h1
  have H2 := hide h2
  have HB := hide hB
  clear h0 h1 h2 hB
  have hA := fun (v : Value) (l : List UInt8) (n : Int) (y : World) (h1 : l.length ≤ 1000) (h2 : w.heap.size + 3 ≤ y.heap.size) (h3 : 0 ≤ n) (h4 : Owns (w.heap.size + 3) y v l) => hide (appendNumber_any (w.heap.size + 3) n v l y h1 h2 h3 h4)
  have hO2 := hide (owns_two x (B := w.heap.size + 3) (by omega) st b.size hs (by omega))
  go_upto_region 2 with (go_at_call 135; refine (unhide (hA _ _ (q : Int) _ (by simp) (by simp; omega) (by omega) (unhide hO2))).mono ?_; rintro r y ⟨v5, rfl, hown, hg⟩)
  have b1 : Below (w.heap.size + 3) x y := ((Below.refl _ _).alloc (by omega) _).trans (below_grown_new hg (by simp; omega) (fun g hg => ((unhide hO2).lt g hg).1))
  have H0 := hide ((b1.block _ (by omega)).trans (unhide H0))
  have h1y := (b1.block (w.heap.size + 1) (by omega)).trans (unhide H1)
  have H2 := hide ((b1.block (w.heap.size + 2) (by omega)).trans (unhide H2))
  have HB := hide ((unhide HB).trans (b1.mono (by omega)))
  have hzy := b1.size
  have HO := hide hown
  have c0 : y.cell? ⟨w.heap.size, 0, none⟩ = some (.int .u32 o) := blk_cell (i := 0) (unhide H0)
  have c0' : y.cell? ⟨w.heap.size, 1, none⟩ = some (.int .u64 c) := blk_cell (i := 1) (unhide H0)
  have c2 : y.cell? ⟨w.heap.size + 1, 2, none⟩ = some (.string b) := blk_cell (i := 2) h1y
  clear hown hg hO2 c1a c1 h1y b1
  have hrl : (Mod.recIn st q b.data.toList).length ≤ 40 := by rw [Mod.length_recIn]; simp; omega
  have hL3 : (Mod.sealB o c (Mod.recIn st q b.data.toList)).length = 64 := Mod.length_sealB o c hrl
  obtain ⟨R, hR⟩ : ∃ R, R = Mod.recIn st q b.data.toList := ⟨_, rfl⟩
  rw [← hR] at hrl hL3
  have hRe : [UInt8.ofNat (st % 256), UInt8.ofNat (b.size % 256)] ++ Wire.le4 q ++ b.data.toList = R := by rw [hR]; simp [Mod.recIn]
  have hS := fun v y hat => hide (seal_any o c R v y ho hc hrl hat)
  obtain ⟨S, hSd⟩ : ∃ S, S = Mod.sealB o c R := ⟨_, rfl⟩
  rw [← hSd] at hS hL3
  have hSR := hide (show S = Mod.sealB o c (Mod.recIn st q b.data.toList) by rw [hSd, hR])
  have hRe := hide hRe
  clear hSd hR
  have hvB := hide (fun g hg => ((unhide HO).lt g hg).1)
  have hnb : ∀ k, k < w.heap.size + 2 → ∀ p ∈ ([(4, fun k => v5.ownBlock = some k), (6, fun k => k = w.heap.size + 2)] : List (Nat × (Nat → Prop))), ¬ p.2 k := by
    intro k hk p hp
    simp at hp
    rcases hp with rfl | rfl
    · intro e
      have := (unhide hvB) k e
      omega
    · intro e
      have e : k = w.heap.size + 2 := e
      omega
  refine wp_region_foot (by kernel_rfl)
    [fun v _ => v = .agg #[.int .u32 o, .int .u64 c], fun v _ => v = v5, fun v _ => v = .pointer (some ⟨w.heap.size + 1, 2, none⟩), fun v _ => v = .string b, OwnsW (w.heap.size + 3) R, fun v _ => v = .agg (bv S).toArray, fun _ z => z.heap[w.heap.size + 2]? = some (.cells (bv S).toArray 207 (0, 0))]
    [[(2, none)], [(5, none)], [(3, none)], [(20, some 2)], [(19, some 1), (21, some 3)], [(18, some 0), (22, some 4)], [(4, none), (23, some 5)]] [some 18, some 19, some 20, some 21, some 22, some 23, none] [false, false, false, false, false, false, false, false, false, false, false, false, false, false, false, false, false, false, true, true, true, true, true, true]
    [(4, fun k => v5.ownBlock = some k), (6, fun k => k = w.heap.size + 2)]
    (by kernel_rfl) (by kernel_rfl) (by kernel_rfl) (by kernel_rfl) (by kernel_rfl) ?_ ?_ ?_ ?_
  · repeat' (first | exact stable_eq _ | exact stable_ownsW _ _ | exact stable_blk _ _ | exact trivial | apply And.intro)
  · repeat' (first | exact trivial | exact .inl rfl | exact .inr (.inr (stableF_eq _ _)) | exact .inr (.inr (stableF_ownsW (fun k hk => by omega))) | exact .inr (.inr (stableF_blk (fun e => by have := (unhide hvB) _ e; omega))) | apply And.intro)
  · refine ⟨?_, ?_, ?_, ?_, ?_, ?_, ?_, trivial⟩
    all_goals
      intro a z hb hf
      have z0 := hb.blk (unhide H0) (footBut_no (hnb _ (by omega)))
      have d0 : z.cell? ⟨w.heap.size, 0, none⟩ = some (.int .u32 o) := blk_cell (i := 0) z0
      have d1 : z.cell? ⟨w.heap.size, 1, none⟩ = some (.int .u64 c) := blk_cell (i := 1) z0
      have d2 : z.cell? ⟨w.heap.size + 1, 2, none⟩ = some (.string b) := by
        have := hb.rest (w.heap.size + 1) (by omega) (footBut_no (hnb _ (by omega)))
        unfold World.cell? at c2 ⊢
        simp only at c2 ⊢
        rw [this]
        exact c2
      have hzz := hb.size
      have HBZ := hide hb
      clear hb z0
      simp only [PlanFacts, List.getD_cons_zero, List.getD_cons_succ, Array.getD_eq_getD_getElem?] at hf
      try simp at hf
    · go_simp
      exact ⟨_, rfl, Far.refl _ _, rfl⟩
    · go_simp
      exact ⟨_, rfl, Far.refl _ _, rfl⟩
    · go_simp
      exact ⟨_, rfl, Far.refl _ _, rfl⟩
    · go_simp
      exact ⟨_, rfl, Far.refl _ _, rfl⟩
    · have hoz : Owns (w.heap.size + 3) z v5 _ := ownsRow_keepB (unhide HO) (fun g hg => (unhide HBZ).rest g ((unhide HO).lt g hg).2 (by
        rintro ⟨p, hp, h1, _, h3⟩
        simp at hp
        rcases hp with rfl | rfl
        · exact h1 rfl
        · have := (unhide hvB) g hg
          have h3 : g = w.heap.size + 2 := h3
          omega))
      rw [if_pos (by rfl)]
      refine oper_app_str (.tmp 19) (.tmp 21) rfl (w.heap.size + 3) v5 _ hoz (by simp [Act.eval, hf]) b (by simp [Act.eval, hf]) (by simp [Wire.length_le4]; omega) (by omega) ?_
      intro v' w' h1 h2
      rw [show _ = R from unhide hRe] at h1
      exact ⟨v', rfl, footOf_of (.head _) (far_grown h2), h1, fun g hg => (h1.lt g hg).2⟩
    · go_simp
      refine (unhide (hS _ z hf.2.1.at)).mono ?_
      rintro r w1 ⟨rfl, hb1⟩
      exact ⟨_, rfl, far_below hb1, rfl⟩
    · have z2 := (unhide HBZ).blk (unhide H2) (by
        rintro ⟨p, hp, h1, _, h3⟩
        simp at hp
        rcases hp with rfl | rfl
        · have := (unhide hvB) _ h3
          omega
        · exact h1 rfl)
      rw [if_pos (by rfl)]
      refine oper_store_sec (.tmp 4) (.tmp 23) rfl (w.heap.size + 2) (by simp [Act.eval, hf]) S hL3 (by simp [Act.eval, hf]) 207 _ (by simp [bv_length, length_zeros]) z2 ?_
      intro w' h1 h2
      exact ⟨_, rfl, footOf_of (.tail _ (.head _)) h2, h1⟩
  · intro f z hF hwd
    have hsec := hwd.2.2.2.2.2.2.1
    have HBZ := hide ((unhide HB).trans (hF.below (by omega) (fun k hk h => by
      obtain ⟨p, hp, h3⟩ := h
      exact hnb k (by omega) p hp h3)))
    clear hwd hF
    simp only [mergeT]
    generalize f 18 = x18
    generalize f 19 = x19
    generalize f 20 = x20
    generalize f 21 = x21
    generalize f 22 = x22
    generalize f 23 = x23
    go_simp
    go_wp2
    exact bodyPost_ret (results_sec Tryz.results131 _ _ (w.heap.size + 2) _ _ hL3 rfl hsec) rfl ⟨by rw [unhide hSR], unhide HBZ⟩
end Go.Proofs.YtamafdcnbcoegaaGreat
namespace Go.Proofs.YtamafdcnbcoegaaGreat
open Go.RowKit

/-- copy of bytes into a block of whatever cells. -/
theorem oper_copy_cur {o : Oper} {a : Act} {w : World} {K : Act → World → Prop} {Q : Exit → Act → World → Prop} (d s : Operand)
    (ho : o.op = .call { callee := .builtin .copy, args := #[d, s], argTypes := #[44, 44] }) (g off n cap m : Nat) (cur : Array Value) (cs : List Value) (t : TypeId) (b o' cap' : Nat)
    (hg : w.heap[g]? = some (.cells cur t (0, 0))) (hd : a.eval d = .slice (some ⟨g, off, none⟩) n cap) (hs : a.eval s = .slice (some ⟨b, o', none⟩) m cap') (hm : cs.length = m) (hsrc : ∀ j v, cs[j]? = some v → w.cell? ⟨b, o' + j, none⟩ = some v) (hl : m ≤ n) (hfit : off + m ≤ cur.size) (h1 : ∀ v ∈ cs, v.oneCell' = true)
    (h : ∀ w', w'.heap[g]? = some (.cells (cur.toList.take off ++ (cs ++ cur.toList.drop (off + m))).toArray t (0, 0)) → Far (fun k => k = g) w w' → K (a.put o.dst (.int .i64 m)) w') : o.wp Tryz.prog a w K Q := by
  subst hm
  have hrun := run_copy_row (P := Tryz.prog) w 44 44 o.type 5 g off n cap ⟨b, o', none⟩ cs.length cap' cur t cs Tryz.underlying44 size5 hg (Nat.min_eq_left hl).symm (by
    intro j u hj
    rw [add_mk]
    exact hsrc j u hj) hfit h1
  unfold Oper.wp
  simp [execOp, ho, resolve, invoke, builtin, hd, hs, hrun, Result.andThen]
  exact h _ (setRow_heap w g cur _ t (0, 0) hg) ⟨rfl, rfl, rfl, by simp, fun k _ hk => setRow_other w g k _ hk⟩

set_option maxRecDepth 100000 in
set_option maxHeartbeats 1000000 in
theorem apply_any (w : World) (k : Nat) (S L : List UInt8) (lv : Value) (hS : S.length = 64) (hk : 64 * k + 64 ≤ L.length) (hL : L.length ≤ 10000) (hrow : w.ownsRow 0 5 1 lv L.length (bv L)) :
    Calls Tryz.prog 193 #[.agg (.int .i64 k :: bv S).toArray, lv] w fun r w' => r = .returned (.tuple #[]) ∧ w'.ownsRow 0 5 1 lv (Mod.setSec L k S).length (bv (Mod.setSec L k S)) ∧ Far (fun j => lv.ownBlock = some j) w w' := by
  have hlen := Mod.length_setSec (l := L) (k := k) hS hk
  obtain ⟨h1, h2⟩ := hrow
  rcases h2 with ⟨_, h2⟩ | ⟨g, cap, cur, rfl, hB, hh, hn, hc, hs, ht⟩
  · omega
  have hgl := lt_of_block hh
  obtain ⟨n, hnl⟩ : ∃ n, n = L.length := ⟨_, rfl⟩
  rw [← hnl] at hk hL h1 hn ht hlen ⊢
  have i0 : (0 : Int) ≤ (k : Int) * 64 := by omega
  have i1 : (k : Int) * 64 ≤ (n : Int) := by omega
  have it : ((k : Int) * 64).toNat = k * 64 := by omega
  have i2 : (n : Int) ≤ (cap : Int) := by omega
  have hw : IntKind.i64.wrap ((k : Int) * 64) = (k : Int) * 64 := by rw [IntKind.wrap_i64]; omega
  have hne : ¬ cap = k * 64 := by omega
  have hne2 : ¬ (cap : Int) = (k : Int) * 64 := by omega
  have HNL := hide hnl
  have HLEN := hide hlen
  have HT := hide ht
  have HH := hide hh
  clear hnl hlen ht hh
  go_enter Tryz.func193, Tryz.ntmps193
  go_upto_region 1 with fail
  refine wp_world (fun x => x.heap[w.heap.size]? = some (.cells (.int .i64 k :: bv S).toArray 261 (0, 0)) ∧ Below w.heap.size w x) ⟨heap_alloc_new w _, (Below.refl _ _).alloc (Nat.le_refl _) _⟩ ?_
  rintro x ⟨h0, hB0⟩
  have c0 : x.cell? ⟨w.heap.size, 0, none⟩ = some (.int .i64 k) := by rw [blk_cell h0]; simp
  have hz := lt_of_block h0
  have H0 := hide h0
  have HB0 := hide hB0
  clear h0 hB0
  refine wp_region_last (by kernel_rfl)
    [fun v _ => v = .slice (some ⟨g, 0, none⟩) n cap, fun v _ => v = .pointer (some ⟨w.heap.size, 0, none⟩), fun v _ => v = .int .i64 k, fun v _ => v = .int .i64 ((k : Int) * 64), fun v _ => v = .slice (some ⟨g, k * 64, none⟩) (n - k * 64) (cap - k * 64), fun v _ => v = .pointer (some ⟨w.heap.size, 1, none⟩), fun v _ => v = .slice (some ⟨w.heap.size, 1, none⟩) 64 64, fun _ _ => True]
    [[(1, none)], [(2, none)], [(5, some 1)], [(6, some 2)], [(4, some 0), (7, some 3)], [(2, none)], [(9, some 5)], [(8, some 4), (10, some 6)]] [some 4, some 5, some 6, some 7, some 8, some 9, some 10, some 11] [false, false, false, false, true, true, true, true, true, true, true, true]
    7 _ rfl rfl (by kernel_rfl) (by kernel_rfl) (by kernel_rfl) (by kernel_rfl) (by kernel_rfl) (by kernel_rfl) ?_ ?_ ?_
  · repeat' (first | exact stable_eq _ | exact stable_true | exact trivial | apply And.intro)
  · refine ⟨?_, ?_, ?_, ?_, ?_, ?_, ?_, trivial⟩
    all_goals
      intro a y hb hf
      have y0 := (hb.cell (p := ⟨w.heap.size, 0, none⟩) (by show w.heap.size < _; omega)).trans c0
      have hzy := hb.size
      clear hb
      simp only [PlanFacts, List.getD_cons_zero, List.getD_cons_succ, Array.getD_eq_getD_getElem?] at hf
      try simp at hf
      try go_simp
      try exact Below.refl _ _
  · intro f y hb hwd
    simp only [AllWords, List.take] at hwd
    have hf8 := hwd.2.2.2.2.1
    have hf10 := hwd.2.2.2.2.2.2.1
    simp only [mergeT, hf8, hf10]
    have g0 := (hb.block _ (by show w.heap.size < _; omega)).trans (unhide H0)
    have gl := (hb.block g (by have := (unhide HB0).size; omega)).trans (((unhide HB0).block g hgl).trans (unhide HH))
    have HBY := hide ((unhide HB0).trans (hb.mono (by have := (unhide HB0).size; omega)))
    have hzy := hb.size
    refine oper_copy_cur (.tmp 8) (.tmp 10) rfl g (k * 64) (n - k * 64) (cap - k * 64) 64 cur (bv S) 5 w.heap.size 1 64 gl rfl rfl (by rw [bv_length, hS]) ?_ (by omega) (by omega) (bv_oneCell S) ?_
    · intro j v hj
      rw [blk_cell g0, List.getElem?_toArray, Nat.add_comm 1 j, List.getElem?_cons_succ]
      exact hj
    · intro z hz hF
      have hcells : ((cur.toList.take (k * 64) ++ (bv S ++ cur.toList.drop (k * 64 + 64))).toArray).toList.take (n * 1) = bv (Mod.setSec L k S) := by
        have hA : (cur.toList.take (k * 64)).length = k * 64 := by rw [List.length_take, Array.length_toList]; omega
        have hb2 : bv (Mod.setSec L k S) = (bv L).take (64 * k) ++ (bv S ++ (bv L).drop (64 * k + 64)) := by simp [Mod.setSec, bv, List.map_take, List.map_drop]
        rw [List.toList_toArray, hb2, ← unhide HT, Nat.mul_one, List.take_take, List.drop_take, List.take_append, List.take_append, hA, bv_length, hS, List.take_of_length_le (l := cur.toList.take (k * 64)) (by rw [hA]; omega), List.take_of_length_le (l := bv S) (by rw [bv_length, hS]; omega)]
        rw [show min (64 * k) n = k * 64 by omega, show 64 * k + 64 = k * 64 + 64 by omega, show n - k * 64 - 64 = n - (k * 64 + 64) by omega]
      have HZ := hide hz
      have HF := hide hF
      clear hb hwd hf8 hf10 g0 gl hz hF c0
      go_simp
      go_wp2
      refine bodyPost_end (results_none rfl _ _ _) rfl ?_
      refine ⟨rfl, ⟨by rw [bv_length]; omega, .inr ⟨g, cap, _, by rw [unhide HLEN], Nat.zero_le _, unhide HZ, by rw [unhide HLEN]; omega, hc, by simp [bv_length]; omega, by rw [unhide HLEN]; exact hcells⟩⟩, ?_⟩
      exact (far_below (E := fun j => (Value.slice (some ⟨g, 0, none⟩) n cap).ownBlock = some j) (unhide HBY)).trans (unhide HF) (fun j _ e => by rw [e]; rfl)

/-- A disk: what is lasting, no write that isn't. -/
structure DkAt (w : World) (p : Nat) (d : Mod.Dk) (lv uv : Value) : Prop where
  blk : w.heap[p]? = some (.cells #[lv, uv, .int .i64 d.armed, .bool d.dead] 252 (0, 0))
  row : w.ownsRow 0 5 1 lv d.bytes.length (bv d.bytes)
  un : RowO w 261 65 uv 0 []
  len : 128 ≤ d.bytes.length ∧ d.bytes.length ≤ 10000
  arm : d.armed ≤ 9223372036854775807
def DkU (p : Nat) (lv uv : Value) (k : Nat) : Prop := k = p ∨ lv.ownBlock = some k ∨ uv.ownBlock = some k
theorem DkAt.far {E : Nat → Prop} {w x : World} {p : Nat} {d : Mod.Dk} {lv uv : Value} (h : DkAt w p d lv uv) (hf : Far E w x) (hE : ∀ k, DkU p lv uv k → ¬ E k) : DkAt x p d lv uv :=
  ⟨hf.blk h.blk (hE p (.inl rfl)), ownsRow_keepB h.row (fun g hg => hf.rest g (World.ownsRow.lt h.row g hg).2 (hE g (.inr (.inl hg)))), h.un.far hf (fun g hg => hE g (.inr (.inr hg))), h.len, h.arm⟩
theorem DkAt.lt {w : World} {p : Nat} {d : Mod.Dk} {lv uv : Value} (h : DkAt w p d lv uv) : ∀ k, DkU p lv uv k → k < w.heap.size := by
  rintro k (rfl | hk | hk)
  · exact lt_of_block h.blk
  · exact (World.ownsRow.lt h.row k hk).2
  · exact h.un.lt k hk

/-- Write, on a disk that has failed. -/
theorem diskWrite_dead (w : World) (p : Nat) (lv uv : Value) (n : Int) (k : Nat) (S : List UInt8) (hb : w.heap[p]? = some (.cells #[lv, uv, .int .i64 n, .bool true] 252 (0, 0))) :
    Calls Tryz.prog 182 #[.pointer (some ⟨p, 0, none⟩), .int .i64 k, .agg (bv S).toArray] w fun r w' => r = .returned (.int .i64 3) ∧ Below w.heap.size w w' := by
  have hpl := lt_of_block hb
  have c3 : ∀ ob, (w.alloc ob).cell? ⟨p, 3, none⟩ = some (.bool true) := fun ob => (World.cell?_alloc_lt w _ ⟨p, 3, none⟩ hpl).trans (blk_cell (i := 3) hb)
  clear hb
  go_enter Tryz.func182, Tryz.ntmps182
  go_wp2
  go_ret
  exact ⟨rfl, (Below.refl _ _).alloc (Nat.le_refl _) _⟩
/-- Write, at the write at which the disk fails. -/
theorem diskWrite_fail (w : World) (p : Nat) (lv uv : Value) (k : Nat) (S : List UInt8) (hb : w.heap[p]? = some (.cells #[lv, uv, .int .i64 1, .bool false] 252 (0, 0))) :
    Calls Tryz.prog 182 #[.pointer (some ⟨p, 0, none⟩), .int .i64 k, .agg (bv S).toArray] w fun r w' => r = .returned (.int .i64 4) ∧ w'.heap[p]? = some (.cells #[lv, uv, .int .i64 1, .bool true] 252 (0, 0)) ∧ Far (fun j => j = p) w w' := by
  have hpl := lt_of_block hb
  have hb2 : ∀ ob, (w.alloc ob).heap[p]? = some (.cells #[lv, uv, .int .i64 1, .bool false] 252 (0, 0)) := fun ob => (heap_alloc_old _ _ hpl).trans hb
  have c3 : ∀ ob, (w.alloc ob).cell? ⟨p, 3, none⟩ = some (.bool false) := fun ob => blk_cell (i := 3) (hb2 ob)
  have c2 : ∀ ob, (w.alloc ob).cell? ⟨p, 2, none⟩ = some (.int .i64 1) := fun ob => blk_cell (i := 2) (hb2 ob)
  have f3 : ∀ ob, (w.alloc ob).frozen? ⟨p, 3, none⟩ = false := fun ob => blk_free (i := 3) (hb2 ob)
  clear hb2
  replace hb := hide hb
  go_enter Tryz.func182, Tryz.ntmps182
  go_wp2
  go_ret
  refine ⟨rfl, ?_, ?_⟩
  · rw [heap_alloc_old _ _ (by rw [World.size_setCell]; exact hpl)]
    have := blk_set (j := 3) (v := .bool true) (unhide hb)
    simpa using this
  · exact (far_set w p 3 _).trans (far_below ((Below.refl _ _).alloc (Nat.le_refl _) _)) (fun _ _ h => h)
end Go.Proofs.YtamafdcnbcoegaaGreat
namespace Go.Proofs.YtamafdcnbcoegaaGreat
namespace Mod

/-- Of a stream: how many records are no longer kept; those that are, with the tick of the last sending (0: none); the numbers held. -/
structure Flow where
  base : Nat
  kept : List (ByteArray × Nat)
  held : List Nat
structure Ag where
  epoch : Nat
  ticks : Nat
  welcome : Bool
  fenced : Bool
  fl : Nat → Flow

def upd (f : Nat → Flow) (s : Nat) (x : Flow) : Nat → Flow := fun t => if t = s then x else f t
theorem upd_same (f : Nat → Flow) (s : Nat) (x : Flow) : upd f s x s = x := by simp [upd]
theorem upd_other (f : Nat → Flow) {s t : Nat} (x : Flow) (h : t ≠ s) : upd f s x t = f t := by simp [upd, h]

def Ag.room (a : Ag) : Nat := (a.fl 0).kept.length + (a.fl 1).kept.length + (a.fl 2).kept.length
/-- What is wrong with a Submit. -/
def Ag.refuses (a : Ag) (stream : Int) (size : Nat) : Int :=
  if stream < 0 ∨ 3 ≤ stream then 5 else if 20 < size then 6 else if 24 ≤ a.room then 7 else 0
def Ag.submit (a : Ag) (s : Nat) (body : ByteArray) : Ag := { a with fl := upd a.fl s { a.fl s with kept := (a.fl s).kept ++ [(body, 0)] } }
def Ag.spool (a : Ag) (s : Nat) : List ByteArray := (a.fl s).kept.map (·.1)
/-- Is a record due? -/
def due (f : Flow) (ticks i sent : Nat) : Bool := !(f.held.contains (f.base + 1 + i)) && (sent == 0 || decide (sent + 4 ≤ ticks))
/-- What is sent of a stream's first i records, and the records behind it. -/
def sendTo (epoch s : Nat) (f : Flow) (ticks : Nat) : Nat → List (ByteArray × Nat) × List (List UInt8)
  | 0 => (f.kept, [])
  | i + 1 =>
    let r := sendTo epoch s f ticks i
    match f.kept[i]? with
    | none => r
    | some x => if due f ticks i x.2 then (r.1.set i (x.1, ticks), r.2 ++ [Wire.bytes 3 epoch s (f.base + 1 + i : Nat) x.1.data.toList]) else r
def Ag.gone (a : Ag) (s : Nat) (upTo : Int) : Nat := min (upTo - (a.fl s).base).toNat (a.fl s).kept.length
/-- Of each stream the first records are no longer kept. -/
def Flow.drop (f : Flow) (n : Nat) : Flow := { f with base := f.base + n, kept := f.kept.drop n }
/-- .. of the streams below s. -/
def dropTo (f : Nat → Flow) (n : Nat → Nat) (s : Nat) : Nat → Flow := fun t => if t < s then (f t).drop (n t) else f t
theorem dropTo_zero (f : Nat → Flow) (n : Nat → Nat) : dropTo f n 0 = f := by funext t; simp [dropTo]
theorem dropTo_self (f : Nat → Flow) (n : Nat → Nat) (s : Nat) : dropTo f n s s = f s := by simp [dropTo]
theorem dropTo_succ (f : Nat → Flow) (n : Nat → Nat) (s : Nat) : dropTo f n (s + 1) = upd (dropTo f n s) s ((f s).drop (n s)) := by
  funext t
  unfold dropTo upd
  by_cases h : t = s
  · subst h; simp
  · by_cases h2 : t < s
    · simp [h, h2, show t < s + 1 by omega]
    · simp [h, h2, show ¬ t < s + 1 by omega]
def Ag.drop (a : Ag) (n : Nat → Nat) : Ag := { a with fl := dropTo a.fl n 3 }
/-- What a frame says is no longer kept. -/
def Ag.says (a : Ag) (kind epoch stream seq : Int) (body : ByteArray) (s : Nat) : Nat :=
  if epoch ≠ a.epoch then 0 else if kind = 2 then a.gone s (Wire.numAt body.data.toList (4 * s)) else if kind = 4 ∧ stream = s ∧ a.welcome = true then a.gone s seq else 0
/-- Of all streams nothing has been sent, nothing is held. -/
def fresh (f : Nat → Flow) (s : Nat) : Nat → Flow := fun t => if t < s then { f t with kept := (f t).kept.map fun r => (r.1, 0), held := [] } else f t
/-- The numbers that an Ack's bits say. -/
def bitsOf (seq : Nat) (c : Nat) : Nat → List Nat
  | 0 => []
  | i + 1 => bitsOf seq c i ++ (if c / 2 ^ i % 2 = 1 then [seq + 2 + i] else [])
def Ag.ackSeq (a : Ag) (s : Nat) (q : Int) : Nat := min q.toNat ((a.fl s).base + (a.fl s).kept.length)
def Ag.deliver (a : Ag) (k e st q : Int) (b : ByteArray) : Ag :=
  if k = 5 ∧ (a.epoch : Int) < e then { a with fenced := true }
  else if e ≠ a.epoch then a
  else if k = 5 then { a with welcome := false }
  else if k = 2 then { a.drop (a.says k e st q b) with welcome := true, fl := fresh (a.drop (a.says k e st q b)).fl 3 }
  else if k = 4 then
    if a.welcome = false ∨ a.ackSeq st.toNat q < (a.fl st.toNat).base then a
    else { a.drop (a.says k e st q b) with fl := upd (a.drop (a.says k e st q b)).fl st.toNat { (a.drop (a.says k e st q b)).fl st.toNat with held := bitsOf (a.ackSeq st.toNat q) (b.data.toList.getD 0 0).toNat 3 } }
  else a
/-- Of the streams below s all is sent that is due. -/
def sendFl (epoch ticks : Nat) (f : Nat → Flow) (s : Nat) : Nat → Flow := fun t => if t < s then { f t with kept := (sendTo epoch t (f t) ticks 4).1 } else f t
def sendOut (epoch ticks : Nat) (f : Nat → Flow) : Nat → List (List UInt8)
  | 0 => []
  | s + 1 => sendOut epoch ticks f s ++ (sendTo epoch s (f s) ticks 4).2
def Ag.tick (a : Ag) : Ag × List (List UInt8) :=
  if a.fenced = true then ({ a with ticks := a.ticks + 1 }, [])
  else if a.welcome = false then ({ a with ticks := a.ticks + 1 }, [Wire.bytes 1 a.epoch 0 0 []])
  else ({ a with ticks := a.ticks + 1, fl := sendFl a.epoch (a.ticks + 1) a.fl 3 }, sendOut a.epoch (a.ticks + 1) a.fl 3)
end Mod
end Go.Proofs.YtamafdcnbcoegaaGreat
namespace Go.Proofs.YtamafdcnbcoegaaGreat
open Go.RowKit

def recCells (l : List (ByteArray × Nat)) : List Value := l.flatMap fun r => [.string r.1, .int .i64 r.2]
def numCells (l : List Nat) : List Value := l.map fun n : Nat => .int .i64 (n : Int)
/-- What else stands in an agent's block: dead, gone, stream, extra. -/
structure RRest where
  dead : Bool
  g0 : Int
  g1 : Int
  g2 : Int
  st : Int
  ex : Value
def refCells (a : Mod.Ag) (r : RRest) (kv hv : Nat → Value) : Array Value :=
  #[.int .i64 a.epoch, .int .i64 a.ticks, .bool a.welcome, .bool a.fenced, .bool r.dead, .int .i64 (a.fl 0).base, kv 0, hv 0, .int .i64 (a.fl 1).base, kv 1, hv 1, .int .i64 (a.fl 2).base, kv 2, hv 2, .int .i64 r.g0, .int .i64 r.g1, .int .i64 r.g2, .int .i64 r.st, r.ex]
structure RefAt (w : World) (p : Nat) (a : Mod.Ag) (r : RRest) (kv hv : Nat → Value) : Prop where
  blk : w.heap[p]? = some (.cells (refCells a r kv hv) 124 (0, 0))
  kept : ∀ s, s < 3 → RowO w 242 2 (kv s) (a.fl s).kept.length (recCells (a.fl s).kept)
  held : ∀ s, s < 3 → RowO w 3 1 (hv s) (a.fl s).held.length (numCells (a.fl s).held)
  apk : ∀ s t, s < 3 → t < 3 → s ≠ t → ∀ g, (kv s).ownBlock = some g → (kv t).ownBlock ≠ some g
  aph : ∀ s t, s < 3 → t < 3 → s ≠ t → ∀ g, (hv s).ownBlock = some g → (hv t).ownBlock ≠ some g
  ep : a.epoch ≤ 1000000000000000
  tk : a.ticks ≤ 1000000000000000
  bs : ∀ s, s < 3 → (a.fl s).base ≤ 1000000000000000
  kl : ∀ s, s < 3 → (a.fl s).kept.length ≤ 24
  hl : ∀ s, s < 3 → (a.fl s).held.length ≤ 3
def RefU (p : Nat) (kv hv : Nat → Value) (k : Nat) : Prop := k = p ∨ ∃ s, s < 3 ∧ ((kv s).ownBlock = some k ∨ (hv s).ownBlock = some k)
theorem RefAt.far {E : Nat → Prop} {w x : World} {p : Nat} {a : Mod.Ag} {r : RRest} {kv hv : Nat → Value} (h : RefAt w p a r kv hv) (hf : Far E w x) (hE : ∀ k, RefU p kv hv k → ¬ E k) : RefAt x p a r kv hv :=
  ⟨hf.blk h.blk (hE p (.inl rfl)), fun s hs => (h.kept s hs).far hf (fun g hg => hE g (.inr ⟨s, hs, .inl hg⟩)), fun s hs => (h.held s hs).far hf (fun g hg => hE g (.inr ⟨s, hs, .inr hg⟩)), h.apk, h.aph, h.ep, h.tk, h.bs, h.kl, h.hl⟩
theorem RefAt.lt {w : World} {p : Nat} {a : Mod.Ag} {r : RRest} {kv hv : Nat → Value} (h : RefAt w p a r kv hv) : ∀ k, RefU p kv hv k → k < w.heap.size := by
  rintro k (rfl | ⟨s, hs, hk | hk⟩)
  · exact lt_of_block h.blk
  · exact (h.kept s hs).lt k hk
  · exact (h.held s hs).lt k hk

set_option maxRecDepth 100000 in
set_option maxHeartbeats 1000000 in
theorem room_any {w : World} {p : Nat} {a : Mod.Ag} {r : RRest} {kv hv : Nat → Value} (R : RefAt w p a r kv hv) :
    Calls Tryz.prog 207 #[.pointer (some ⟨p, 0, none⟩)] w fun e w' => e = .returned (.int .i64 a.room) ∧ ∃ n, w' = w.drewN n := by
  have c6 := blk_cell (i := 6) R.blk
  have c9 := blk_cell (i := 9) R.blk
  have c12 := blk_cell (i := 12) R.blk
  obtain ⟨ad0, cap0, e0, _⟩ := (R.kept 0 (by omega)).shape
  obtain ⟨ad1, cap1, e1, _⟩ := (R.kept 1 (by omega)).shape
  obtain ⟨ad2, cap2, e2, _⟩ := (R.kept 2 (by omega)).shape
  have k0 := R.kl 0 (by omega)
  have k1 := R.kl 1 (by omega)
  have k2 := R.kl 2 (by omega)
  simp [refCells] at c6 c9 c12
  rw [e0] at c6
  rw [e1] at c9
  rw [e2] at c12
  have HR : Hid ((a.room : Int) = (a.fl 0).kept.length + (a.fl 1).kept.length + (a.fl 2).kept.length) := by show _ = _; simp [Mod.Ag.room]
  clear R e0 e1 e2
  generalize (a.fl 0).kept.length = n0 at *
  generalize (a.fl 1).kept.length = n1 at *
  generalize (a.fl 2).kept.length = n2 at *
  go_enter Tryz.func207, Tryz.ntmps207
  go_wp2
  go_quiet (fail)
  go_wp2
  go_ret
  exact ⟨ret_i (unhide HR).symm, _, rfl⟩

set_option maxRecDepth 100000 in
set_option maxHeartbeats 1000000 in
theorem refuses_any {w : World} {p : Nat} {a : Mod.Ag} {r : RRest} {kv hv : Nat → Value} (R : RefAt w p a r kv hv) (st : Int) (b : ByteArray) (hd : r.dead = false) :
    Calls Tryz.prog 168 #[.pointer (some ⟨p, 0, none⟩), .int .i64 st, .string b] w fun e w' => e = .returned (.int .i64 (a.refuses st b.size)) ∧ ∃ n, w' = w.drewN n := by
  have c4 := blk_cell (i := 4) R.blk
  simp [refCells, hd] at c4
  have HR := hide (room_any R)
  have HF : Hid (a.refuses st b.size = if st < 0 ∨ 3 ≤ st then 5 else if 20 < b.size then 6 else if 24 ≤ a.room then 7 else 0) := rfl
  have hz : a.room ≤ 72 := by
    have k0 := R.kl 0 (by omega)
    have k1 := R.kl 1 (by omega)
    have k2 := R.kl 2 (by omega)
    unfold Mod.Ag.room
    omega
  clear R hd
  generalize a.room = n at *
  by_cases h1 : st < 0
  · go_enter Tryz.func168, Tryz.ntmps168
    go_wp2_with (go_at_call 207; refine (unhide HR).mono ?_; rintro e w' ⟨rfl, k, rfl⟩)
    go_ret
    exact ⟨ret_i (by rw [unhide HF, if_pos (.inl h1)]), _, rfl⟩
  by_cases h2 : 3 ≤ st
  · go_enter Tryz.func168, Tryz.ntmps168
    go_wp2_with (go_at_call 207; refine (unhide HR).mono ?_; rintro e w' ⟨rfl, k, rfl⟩)
    go_ret
    exact ⟨ret_i (by rw [unhide HF, if_pos (.inr h2)]), _, rfl⟩
  by_cases h3 : 20 < (b.size : Int)
  · go_enter Tryz.func168, Tryz.ntmps168
    go_wp2_with (go_at_call 207; refine (unhide HR).mono ?_; rintro e w' ⟨rfl, k, rfl⟩)
    go_ret
    exact ⟨ret_i (by rw [unhide HF, if_neg (by omega), if_pos (by omega)]), _, rfl⟩
  by_cases h4 : 24 ≤ (n : Int)
  · go_enter Tryz.func168, Tryz.ntmps168
    go_wp2_with (go_at_call 207; refine (unhide HR).mono ?_; rintro e w' ⟨rfl, k, rfl⟩)
    go_ret
    exact ⟨ret_i (by rw [unhide HF, if_neg (by omega), if_neg (by omega), if_pos (by omega)]), _, rfl⟩
  · go_enter Tryz.func168, Tryz.ntmps168
    go_wp2_with (go_at_call 207; refine (unhide HR).mono ?_; rintro e w' ⟨rfl, k, rfl⟩)
    go_ret
    exact ⟨ret_i (by rw [unhide HF, if_neg (by omega), if_neg (by omega), if_neg (by omega)]), _, rfl⟩
end Go.Proofs.YtamafdcnbcoegaaGreat
namespace Go.Proofs.YtamafdcnbcoegaaGreat
open Go.RowKit

theorem numCells_get {l : List Nat} {k : Nat} (h : k < l.length) : (numCells l)[k]? = some (.int .i64 (l[k] : Int)) := by simp [numCells, h]
theorem not_contains {l : List Nat} {n : Nat} (h : ∀ j (hj : j < l.length), l[j] ≠ n) : l.contains n = false := by
  rw [List.contains_eq_any_beq, List.any_eq_false]
  intro x hx
  obtain ⟨j, hj, rfl⟩ := List.mem_iff_getElem.1 hx
  have := h j hj
  simp
  omega
theorem is_contains {l : List Nat} {n j : Nat} (hj : j < l.length) (h : l[j] = n) : l.contains n = true := by
  rw [List.contains_iff_mem]
  exact h ▸ List.getElem_mem hj

set_option maxRecDepth 100000 in
set_option maxHeartbeats 1000000 in
theorem holds_any {w : World} {p off : Nat} {hv : Value} {l : List Nat} (n : Nat) (c : w.cell? ⟨p, off + 2, none⟩ = some hv) (R : RowO w 3 1 hv l.length (numCells l)) (hl : l.length ≤ 1000) :
    Calls Tryz.prog 172 #[.pointer (some ⟨p, off, none⟩), .int .i64 n] w fun e w' => e = .returned (.bool (l.contains n)) ∧ ∃ k, w' = w.drewN k := by
  obtain ⟨ad, cap, rfl, h1, h2, h3⟩ := R.shape
  have H3 := hide h3
  clear h3 R
  go_enter Tryz.func172, Tryz.ntmps172
  go_wp2
  go_loopw [5] (fun i wr => ∃ k : Nat, k ≤ l.length ∧ i = .int .i64 k ∧ (∀ j (hj : j < l.length), j < k → l[j] ≠ n) ∧ ∃ q, wr = w.drewN q) (fun i _ => l.length - (intOf i).toNat)
  case atStart => exact ⟨0, Nat.zero_le _, rfl, fun j hj h => absurd h (by omega), 0, rfl⟩
  case round =>
    obtain ⟨k, hk, rfl, hno, q, rfl⟩ := hrel
    have HNO := hide hno
    clear hno
    by_cases hlt : k < l.length
    · obtain ⟨g, o, rfl, hc⟩ := (unhide H3) (by omega)
      have hck := hc k (by omega)
      rw [numCells_get hlt] at hck
      have HE : Hid (l[k] = l[k]) := rfl
      by_cases heq : l[k] = n
      · rw [heq] at hck
        have HI := hide (is_contains hlt heq)
        clear hc heq HE
        go_wp2
        go_ret
        exact ⟨ret_b (unhide HI).symm, _, rfl⟩
      · have HQ := hide heq
        have hne : ¬ ((l[k] : Int) = (n : Int)) := by omega
        clear hc heq HE
        generalize hx : (l[k] : Int) = x at hck hne
        clear hx
        go_wp2
        go_roundw
        case rel => exact ⟨k + 1, by omega, by go_num, fun j hj h => by
                      by_cases hjk : j = k
                      · subst hjk; exact unhide HQ
                      · exact (unhide HNO) j hj (by omega), _, rfl⟩
        case measure => simp [intOf]; omega
    · go_wp2
      go_ret
      exact ⟨ret_b (not_contains (fun j hj => (unhide HNO) j hj (by omega))).symm, _, rfl⟩

theorem ref_at {w : World} {p : Nat} {a : Mod.Ag} {r : RRest} {kv hv : Nat → Value} (R : RefAt w p a r kv hv) (s : Nat) (hs : s < 3) :
    w.cell? ⟨p, 5 + s * 3, none⟩ = some (.int .i64 (a.fl s).base) ∧ w.cell? ⟨p, 5 + s * 3 + 1, none⟩ = some (kv s) ∧ w.cell? ⟨p, 5 + s * 3 + 2, none⟩ = some (hv s) := by
  obtain rfl | rfl | rfl : s = 0 ∨ s = 1 ∨ s = 2 := by omega
  all_goals exact ⟨blk_cell R.blk, blk_cell R.blk, blk_cell R.blk⟩

set_option maxRecDepth 100000 in
set_option maxHeartbeats 1000000 in
theorem gone_any {w : World} {p : Nat} {a : Mod.Ag} {r : RRest} {kv hv : Nat → Value} (R : RefAt w p a r kv hv) (s : Nat) (hs : s < 3) (n : Int) (hn : -9000000000000000000 ≤ n ∧ n ≤ 9000000000000000000) :
    Calls Tryz.prog 209 #[.pointer (some ⟨p, 0, none⟩), .int .i64 s, .int .i64 n] w fun e w' => e = .returned (.int .i64 (a.gone s n)) ∧ w' = w := by
  obtain ⟨c0, c1, c2⟩ := ref_at R s hs
  obtain ⟨ad, cap, e0, _⟩ := (R.kept s hs).shape
  rw [e0] at c1
  have k0 := R.kl s hs
  have b0 := R.bs s hs
  have HG : Hid (a.gone s n = min (n - (a.fl s).base).toNat (a.fl s).kept.length) := rfl
  clear R e0 c2
  generalize (a.fl s).base = bs at *
  generalize (a.fl s).kept.length = len at *
  obtain ⟨n1, n2⟩ := hn
  have w1 : wrap64 (n - (bs : Int)) = n - bs := by unfold wrap64; omega
  by_cases h1 : n - (bs : Int) < 0
  · go_enter Tryz.func209, Tryz.ntmps209
    go_wp2
    go_ret
    exact ⟨ret_i (by rw [unhide HG]; omega), rfl⟩
  · by_cases h2 : (len : Int) < n - (bs : Int)
    · go_enter Tryz.func209, Tryz.ntmps209
      go_wp2
      go_ret
      exact ⟨ret_i (by rw [unhide HG]; omega), rfl⟩
    · go_enter Tryz.func209, Tryz.ntmps209
      go_wp2
      go_ret
      exact ⟨ret_i (by rw [unhide HG]; omega), rfl⟩
end Go.Proofs.YtamafdcnbcoegaaGreat
namespace Go.Proofs.YtamafdcnbcoegaaGreat
open Go.RowKit

theorem infoRec : (Tryz.prog.info? 242).map (fun i => (i.zero, i.size, i.bytes)) = some (some (.agg #[.string ⟨#[]⟩, .int .i64 0]), 2, 24) := by kernel_rfl
theorem infoInt : (Tryz.prog.info? 3).map (fun i => (i.zero, i.size, i.bytes)) = some (some (.int .i64 0), 1, 8) := by kernel_rfl
theorem info_parts2 {P : Program} {e : TypeId} {z : Value} {size bytes : Nat} (h : (P.info? e).map (fun i => (i.zero, i.size, i.bytes)) = some (some z, size, bytes)) : ∃ i, P.info? e = some i ∧ i.zero = some z ∧ i.size = size ∧ i.bytes = bytes := by
  cases hi : P.info? e with
  | none => rw [hi] at h; cases h
  | some i =>
    rw [hi] at h
    injection h with h
    injection h with h1 h2
    injection h2 with h2 h3
    exact ⟨i, rfl, h1, h2, h3⟩

/-- append to a row that begins anywhere. -/
theorem wpList_app_o {ops : Array Oper} {rest : List Oper} {o : Oper} {a : Act} {Q : Exit → Act → World → Prop} {w : World} (hgd : o.guard = none) (s x : Operand) (t : TypeId) (ho : o.op = .call { callee := .builtin .append, args := #[s, x], argTypes := #[t, t] })
    (e : TypeId) (z : Value) (size bytes : Nat) (ht : Tryz.prog.underlying t = some (.slice e)) (hinfo : (Tryz.prog.info? e).map (fun i => (i.zero, i.size, i.bytes)) = some (some z, size, bytes)) (hzs : z.cells.size = size)
    (v : Value) (n : Nat) (xs : List Value) (hown : RowO w e size v n xs) (hs : a.eval s = v) (ad : Addr) (m c : Nat) (news : List Value) (hx : a.eval x = .slice (some ad) m c) (hl : news.length = m * size) (hnews : ∀ j u, news[j]? = some u → w.cell? (ad.add j) = some u)
    (h1 : ∀ u ∈ news, u.oneCell' = true) (hm : 0 < m) (hb : (n + m) * bytes ≤ 140737488355328) (h63 : n + m ≤ 140737488355328)
    (h : ∀ v' w', RowO w' e size v' (n + m) (xs ++ news) → App w w' v v' → wpList Tryz.prog ops Q rest (a.put o.dst v') w') : wpList Tryz.prog ops Q (o :: rest) a w := by
  obtain ⟨i0, hi, hz0, hz1, hz2⟩ := info_parts2 hinfo
  obtain ⟨v', w', hr, h2, h3⟩ := run_append_o (P := Tryz.prog) w t o.type e i0 z size bytes ht hi hz0 hz1 hz2 hzs v n xs hown ad m c news hl hnews h1 hm hb h63
  refine wpList_plain hgd fun _ hK => ?_
  unfold Oper.wp execOp
  simp only [ho, resolve, invoke, builtin, Sem.run_bind, Sem.run_pure, Result.andThen_ok, List.map_toArray, List.map_cons, List.map_nil, hs, hx, hr]
  exact hK _ _ (h v' w' h2 h3)

/-- What a call leaves of an agent's own memory. -/
def RefStep (w w' : World) (p : Nat) (a' : Mod.Ag) (r : RRest) (kv hv : Nat → Value) : Prop :=
  ∃ kv' hv', RefAt w' p a' r kv' hv' ∧ Far (RefU p kv hv) w w' ∧ ∀ k, RefU p kv' hv' k → RefU p kv hv k ∨ w.heap.size ≤ k
def updV (f : Nat → Value) (s : Nat) (v : Value) : Nat → Value := fun t => if t = s then v else f t
theorem updV_same (f : Nat → Value) (s : Nat) (v : Value) : updV f s v s = v := by simp [updV]
theorem updV_other (f : Nat → Value) {s t : Nat} (v : Value) (h : t ≠ s) : updV f s v t = f t := by simp [updV, h]
theorem refCells_kept (a : Mod.Ag) (r : RRest) (kv hv : Nat → Value) (s : Nat) (hs : s < 3) (v : Value) (x : List (ByteArray × Nat)) :
    (refCells a r kv hv).setIfInBounds (5 + s * 3 + 1) v = refCells { a with fl := Mod.upd a.fl s { a.fl s with kept := x } } r (updV kv s v) hv := by
  obtain rfl | rfl | rfl : s = 0 ∨ s = 1 ∨ s = 2 := by omega
  all_goals rfl
theorem recCells_snoc0 (l : List (ByteArray × Nat)) (b : ByteArray) : recCells (l ++ [(b, 0)]) = recCells l ++ [.string b, .int .i64 0] := by simp [recCells]
theorem far_app {w W w1 : World} {v v' : Value} (hb : Below w.heap.size w W) (h : App W w1 v v') : Far (fun k => v.ownBlock = some k) w w1 := by
  have h1 : Far (fun k => v.ownBlock = some k) w W := far_below hb
  exact h1.trans (far_grown h.grown) (fun _ _ h => h)
theorem app_loc {w W w1 : World} {v v' : Value} (hb : Below w.heap.size w W) (h : App W w1 v v') : ∀ g, v'.ownBlock = some g → v.ownBlock = some g ∨ w.heap.size ≤ g := by
  intro g hg
  rcases h.where_ with h | ⟨_, g', h, hg'⟩
  · exact .inl (h ▸ hg)
  · rw [h] at hg
    injection hg with hg
    have := hb.size
    exact .inr (by omega)
/-- A stream's records have been laid anew, in their block or in a new one, and the agent's block says so. -/
theorem RefAt.keptStep {w w1 : World} {p : Nat} {a : Mod.Ag} {r : RRest} {kv hv : Nat → Value} (R : RefAt w p a r kv hv) (s : Nat) (hs : s < 3) {v' : Value} {x : List (ByteArray × Nat)} (hf : Far (fun k => (kv s).ownBlock = some k) w w1)
    (hl : ∀ g, v'.ownBlock = some g → (kv s).ownBlock = some g ∨ w.heap.size ≤ g) (hrow : RowO w1 242 2 v' x.length (recCells x)) (hx : x.length ≤ 24) :
    (∃ C, w1.heap[p]? = some (.cells C 124 (0, 0)) ∧ C[5 + s * 3 + 1]? = some (kv s)) ∧
    RefStep w (w1.setCell ⟨p, 5 + s * 3 + 1, none⟩ v') p { a with fl := Mod.upd a.fl s { a.fl s with kept := x } } r kv hv := by
  have hpk : (kv s).ownBlock ≠ some p := (R.kept s hs).ne R.blk (by decide)
  have hb1 := hf.blk R.blk hpk
  have hkp : ∀ t, t < 3 → (kv t).ownBlock ≠ some p := fun t ht => (R.kept t ht).ne R.blk (by decide)
  have hhp : ∀ t, t < 3 → (hv t).ownBlock ≠ some p := fun t ht => (R.held t ht).ne R.blk (by decide)
  have hnew : ∀ k, k < w.heap.size → v'.ownBlock = some k → (kv s).ownBlock = some k := fun k hk e => (hl k e).elim id (fun h => by omega)
  have hset := far_set w1 p (5 + s * 3 + 1) v'
  have hgo : ∀ t, Mod.upd a.fl s { a.fl s with kept := x } t = if t = s then { a.fl s with kept := x } else a.fl t := fun t => rfl
  refine ⟨⟨_, hb1, ?_⟩, updV kv s v', hv, ⟨?_, ?_, ?_, ?_, R.aph, R.ep, R.tk, ?_, ?_, ?_⟩, ?_, ?_⟩
  · obtain rfl | rfl | rfl : s = 0 ∨ s = 1 ∨ s = 2 := by omega
    all_goals rfl
  · rw [← refCells_kept a r kv hv s hs]
    exact blk_set hb1
  · intro t ht
    by_cases hts : t = s
    · subst hts
      rw [updV_same]
      simp only [Mod.upd_same]
      refine hrow.far hset (fun g hg hgp => ?_)
      rw [hgp] at hg
      exact hpk (hnew p (lt_of_block R.blk) hg)
    · rw [updV_other _ _ hts]
      simp only [Mod.upd_other _ _ hts]
      exact ((R.kept t ht).far hf (fun g hg hgs => R.apk t s ht hs hts g hg hgs)).far hset (fun g hg hgp => hkp t ht (by rw [hg, hgp]))
  · intro t ht
    have : (Mod.upd a.fl s { a.fl s with kept := x } t).held = (a.fl t).held := by rw [hgo]; split <;> simp_all
    simp only [this]
    exact ((R.held t ht).far hf (fun g hg hgs => (R.held t ht).ty (R.kept s hs) (by decide) hg hgs)).far hset (fun g hg hgp => hhp t ht (by rw [hg, hgp]))
  · intro t u ht hu htu g hg
    by_cases hts : t = s
    · subst hts
      rw [updV_same] at hg
      rw [updV_other _ _ (fun e => htu e.symm)]
      intro hug
      have hlt := (R.kept u hu).lt g hug
      exact R.apk t u ht hu htu g (hnew g hlt hg) hug
    · rw [updV_other _ _ hts] at hg
      by_cases hus : u = s
      · subst hus
        rw [updV_same]
        intro hug
        exact R.apk t u ht hu htu g hg (hnew g ((R.kept t ht).lt g hg) hug)
      · rw [updV_other _ _ hus]
        exact R.apk t u ht hu htu g hg
  · intro t ht
    have : (Mod.upd a.fl s { a.fl s with kept := x } t).base = (a.fl t).base := by rw [hgo]; split <;> simp_all
    simp only [this]
    exact R.bs t ht
  · intro t ht
    by_cases hts : t = s
    · subst hts; simp only [Mod.upd_same]; exact hx
    · simp only [Mod.upd_other _ _ hts]; exact R.kl t ht
  · intro t ht
    have : (Mod.upd a.fl s { a.fl s with kept := x } t).held = (a.fl t).held := by rw [hgo]; split <;> simp_all
    simp only [this]
    exact R.hl t ht
  · exact (hf.mono (E' := RefU p kv hv) (fun k _ h => .inr ⟨s, hs, .inl h⟩)).trans hset (fun k _ h => .inl h)
  · rintro k (rfl | ⟨t, ht, hk | hk⟩)
    · exact .inl (.inl rfl)
    · by_cases hts : t = s
      · subst hts
        rw [updV_same] at hk
        rcases hl k hk with h | h
        · exact .inl (.inr ⟨t, ht, .inl h⟩)
        · exact .inr h
      · rw [updV_other _ _ hts] at hk
        exact .inl (.inr ⟨t, ht, .inl hk⟩)
    · exact .inl (.inr ⟨t, ht, .inr hk⟩)

set_option maxRecDepth 100000 in
set_option maxHeartbeats 1000000 in
theorem refSubmit_any {w : World} {p : Nat} {a : Mod.Ag} {r : RRest} {kv hv : Nat → Value} (R : RefAt w p a r kv hv) (s : Nat) (hs : s < 3) (b : ByteArray) (hroom : (a.fl s).kept.length < 24) :
    Calls Tryz.prog 170 #[.pointer (some ⟨p, 0, none⟩), .int .i64 s, .string b] w fun e w' => e = .returned (.tuple #[]) ∧ RefStep w w' p (a.submit s b) r kv hv := by
  obtain ⟨c0, c1, c2⟩ := ref_at R s hs
  have hs3 : (s : Int) < 3 := by omega
  have RR := hide R
  clear R c0 c2
  go_enter Tryz.func170, Tryz.ntmps170
  go_wp2_with (at_builtin; refine wpList_app_o rfl (.tmp 16) (.tmp 19) 119 rfl 242 _ 2 24 Tryz.underlying119 infoRec rfl (kv s) (a.fl s).kept.length (recCells (a.fl s).kept) (((unhide RR).kept s hs).keep (fun g hg => Below.heap_alloc w _ g (((unhide RR).kept s hs).lt g hg))) rfl ⟨w.heap.size, 0, none⟩ 1 1 [.string b, .int .i64 0] rfl rfl cells_new (by intro u hu; simp at hu; rcases hu with rfl | rfl <;> rfl) (by omega) (by omega) (by omega) ?_; intro v' w1 hrow happ; rw [← recCells_snoc0] at hrow; have hq := (unhide RR).keptStep s hs (far_app ((Below.refl _ _).alloc (Nat.le_refl _) _) happ) (app_loc ((Below.refl _ _).alloc (Nat.le_refl _) _) happ) (x := (a.fl s).kept ++ [(b, 0)]) (by simpa using hrow) (by simp; omega); obtain ⟨⟨C, hpC, hC⟩, hst⟩ := hq; have y1 := (blk_cell (i := 5 + s * 3 + 1) hpC).trans hC; have f1 := blk_free (i := 5 + s * 3 + 1) hpC; obtain ⟨va, vc, hva, _⟩ := hrow.shape; have HST := hide hst; clear happ hst hpC hC hrow; subst hva)
  refine bodyPost_end (results_none rfl _ _ _) rfl ?_
  exact ⟨rfl, unhide HST⟩
end Go.Proofs.YtamafdcnbcoegaaGreat
namespace Go.Proofs.YtamafdcnbcoegaaGreat
open Go.RowKit

def strs (l : List ByteArray) : List Value := l.map .string
theorem strs_length (l : List ByteArray) : (strs l).length = l.length := by simp [strs]
theorem recCells_body : ∀ (l : List (ByteArray × Nat)) (i : Nat) (h : i < l.length), (recCells l)[i * 2]? = some (.string l[i].1)
  | x :: l, 0, _ => rfl
  | x :: l, i + 1, h => by
    have := recCells_body l i (by simpa using h)
    rw [show (i + 1) * 2 = i * 2 + 2 by omega]
    simpa [recCells] using this
theorem recCells_sent : ∀ (l : List (ByteArray × Nat)) (i : Nat) (h : i < l.length), (recCells l)[i * 2 + 1]? = some (.int .i64 (l[i].2 : Nat))
  | x :: l, 0, _ => rfl
  | x :: l, i + 1, h => by
    have := recCells_sent l i (by simpa using h)
    rw [show (i + 1) * 2 + 1 = i * 2 + 1 + 2 by omega]
    simpa [recCells] using this
theorem strs_take {l : List (ByteArray × Nat)} {k : Nat} (h : k < l.length) : strs ((l.take (k + 1)).map (·.1)) = strs ((l.take k).map (·.1)) ++ [.string l[k].1] := by
  rw [List.take_succ_eq_append_getElem h, List.map_append]
  unfold strs
  rw [List.map_append]
  rfl
theorem infoStr : (Tryz.prog.info? 9).map (fun i => (i.zero, i.size, i.bytes)) = some (some (.string ⟨#[]⟩), 1, 16) := by kernel_rfl

set_option maxRecDepth 100000 in
set_option maxHeartbeats 1000000 in
theorem refSpool_in {w : World} {p : Nat} {a : Mod.Ag} {r : RRest} {kv hv : Nat → Value} (R : RefAt w p a r kv hv) (hd : r.dead = false) (s : Nat) (hs : s < 3) :
    Calls Tryz.prog 122 #[.pointer (some ⟨p, 0, none⟩), .int .i64 s] w fun e w' => ∃ v, e = .returned v ∧ w'.ownsRow w.heap.size 9 1 v (a.spool s).length (strs (a.spool s)) ∧ Below w.heap.size w w' := by
  obtain ⟨c0, c1, c2⟩ := ref_at R s hs
  have c4 := blk_cell (i := 4) R.blk
  simp [refCells, hd] at c4
  obtain ⟨ad, cap, e0, h1, h2, h3⟩ := (R.kept s hs).shape
  rw [e0] at c1
  have hl := R.kl s hs
  have hpl := lt_of_block R.blk
  have hgl := (R.kept s hs).lt
  rw [e0] at hgl
  have HS : Hid (a.spool s = (a.fl s).kept.map (·.1)) := rfl
  have hs3 : (s : Int) < 3 := by omega
  have hs0 : ¬ (s : Int) < 0 := by omega
  have hs3' : ¬ (3 : Int) ≤ s := by omega
  clear R e0 c0 c2 hd
  generalize (a.fl s).kept = l at *
  have H3 := hide h3
  have HG := hide hgl
  have HC1 := hide c1
  obtain ⟨i0, hi, hz0, hz1, hz2⟩ := info_parts2 infoStr
  clear h3 hgl c1
  go_enter Tryz.func122, Tryz.ntmps122
  go_wp2
  go_loopw [5, 6] (fun v i wr => ∃ k : Nat, k ≤ l.length ∧ i = .int .i64 k ∧ wr.ownsRow w.heap.size 9 1 v k (strs ((l.take k).map (·.1))) ∧ Below w.heap.size w wr) (fun _ i _ => l.length - (intOf i).toNat)
  case atStart => exact ⟨0, Nat.zero_le _, rfl, World.ownsRow_nil _ _ _ _, Below.refl _ _⟩
  case round =>
    obtain ⟨k, hk, rfl, ho, hb⟩ := hrel
    have c1 := (hb.cell (p := ⟨p, 5 + s * 3 + 1, none⟩) hpl).trans (unhide HC1)
    have HO := hide ho
    have HB := hide hb
    by_cases hlt : k < l.length
    · obtain ⟨g, o, rfl, hc⟩ := (unhide H3) (by omega)
      have hck := (hb.cell (p := ⟨g, o + k * 2, none⟩) ((unhide HG) g rfl)).trans (hc (k * 2) (by omega))
      rw [recCells_body l k hlt] at hck
      have HT := hide (strs_take hlt)
      clear hc ho hb
      generalize l[k].1 = bk at hck HT
      go_upto_region 6 with (at_builtin; refine wpList_append_own _ rfl (.tmp 32) (.tmp 44) 45 rfl w.heap.size 9 i0 (.string ⟨#[]⟩) 1 16 Tryz.underlying45 hi hz0 hz1 hz2 rfl (by decide) u5 k (strs ((l.take k).map (·.1))) rfl ((unhide HO).alloc _) ⟨wr.heap.size, 0, none⟩ 1 1 [.string bk] rfl rfl cells_new (by intro u hu; simp at hu; subst hu; rfl) (by unfold maxLen; omega) (by omega) (by have := (unhide HB).size; simp; omega) ?_; intro v' w1 hown' hgrow _; have hb1 := ((unhide HB).trans (((Below.refl _ _).alloc (Nat.le_refl _) _).mono (unhide HB).size)).trans (below_grown_new (B := w.heap.size) hgrow (by have := (unhide HB).size; simp; omega) (fun g hg => (World.ownsRow.lt (unhide HO) g hg).1)); rw [← unhide HT] at hown'; have HO1 := hide hown'; have HB1 := hide hb1; clear hown' hgrow hb1)
      clear c1 hck
      go_wp2
      go_roundw
      case rel => exact ⟨k + 1, by omega, by go_num, unhide HO1, unhide HB1⟩
      case measure => simp [intOf]; omega
    · have hkl : k = l.length := by omega
      subst hkl
      rw [List.take_length] at ho
      have HO2 := hide ho
      clear ho hb
      go_wp2
      go_ret
      refine ⟨_, rfl, ?_, unhide HB⟩
      rw [unhide HS, List.length_map]
      exact unhide HO2
end Go.Proofs.YtamafdcnbcoegaaGreat
namespace Go.Proofs.YtamafdcnbcoegaaGreat
open Go.RowKit

/-- v[k:]. -/
def cutV (v : Value) (k size : Nat) : Value :=
  match v with
  | .slice ad l c => .slice (if c = k then ad else ad.map fun x => x.add (k * size)) (l - k) (c - k)
  | v => v
theorem cutV_slice (ad : Option Addr) (l c k size : Nat) : cutV (.slice ad l c) k size = .slice (if c = k then ad else ad.map fun x => x.add (k * size)) (l - k) (c - k) := rfl
theorem addr_plain (b off k : Nat) : (⟨b, off, none⟩ : Addr).add k = ⟨b, off + k, none⟩ := by
  unfold Addr.add
  split
  · rename_i h; rw [h]; rfl
  · rfl
theorem RowO.cut {w : World} {e : TypeId} {size n k : Nat} {v : Value} {xs : List Value} (h : RowO w e size v n xs) (hk : k ≤ n) :
    RowO w e size (cutV v k size) (n - k) (xs.drop (k * size)) ∧ (cutV v k size).ownBlock = v.ownBlock := by
  obtain ⟨h1, h2⟩ := id h
  rcases h2 with ⟨rfl, rfl⟩ | ⟨g, o, cap, cur, rfl, hh, hn, _⟩
  · have : k = 0 := by omega
    subst this
    have hx : xs = [] := List.eq_nil_of_length_eq_zero (by simpa using h1)
    subst hx
    have := rowO_nil w e size
    exact ⟨by simpa [cutV] using this, rfl⟩
  · rw [cutV_slice]
    by_cases hc : cap = k
    · have : n = k := by omega
      subst this
      subst hc
      have hx : xs.drop (cap * size) = [] := by rw [← h1]; simp
      rw [hx, if_pos rfl, Nat.sub_self]
      exact ⟨h.none_left, rfl⟩
    · rw [if_neg hc, Option.map_some, addr_plain]
      exact ⟨h.drop hk, rfl⟩
theorem recCells_drop : ∀ (k : Nat) (l : List (ByteArray × Nat)), recCells (l.drop k) = (recCells l).drop (k * 2)
  | 0, l => by simp
  | k + 1, [] => by simp [recCells]
  | k + 1, x :: l => by
    have := recCells_drop k l
    rw [show (k + 1) * 2 = k * 2 + 2 by omega]
    simpa [recCells] using this
theorem upd_upd (f : Nat → Mod.Flow) (s : Nat) (x y : Mod.Flow) : Mod.upd (Mod.upd f s x) s y = Mod.upd f s y := by
  funext t
  unfold Mod.upd
  split <;> rfl
theorem refCells_base (a : Mod.Ag) (r : RRest) (kv hv : Nat → Value) (s : Nat) (hs : s < 3) (b : Nat) :
    (refCells a r kv hv).setIfInBounds (5 + s * 3) (.int .i64 b) = refCells { a with fl := Mod.upd a.fl s { a.fl s with base := b } } r kv hv := by
  obtain rfl | rfl | rfl : s = 0 ∨ s = 1 ∨ s = 2 := by omega
  all_goals rfl
theorem RefAt.baseStep {w : World} {p : Nat} {a : Mod.Ag} {r : RRest} {kv hv : Nat → Value} (R : RefAt w p a r kv hv) (s : Nat) (hs : s < 3) (b : Nat) (hb : b ≤ 1000000000000000) :
    RefAt (w.setCell ⟨p, 5 + s * 3, none⟩ (.int .i64 b)) p { a with fl := Mod.upd a.fl s { a.fl s with base := b } } r kv hv := by
  have hset := far_set w p (5 + s * 3) (.int .i64 b)
  have hk : ∀ t, (Mod.upd a.fl s { a.fl s with base := b } t).kept = (a.fl t).kept := by intro t; unfold Mod.upd; split <;> simp_all
  have hh : ∀ t, (Mod.upd a.fl s { a.fl s with base := b } t).held = (a.fl t).held := by intro t; unfold Mod.upd; split <;> simp_all
  refine ⟨by rw [← refCells_base a r kv hv s hs]; exact blk_set R.blk, fun t ht => ?_, fun t ht => ?_, R.apk, R.aph, R.ep, R.tk, fun t ht => ?_, fun t ht => ?_, fun t ht => ?_⟩
  · simp only [hk]
    exact (R.kept t ht).far hset (fun g hg hgp => (R.kept t ht).ne R.blk (by decide) (by rw [hg, hgp]))
  · simp only [hh]
    exact (R.held t ht).far hset (fun g hg hgp => (R.held t ht).ne R.blk (by decide) (by rw [hg, hgp]))
  · by_cases hts : t = s
    · subst hts; simp only [Mod.upd_same]; exact hb
    · simp only [Mod.upd_other _ _ hts]; exact R.bs t ht
  · simp only [hk]; exact R.kl t ht
  · simp only [hh]; exact R.hl t ht

set_option maxRecDepth 100000 in
set_option maxHeartbeats 2000000 in
theorem refDrop_any {w : World} {p : Nat} {a : Mod.Ag} {r : RRest} {kv hv : Nat → Value} (R : RefAt w p a r kv hv) (n : Nat → Nat) (hn : ∀ s, s < 3 → n s ≤ (a.fl s).kept.length) (hbs : ∀ s, s < 3 → (a.fl s).base + n s ≤ 1000000000000000) :
    Calls Tryz.prog 210 #[.pointer (some ⟨p, 0, none⟩), .agg #[.int .i64 (n 0), .int .i64 (n 1), .int .i64 (n 2)]] w fun e w' => e = .returned (.tuple #[]) ∧ RefStep w w' p (a.drop n) r kv hv := by
  have RR := hide R
  have HN := hide hn
  have HBS := hide hbs
  clear R hn hbs
  go_enter Tryz.func210, Tryz.ntmps210
  go_wp2
  go_loopw [4] (fun i wr => ∃ (s : Nat) (kv' hv' : Nat → Value), s ≤ 3 ∧ i = .int .i64 s ∧ RefAt wr p { a with fl := Mod.dropTo a.fl n s } r kv' hv' ∧ Far (RefU p kv hv) w wr ∧ (∀ k, RefU p kv' hv' k → RefU p kv hv k ∨ w.heap.size < k) ∧ w.heap.size < wr.heap.size ∧ ∀ j, j < 3 → wr.cell? ⟨w.heap.size, j, none⟩ = some (.int .i64 (n j))) (fun i _ => 3 - (intOf i).toNat)
  case atStart =>
    have hb : Below w.heap.size w (w.alloc (.cells #[.int .i64 (n 0), .int .i64 (n 1), .int .i64 (n 2)] 98)) := (Below.refl _ _).alloc (Nat.le_refl _) _
    refine ⟨0, kv, hv, by omega, rfl, ?_, far_below hb, fun k h => .inl h, by simp, fun j hj => ?_⟩
    · rw [Mod.dropTo_zero]
      exact (unhide RR).far (far_below (E := fun _ => False) hb) (fun _ _ h => h)
    · rw [blk_cell (heap_alloc_new w _)]
      obtain rfl | rfl | rfl : j = 0 ∨ j = 1 ∨ j = 2 := by omega
      all_goals rfl
  case round =>
    obtain ⟨s, kv', hv', hs, rfl, R, hF, hK, hz, hbox⟩ := hrel
    by_cases hlt : s < 3
    · have hns := (unhide HN) s hlt
      have hbs := (unhide HBS) s hlt
      obtain ⟨c0, c1, c2⟩ := ref_at R s hlt
      simp only [Mod.dropTo_self] at c0
      have d0 := hbox s hlt
      have f0 := blk_free (i := 5 + s * 3) R.blk
      have hs3 : (s : Int) < 3 := by omega
      have hw : IntKind.i64.wrap (((a.fl s).base : Int) + (n s : Int)) = (a.fl s).base + n s := by rw [IntKind.wrap_i64]; omega
      have hpl := lt_of_block R.blk
      have R1 := hide R
      have FF := hide hF
      have KK := hide hK
      have BX := hide hbox
      clear R hF hK hbox
      go_upto_region 5 with fail
      refine wp_region_last (by kernel_rfl)
        [fun v _ => v = .pointer (some ⟨p, 5 + s * 3, none⟩), fun v _ => v = .pointer (some ⟨p, 5 + s * 3, none⟩), fun v _ => v = .pointer (some ⟨p, 5 + s * 3, none⟩), fun v _ => v = .pointer (some ⟨p, 5 + s * 3, none⟩), fun v _ => v = .int .i64 (a.fl s).base, fun v _ => v = .int .i64 s, fun v _ => v = .pointer (some ⟨w.heap.size, s, none⟩), fun v _ => v = .int .i64 (n s), fun v _ => v = .int .i64 ((a.fl s).base + n s), fun v _ => v = .pointer (some ⟨p, 5 + s * 3, none⟩), fun v _ => v = .pointer (some ⟨p, 5 + s * 3, none⟩), fun _ _ => True]
        [[(5, none)], [(5, none)], [(16, some 1)], [(17, some 2)], [(18, some 3)], [(4, none)], [(3, none), (20, some 5)], [(21, some 6)], [(19, some 4), (22, some 7)], [(15, some 0)], [(24, some 9)], [(25, some 10), (23, some 8)]]
        [some 15, some 16, some 17, some 18, some 19, some 20, some 21, some 22, some 23, some 24, some 25, none]
        [false, false, false, false, false, false, false, false, false, false, false, false, false, false, false, true, true, true, true, true, true, true, true, true, true, true, false, false, false, false, false, false, false, false, false, false, false]
        11 _ rfl rfl (by kernel_rfl) (by kernel_rfl) (by kernel_rfl) (by kernel_rfl) (by kernel_rfl) (by kernel_rfl) ?_ ?_ ?_
      · repeat' (first | exact stable_eq _ | exact stable_true | exact trivial | apply And.intro)
      · refine ⟨?_, ?_, ?_, ?_, ?_, ?_, ?_, ?_, ?_, ?_, ?_, trivial⟩
        all_goals
          intro b x hb hf
          have y0 := (hb.cell (p := ⟨p, 5 + s * 3, none⟩) hpl).trans c0
          have y1 := (hb.cell (p := ⟨w.heap.size, s, none⟩) hz).trans d0
          clear hb
          simp only [PlanFacts, List.getD_cons_zero, List.getD_cons_succ, Array.getD_eq_getD_getElem?] at hf
          try simp at hf
          try go_simp
          try exact Below.refl _ _
        all_goals first | exact ⟨rfl, Below.refl _ _⟩ | (rw [hw]; exact ⟨rfl, Below.refl _ _⟩)
      · intro f5 x5 hb hwd
        simp only [AllWords, List.take] at hwd
        obtain ⟨_, _, _, _, _, _, _, _, hf23, _, hf25, _⟩ := hwd
        have R5 := (unhide R1).far (far_below (E := fun _ => False) hb) (fun _ _ h => h)
        have y0 := (hb.cell (p := ⟨p, 5 + s * 3, none⟩) hpl).trans c0
        have yf := (hb.frozen (p := ⟨p, 5 + s * 3, none⟩) hpl).trans f0
        have R6 := R5.baseStep s hlt ((a.fl s).base + n s) hbs
        have FF5 := (unhide FF).trans (far_below (E := fun _ => False) hb) (fun _ _ h => h.elim)
        have FF6 := hide (FF5.trans (far_set x5 p (5 + s * 3) (.int .i64 (((a.fl s).base + n s : Nat) : Int))) (fun k _ h => .inl h))
        have BX6 : Hid (∀ j, j < 3 → (x5.setCell ⟨p, 5 + s * 3, none⟩ (.int .i64 (((a.fl s).base + n s : Nat) : Int))).cell? ⟨w.heap.size, j, none⟩ = some (.int .i64 (n j))) := fun j hj => by
          rw [World.cell?_of_block (blk_set_ne (by
            have hpw := (unhide RR).lt p (.inl rfl)
            show w.heap.size ≠ p
            omega))]
          exact (hb.cell (p := ⟨w.heap.size, j, none⟩) hz).trans ((unhide BX) j hj)
        have hz6 := Nat.lt_of_lt_of_le hz hb.size
        have R66 := hide R6
        clear hb R5 R6 c0 c1 c2 d0 f0 hw hns FF5 FF BX R1
        simp only [mergeT, hf23, hf25]
        go_simp
        go_upto_region 6 with fail
        refine wp_world (fun x => RefAt x p { a with fl := Mod.upd (Mod.dropTo a.fl n s) s { a.fl s with base := (a.fl s).base + n s } } r kv' hv' ∧ Far (RefU p kv hv) w x ∧ w.heap.size < x.heap.size ∧ ∀ j, j < 3 → x.cell? ⟨w.heap.size, j, none⟩ = some (.int .i64 (n j)))
          ⟨by have := unhide R66; simp only [Mod.dropTo_self] at this; exact this, unhide FF6, by rw [World.size_setCell]; exact hz6, unhide BX6⟩ ?_
        clear y0 yf hz6 R66 FF6 BX6 hz hpl
        rintro x6 ⟨R, hF, hz, hbox⟩
        obtain ⟨_, c1, _⟩ := ref_at R s hlt
        have d0 := hbox s hlt
        have f1 := blk_free (i := 5 + s * 3 + 1) R.blk
        have hpl := lt_of_block R.blk
        have hns := (unhide HN) s hlt
        have hrow := R.kept s hlt
        simp only [Mod.upd_same] at hrow
        obtain ⟨ka, kc, hka, hk1, _⟩ := hrow.shape
        obtain ⟨hcut0, hcut1⟩ := hrow.cut hns
        rw [← recCells_drop, ← List.length_drop, hka] at hcut0
        rw [hka] at hcut1
        have hcut := hide hcut0
        have hcuto := hide hcut1
        clear hcut0 hcut1
        rw [hka] at c1
        have HKA := hide hka
        have R1 := hide R
        have FF := hide hF
        have BX := hide hbox
        clear R hF hbox hrow hka
        refine wp_region_last (by kernel_rfl)
          [fun v _ => v = .pointer (some ⟨p, 5 + s * 3, none⟩), fun v _ => v = .pointer (some ⟨p, 5 + s * 3, none⟩), fun v _ => v = .pointer (some ⟨p, 5 + s * 3, none⟩), fun v _ => v = .pointer (some ⟨p, 5 + s * 3 + 1, none⟩), fun v _ => v = .slice ka (a.fl s).kept.length kc, fun v _ => v = .int .i64 s, fun v _ => v = .pointer (some ⟨w.heap.size, s, none⟩), fun v _ => v = .int .i64 (n s), fun v _ => v = cutV (.slice ka (a.fl s).kept.length kc) (n s) 2, fun v _ => v = .pointer (some ⟨p, 5 + s * 3, none⟩), fun v _ => v = .pointer (some ⟨p, 5 + s * 3 + 1, none⟩), fun _ _ => True]
          [[(5, none)], [(5, none)], [(27, some 1)], [(28, some 2)], [(29, some 3)], [(4, none)], [(3, none), (31, some 5)], [(32, some 6)], [(30, some 4), (33, some 7)], [(26, some 0)], [(35, some 9)], [(36, some 10), (34, some 8)]]
          [some 26, some 27, some 28, some 29, some 30, some 31, some 32, some 33, some 34, some 35, some 36, none]
          [false, false, false, false, false, false, false, false, false, false, false, false, false, false, false, false, false, false, false, false, false, false, false, false, false, false, true, true, true, true, true, true, true, true, true, true, true]
          11 _ rfl rfl (by kernel_rfl) (by kernel_rfl) (by kernel_rfl) (by kernel_rfl) (by kernel_rfl) (by kernel_rfl) ?_ ?_ ?_
        · repeat' (first | exact stable_eq _ | exact stable_true | exact trivial | apply And.intro)
        · refine ⟨?_, ?_, ?_, ?_, ?_, ?_, ?_, ?_, ?_, ?_, ?_, trivial⟩
          all_goals
            intro b x hb hf
            have y0 := (hb.cell (p := ⟨p, 5 + s * 3 + 1, none⟩) hpl).trans c1
            have y1 := (hb.cell (p := ⟨w.heap.size, s, none⟩) hz).trans d0
            clear hb
            simp only [PlanFacts, List.getD_cons_zero, List.getD_cons_succ, Array.getD_eq_getD_getElem?] at hf
            try simp at hf
            try go_simp
            try exact Below.refl _ _
          all_goals exact ⟨rfl, Below.refl _ _⟩
        · intro f7 x7 hb hwd
          simp only [AllWords, List.take] at hwd
          obtain ⟨_, _, _, _, _, _, _, _, hf34, _, hf36, _⟩ := hwd
          have hb0 : Far (fun _ => False) x6 x7 := far_below hb
          have R7 := (unhide R1).far hb0 (fun _ _ h => h)
          have hrow7 := (unhide hcut).far hb0 (fun _ _ h => h)
          rw [← unhide HKA] at hrow7
          have K7 := R7.keptStep s hlt (x := (a.fl s).kept.drop (n s)) (Far.refl _ _) (v' := cutV (kv' s) (n s) 2) (fun g hg => .inl (by have := unhide hcuto; rw [← unhide HKA] at this; rw [← this]; exact hg)) hrow7 (by have := (unhide R1).kl s hlt; simp only [Mod.upd_same] at this; rw [List.length_drop]; omega)
          obtain ⟨_, K8⟩ := K7
          simp only [Mod.upd_same, upd_upd] at K8
          rw [unhide HKA] at K8
          have y1 := (hb.cell (p := ⟨p, 5 + s * 3 + 1, none⟩) hpl).trans c1
          have yf := (hb.frozen (p := ⟨p, 5 + s * 3 + 1, none⟩) hpl).trans f1
          have KK8 := hide K8
          have FF7 := hide ((unhide FF).trans hb0 (fun _ _ h => h.elim))
          have BX7 : Hid (∀ j, j < 3 → x7.cell? ⟨w.heap.size, j, none⟩ = some (.int .i64 (n j))) := fun j hj => (hb.cell (p := ⟨w.heap.size, j, none⟩) hz).trans ((unhide BX) j hj)
          have hz7 := Nat.lt_of_lt_of_le hz hb.size
          clear hb hb0 R7 hrow7 K8 c1 f1 d0 hz hpl FF BX R1 hcut hcuto HKA
          simp only [mergeT, hf34, hf36]
          rw [cutV_slice] at *
          go_simp
          go_wp2
          go_roundw
          case rel =>
            obtain ⟨kv8, hv8, R8, F8, U8⟩ := unhide KK8
            refine ⟨s + 1, kv8, hv8, by omega, by go_num, ?_, ?_, ?_, by rw [World.size_setCell]; exact hz7, ?_⟩
            · rw [Mod.dropTo_succ]
              exact R8
            · exact (unhide FF7).trans F8 (fun k hk h => ((unhide KK) k h).elim id (fun h => by omega))
            · intro k hk
              rcases U8 k hk with h | h
              · exact (unhide KK) k h
              · exact .inr (by omega)
            · intro j hj
              rw [World.cell?_of_block (blk_set_ne (by
                have hpw := (unhide RR).lt p (.inl rfl)
                show w.heap.size ≠ p
                omega))]
              exact (unhide BX7) j hj
          case measure => simp [intOf]; omega
    · have hs3 : s = 3 := by omega
      subst hs3
      have R1 := hide R
      have FF := hide hF
      have KK := hide hK
      clear R hF hK hbox
      go_wp2
      refine bodyPost_end (results_none rfl _ _ _) rfl ?_
      exact ⟨rfl, kv', hv', unhide R1, unhide FF, fun k hk => ((unhide KK) k hk).elim .inl (fun h => .inr (by omega))⟩
end Go.Proofs.YtamafdcnbcoegaaGreat
namespace Go.Proofs.YtamafdcnbcoegaaGreat
open Go.RowKit

theorem own0 {B : Nat} {w : World} {e : TypeId} {v : Value} {n : Nat} {xs : List Value} (h : w.ownsRow B e 1 v n xs) : w.ownsRow 0 e 1 v n xs := by
  obtain ⟨h1, h2⟩ := h
  refine ⟨h1, ?_⟩
  rcases h2 with h2 | ⟨g, cap, cur, e, hB, r⟩
  · exact .inl h2
  · exact .inr ⟨g, cap, cur, e, Nat.zero_le _, r⟩
end Go.Proofs.YtamafdcnbcoegaaGreat
namespace Go.Proofs.YtamafdcnbcoegaaGreat
open Go.RowKit

theorem own_rowO {B : Nat} {w : World} {e : TypeId} {size n : Nat} {v : Value} {xs : List Value} (h : w.ownsRow B e size v n xs) : RowO w e size v n xs := by
  obtain ⟨h1, h2⟩ := h
  refine ⟨h1, ?_⟩
  rcases h2 with h2 | ⟨g, cap, cur, rfl, _, hh, hn, hc, hs, ht⟩
  · exact .inl h2
  · exact .inr ⟨g, 0, cap, cur, rfl, hh, hn, hc, by omega, by simpa using ht⟩

end Go.Proofs.YtamafdcnbcoegaaGreat
namespace Go.Proofs.YtamafdcnbcoegaaGreat
open Go.RowKit

/-- append to a row that begins anywhere, in a region that draws its order. -/
theorem step_app_o {ops : Array Oper} {o : Oper} {a : Act} {K : Act → World → Prop} {Q : Exit → Act → World → Prop} {E : Prop} {w : World} (hgd : o.guard = none) (s x : Operand) (t : TypeId) (ho : o.op = .call { callee := .builtin .append, args := #[s, x], argTypes := #[t, t] })
    (e : TypeId) (z : Value) (size bytes : Nat) (ht : Tryz.prog.underlying t = some (.slice e)) (hinfo : (Tryz.prog.info? e).map (fun i => (i.zero, i.size, i.bytes)) = some (some z, size, bytes)) (hzs : z.cells.size = size)
    (v : Value) (n : Nat) (xs : List Value) (hown : RowO w e size v n xs) (hs : a.eval s = v) (ad : Addr) (m c : Nat) (news : List Value) (hx : a.eval x = .slice (some ad) m c) (hl : news.length = m * size) (hnews : ∀ j u, news[j]? = some u → w.cell? (ad.add j) = some u)
    (h1 : ∀ u ∈ news, u.oneCell' = true) (hm : 0 < m) (hb : (n + m) * bytes ≤ 140737488355328) (h63 : n + m ≤ 140737488355328)
    (h : ∀ v' w', RowO w' e size v' (n + m) (xs ++ news) → App w w' v v' → K (a.put o.dst v') w') : if Region.wanted o (yielded ops a.tmps) = true then o.wp Tryz.prog a w K Q else E := by
  rw [if_pos (by simp [Region.wanted, hgd])]
  obtain ⟨i0, hi, hz0, hz1, hz2⟩ := info_parts2 hinfo
  obtain ⟨v', w', hr, h2, h3⟩ := run_append_o (P := Tryz.prog) w t o.type e i0 z size bytes ht hi hz0 hz1 hz2 hzs v n xs hown ad m c news hl hnews h1 hm hb h63
  unfold Oper.wp execOp
  simp only [ho, resolve, invoke, builtin, Sem.run_bind, Sem.run_pure, Result.andThen_ok, List.map_toArray, List.map_cons, List.map_nil, hs, hx, hr]
  exact h v' w' h2 h3

end Go.Proofs.YtamafdcnbcoegaaGreat
