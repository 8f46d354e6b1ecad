/-
  A region that draws its order, and whose operations only make memory (none writes what was there): whatever the order, what each leaves is told by a word of its own, which no later operation can undo.
-/
import Derived.Below
import Derived.Orders
namespace Go.Proofs.YtamafdcnbcoegaaGreat
open Go.RowKit

/-- Which operation writes a slot. -/
def wr (ops : Array Oper) (t : Tmp) : Option Nat := (List.range ops.size).find? fun j => ((ops[j]?).bind (·.dst)) == some t
/-- Does operation i wait for operation j? -/
def depB (ops : Array Oper) (i j : Nat) : Bool := match ops[i]? with
  | some o => o.after.any fun e => Region.binds .any e && e.on == j
  | none => false
/-- Slots are written once; what is looked at is written by one that is waited for, or by one that waits; who is waited for stands ahead. -/
def monoOk (ops : Array Oper) (size : Nat) : Bool :=
  Region.noSelect ops && (List.range ops.size).all fun i => match ops[i]? with
    | none => false
    | some o => (match o.dst with
        | none => true
        | some d => decide (d < size) && wr ops d == some i)
      && ((o.looksAt ops).all fun t => match wr ops t with
        | none => true
        | some j => depB ops i j || depB ops j i)
      && o.after.all fun e => !Region.binds .any e || decide (e.on < i)

theorem countP_lt {α : Type} {p q : α → Bool} : ∀ {l : List α}, (∀ x ∈ l, q x = true → p x = true) → (∃ x ∈ l, p x = true ∧ q x = false) → l.countP q < l.countP p
  | [], _, ⟨_, h, _⟩ => by cases h
  | y :: l, h, ⟨x, hx, h1, h2⟩ => by
    have hle : l.countP q ≤ l.countP p := List.countP_mono_left (fun z hz => h z (List.mem_cons_of_mem _ hz))
    rcases List.mem_cons.1 hx with rfl | hx
    · rw [List.countP_cons_of_pos h1, List.countP_cons_of_neg (by simp [h2])]; omega
    · have ih := countP_lt (fun z hz => h z (List.mem_cons_of_mem _ hz)) ⟨x, hx, h1, h2⟩
      by_cases hq : q y = true
      · rw [List.countP_cons_of_pos hq, List.countP_cons_of_pos (h y (List.mem_cons_self ..) hq)]; omega
      · rw [List.countP_cons_of_neg hq]
        have : List.countP p (y :: l) = l.countP p + if p y = true then 1 else 0 := by rw [List.countP_cons]
        rw [this]; split <;> omega

section
variable {P : Program} {ops : Array Oper} {Q : Exit → Act → World → Prop}

/-- What an operation may look at, when its turn comes. -/
def GoodAct (ops : Array Oper) (Φ : Nat → Value → World → Prop) (a0 : Act) (i : Nat) (o : Oper) (a : Act) (w : World) : Prop :=
  ∀ t ∈ o.looksAt ops, match wr ops t with
    | some j => if depB ops i j = true then Φ j (a.tmps.getD t undef) w else a.tmps.getD t undef = a0.tmps.getD t undef
    | none => a.tmps.getD t undef = a0.tmps.getD t undef

structure MonoInv (ops : Array Oper) (Φ : Nat → Value → World → Prop) (a0 : Act) (w0 : World) (L : Array Bool) (a : Act) (w : World) : Prop where
  size : L.size = ops.size
  ext : Below w0.heap.size w0 w
  closed : ∀ k, L.getD k false = true → ∀ j, depB ops k j = true → L.getD j false = true
  vals : ∀ i o d, ops[i]? = some o → o.dst = some d → L.getD i false = true → Φ i (a.tmps.getD d undef) w
  rest : ∀ t, (∀ j, wr ops t = some j → L.getD j false = false) → a.tmps.getD t undef = a0.tmps.getD t undef
  defers : a.defers = a0.defers
  tsize : a.tmps.size = a0.tmps.size

theorem monoOk_spec {size : Nat} (h : monoOk ops size = true) {i : Nat} {o : Oper} (ho : ops[i]? = some o) :
    (∀ d, o.dst = some d → d < size ∧ wr ops d = some i) ∧ (∀ t ∈ o.looksAt ops, ∀ j, wr ops t = some j → depB ops i j = true ∨ depB ops j i = true) ∧ (∀ j, depB ops i j = true → j < i) := by
  unfold monoOk at h
  rw [Bool.and_eq_true] at h
  have hi : i < ops.size := (Array.getElem?_eq_some_iff.1 ho).1
  have h1 := List.all_eq_true.1 h.2 i (List.mem_range.2 hi)
  simp only [ho, Bool.and_eq_true] at h1
  obtain ⟨⟨h1, h2⟩, h3⟩ := h1
  refine ⟨fun d hd => ?_, fun t ht j hj => ?_, fun j hj => ?_⟩
  · rw [hd] at h1
    simp only [Bool.and_eq_true, decide_eq_true_eq, beq_iff_eq] at h1
    exact h1
  · have := List.all_eq_true.1 h2 t ht
    rw [hj] at this
    simpa using this
  · unfold depB at hj
    rw [ho] at hj
    obtain ⟨e, he, hb⟩ := Array.any_eq_true'.1 hj
    simp only [Bool.and_eq_true, beq_iff_eq] at hb
    have := Array.all_eq_true_iff_forall_mem.1 h3 e he
    simp [hb.1] at this
    omega

theorem mono_any {a0 : Act} {w0 : World} (Φ : Nat → Value → World → Prop) (hok : monoOk ops a0.tmps.size = true)
    (hst : ∀ i v w w', Φ i v w → Below w.heap.size w w' → Φ i v w')
    (hop : ∀ i o, ops[i]? = some o → ∀ a w, Below w0.heap.size w0 w → GoodAct ops Φ a0 i o a w →
      if Region.wanted o (yielded ops a.tmps) = true then o.wp P a w (fun a' w' => ∃ v, a' = a.put o.dst v ∧ Below w.heap.size w w' ∧ Φ i v w') Q else Φ i undef w)
    (hend : ∀ a w, Below w0.heap.size w0 w → (∀ i o d, ops[i]? = some o → o.dst = some d → Φ i (a.tmps.getD d undef) w) → (∀ t, wr ops t = none → a.tmps.getD t undef = a0.tmps.getD t undef) → a.defers = a0.defers → a.tmps.size = a0.tmps.size → Q .normal a w) :
    ∀ (fuel : Nat) (L : Array Bool) (a : Act) (w : World), MonoInv ops Φ a0 w0 L a w → (List.range ops.size).countP (fun i => !L.getD i false) ≤ fuel → wpAny P .any ops Q fuel L a w := by
  have hrdy : ∀ (L : Array Bool) (a : Act) (w : World), MonoInv ops Φ a0 w0 L a w → Region.ready .any ops L = [] → Q .normal a w := by
    intro L a w hI hr
    have hall : ∀ n i, i < n → i < ops.size → L.getD i false = true := by
      intro n
      induction n with
      | zero => intro i h; omega
      | succ n ih =>
        intro i h hi
        by_cases hin : i < n
        · exact ih i hin hi
        · have e : i = n := by omega
          subst e
          cases hL : L.getD i false
          · exfalso
            have ho : ops[i]? = some ops[i] := Array.getElem?_eq_getElem hi
            obtain ⟨_, _, h3⟩ := monoOk_spec hok ho
            have : i ∈ Region.ready .any ops L := mem_ready.2 ⟨by
              have hs : i < L.size := by rw [hI.size]; exact hi
              rw [Array.getD_eq_getD_getElem?, Array.getElem?_eq_getElem hs] at hL ⊢
              exact hL, ops[i], ho, fun e he hb => by
              have hd : depB ops i e.on = true := by
                unfold depB
                rw [ho]
                exact Array.any_eq_true'.2 ⟨e, he, by simp [hb]⟩
              have hlt := h3 _ hd
              exact ih e.on hlt (by omega)⟩
            rw [hr] at this
            cases this
          · rfl
    refine hend a w hI.ext (fun i o d ho hd => hI.vals i o d ho hd (hall ops.size i (Array.getElem?_eq_some_iff.1 ho).1 (Array.getElem?_eq_some_iff.1 ho).1)) (fun t ht => hI.rest t (fun j hj => by rw [ht] at hj; cases hj)) hI.defers hI.tsize
  intro fuel
  induction fuel with
  | zero =>
    intro L a w hI hc
    have hr : Region.ready .any ops L = [] := by
      apply List.eq_nil_iff_forall_not_mem.2
      intro i hi
      obtain ⟨h0, o, ho, _⟩ := mem_ready.1 hi
      have hlt : i < ops.size := (Array.getElem?_eq_some_iff.1 ho).1
      have h0' : L.getD i false = false := by
        have hs : i < L.size := by rw [hI.size]; exact hlt
        rw [Array.getD_eq_getD_getElem?, Array.getElem?_eq_getElem hs] at h0 ⊢
        exact h0
      have : 0 < (List.range ops.size).countP (fun i => !L.getD i false) := List.countP_pos_iff.2 ⟨i, List.mem_range.2 hlt, by simp [h0']⟩
      omega
    exact ⟨hr, hrdy L a w hI hr⟩
  | succ fuel ih =>
    intro L a w hI hc
    refine ⟨hrdy L a w hI, fun i hi => ?_⟩
    obtain ⟨h0, o, ho, hdeps⟩ := mem_ready.1 hi
    have hlt : i < ops.size := (Array.getElem?_eq_some_iff.1 ho).1
    have hls : i < L.size := by rw [hI.size]; exact hlt
    have h0' : L.getD i false = false := by
      rw [Array.getD_eq_getD_getElem?, Array.getElem?_eq_getElem hls] at h0 ⊢
      exact h0
    obtain ⟨hd, hl, hlex⟩ := monoOk_spec hok ho
    have hdl : ∀ j, depB ops i j = true → L.getD j false = true := by
      intro j hj
      unfold depB at hj
      rw [ho] at hj
      obtain ⟨e, he, hb⟩ := Array.any_eq_true'.1 hj
      simp only [Bool.and_eq_true, beq_iff_eq] at hb
      rw [← hb.2]; exact hdeps e he hb.1
    have hgood : GoodAct ops Φ a0 i o a w := by
      intro t ht
      cases hw : wr ops t with
      | none => exact hI.rest t (fun j hj => by rw [hw] at hj; cases hj)
      | some j =>
        simp only []
        have hj := List.find?_some hw
        simp only [beq_iff_eq] at hj
        split
        · rename_i hdep
          cases hoj : ops[j]? with
          | none => rw [hoj] at hj; cases hj
          | some oj =>
            rw [hoj] at hj
            exact hI.vals j oj t hoj hj (hdl j hdep)
        · rename_i hdep
          refine hI.rest t (fun j' hj' => ?_)
          rw [hw] at hj'
          cases hj'
          rcases hl t ht j hw with h | h
          · exact absurd h hdep
          · cases hLj : L.getD j false
            · rfl
            · have := hI.closed j hLj i h
              rw [h0'] at this; cases this
    have hstep : ∀ v w', Below w.heap.size w w' → Φ i v w' → MonoInv ops Φ a0 w0 (L.setIfInBounds i true) (a.put o.dst v) w' := by
      intro v w' hb hv
      have hget : ∀ k, (L.setIfInBounds i true).getD k false = true ↔ (k = i ∨ L.getD k false = true) := by
        intro k
        by_cases hk : k = i
        · subst hk
          simp [Array.getD_eq_getD_getElem?, hls]
        · rw [getD_set_ne false (fun e => hk e.symm)]
          simp [hk]
      have hput : ∀ t, (a.put o.dst v).tmps.getD t undef = if o.dst = some t then v else a.tmps.getD t undef := by
        intro t
        cases hdst : o.dst with
        | none => simp [Act.put]
        | some d =>
          simp only [Act.put, Option.some.injEq]
          have hdsz : d < a.tmps.size := by rw [hI.tsize]; exact (hd d hdst).1
          by_cases h : d = t
          · subst h
            simp [Array.getD_eq_getD_getElem?, hdsz]
          · simp [Array.getD_eq_getD_getElem?, h]
      refine ⟨by simp [hI.size], hI.ext.trans (hb.mono hI.ext.size), ?_, ?_, ?_, ?_, ?_⟩
      · intro k hk j hj
        rw [hget] at hk ⊢
        rcases hk with rfl | hk
        · exact .inr (hdl j hj)
        · exact .inr (hI.closed k hk j hj)
      · intro k ok d hok' hdk hk
        rw [hget] at hk
        rw [hput]
        rcases hk with rfl | hk
        · rw [ho] at hok'; cases hok'
          rw [if_pos hdk]; exact hv
        · have hne : o.dst ≠ some d := by
            intro e
            have h1 := (hd d e).2
            have h2 := ((monoOk_spec hok hok').1 d hdk).2
            rw [h1] at h2
            cases h2
            rw [h0'] at hk; cases hk
          rw [if_neg hne]
          exact hst k _ _ _ (hI.vals k ok d hok' hdk hk) hb
      · intro t ht
        rw [hput]
        have hne : o.dst ≠ some t := by
          intro e
          have := ht i (hd t e).2
          have h2 := (hget i).2 (.inl rfl)
          rw [this] at h2; cases h2
        rw [if_neg hne]
        refine hI.rest t (fun j hj => ?_)
        cases hLj : L.getD j false
        · rfl
        · have := ht j hj
          rw [(hget j).2 (.inr hLj)] at this; cases this
      · cases o.dst <;> exact hI.defers
      · rw [← hI.tsize]; cases o.dst <;> simp [Act.put]
    have hcount : (List.range ops.size).countP (fun k => !(L.setIfInBounds i true).getD k false) ≤ fuel := by
      have := countP_lt (l := List.range ops.size) (p := fun k => !L.getD k false) (q := fun k => !(L.setIfInBounds i true).getD k false)
        (fun k _ hk => by
          by_cases hki : k = i
          · subst hki; simp [h0']
          · rw [getD_set_ne false (fun e => hki e.symm)] at hk; exact hk)
        ⟨i, List.mem_range.2 hlt, by simp [h0'], by simp [Array.getD_eq_getD_getElem?, hls]⟩
      omega
    have hg := hop i o ho a w hI.ext hgood
    unfold wpOp
    rw [ho]
    simp only []
    split at hg
    · rename_i hw
      rw [if_pos hw]
      refine .inl (Oper.wp_mono ?_ hg)
      rintro a' w' ⟨v, rfl, hb, hv⟩
      exact ih _ _ _ (hstep v w' hb hv) hcount
    · rename_i hw
      rw [if_neg hw]
      exact ih _ _ _ (hstep undef w (Below.refl _ _) hg) hcount

/-- Every operation but the last has one that waits for it. -/
def coverB (ops : Array Oper) (last : Nat) : Bool := (List.range last).all fun i => (List.range (last + 1)).any fun k => depB ops k i

theorem mono_any_last {a0 : Act} {w0 : World} (Φ : Nat → Value → World → Prop) (hok : monoOk ops a0.tmps.size = true) (last : Nat) (hn : ops.size = last + 1) (hcov : coverB ops last = true)
    (hst : ∀ i v w w', Φ i v w → Below w.heap.size w w' → Φ i v w')
    (hop : ∀ i o, i < last → ops[i]? = some o → ∀ a w, Below w0.heap.size w0 w → GoodAct ops Φ a0 i o a w →
      if Region.wanted o (yielded ops a.tmps) = true then o.wp P a w (fun a' w' => ∃ v, a' = a.put o.dst v ∧ Below w.heap.size w w' ∧ Φ i v w') Q else Φ i undef w)
    (hend : ∀ a w, Below w0.heap.size w0 w → (∀ i o d, i < last → ops[i]? = some o → o.dst = some d → Φ i (a.tmps.getD d undef) w) → (∀ t, (∀ j, wr ops t = some j → j = last) → a.tmps.getD t undef = a0.tmps.getD t undef) → a.defers = a0.defers → a.tmps.size = a0.tmps.size → wpOp P ops Q last (Q .normal) a w) :
    ∀ (fuel : Nat) (L : Array Bool) (a : Act) (w : World), MonoInv ops Φ a0 w0 L a w → L.getD last false = false → (List.range ops.size).countP (fun i => !L.getD i false) ≤ fuel → wpAny P .any ops Q fuel L a w := by
  have hrdy : ∀ (L : Array Bool) (a : Act) (w : World), MonoInv ops Φ a0 w0 L a w → L.getD last false = false → Region.ready .any ops L = [] → False := by
    intro L a w hI hlast hr
    have hall : ∀ n i, i < n → i < ops.size → L.getD i false = true := by
      intro n
      induction n with
      | zero => intro i h; omega
      | succ n ih =>
        intro i h hi
        by_cases hin : i < n
        · exact ih i hin hi
        · have e : i = n := by omega
          subst e
          cases hL : L.getD i false
          · exfalso
            have ho : ops[i]? = some ops[i] := Array.getElem?_eq_getElem hi
            obtain ⟨_, _, h3⟩ := monoOk_spec hok ho
            have : i ∈ Region.ready .any ops L := mem_ready.2 ⟨by
              have hs : i < L.size := by rw [hI.size]; exact hi
              rw [Array.getD_eq_getD_getElem?, Array.getElem?_eq_getElem hs] at hL ⊢
              exact hL, ops[i], ho, fun e he hb => by
              have hd : depB ops i e.on = true := by
                unfold depB
                rw [ho]
                exact Array.any_eq_true'.2 ⟨e, he, by simp [hb]⟩
              have hlt := h3 _ hd
              exact ih e.on hlt (by omega)⟩
            rw [hr] at this
            cases this
          · rfl
    have := hall ops.size last (by omega) (by omega)
    rw [hlast] at this; cases this
  have hcl : ∀ (L : Array Bool) (a : Act) (w : World), MonoInv ops Φ a0 w0 L a w → (∀ j, depB ops last j = true → L.getD j false = true) → ∀ n i, last ≤ i + n → i < last → L.getD i false = true := by
    intro L a w hI hdl n
    induction n with
    | zero => intro i h hi; omega
    | succ n ih =>
      intro i h hi
      unfold coverB at hcov
      have h1 := List.all_eq_true.1 hcov i (List.mem_range.2 hi)
      obtain ⟨k, hk, hd⟩ := List.any_eq_true.1 h1
      have hk' : k < last + 1 := List.mem_range.1 hk
      by_cases hkl : k = last
      · subst hkl; exact hdl i hd
      · have hlt : i < k := by
          unfold depB at hd
          cases hok' : ops[k]? with
          | none => rw [hok'] at hd; cases hd
          | some ok =>
            obtain ⟨_, _, h3⟩ := monoOk_spec hok hok'
            exact h3 i (by unfold depB; exact hd)
        exact hI.closed k (ih k (by omega) (by omega)) i hd
  intro fuel
  induction fuel with
  | zero =>
    intro L a w hI hlast hc
    have : 0 < (List.range ops.size).countP (fun i => !L.getD i false) := List.countP_pos_iff.2 ⟨last, List.mem_range.2 (by omega), by simp only [hlast]; rfl⟩
    omega
  | succ fuel ih =>
    intro L a w hI hlast hc
    refine ⟨fun h => (hrdy L a w hI hlast h).elim, fun i hi => ?_⟩
    obtain ⟨h0, o, ho, hdeps⟩ := mem_ready.1 hi
    have hlt : i < ops.size := (Array.getElem?_eq_some_iff.1 ho).1
    have hls : i < L.size := by rw [hI.size]; exact hlt
    have h0' : L.getD i false = false := by
      rw [Array.getD_eq_getD_getElem?, Array.getElem?_eq_getElem hls] at h0 ⊢
      exact h0
    obtain ⟨hd, hl, hlex⟩ := monoOk_spec hok ho
    have hdl : ∀ j, depB ops i j = true → L.getD j false = true := by
      intro j hj
      unfold depB at hj
      rw [ho] at hj
      obtain ⟨e, he, hb⟩ := Array.any_eq_true'.1 hj
      simp only [Bool.and_eq_true, beq_iff_eq] at hb
      rw [← hb.2]; exact hdeps e he hb.1
    by_cases hil : i = last
    · subst hil
      have hall := hcl L a w hI hdl i
      refine wpOp_mono ?_ (hend a w hI.ext (fun j o' d hj ho' hd' => hI.vals j o' d ho' hd' (hall j (by omega) hj)) (fun t ht => hI.rest t (fun j hj => by rw [ht j hj]; exact hlast)) hI.defers hI.tsize)
      intro a' w' hq
      refine wpAny_done ?_ hq _
      apply List.eq_nil_iff_forall_not_mem.2
      intro j hj
      obtain ⟨hj0, oj, hoj, _⟩ := mem_ready.1 hj
      have hjlt : j < ops.size := (Array.getElem?_eq_some_iff.1 hoj).1
      have hls' : j < L.size := by rw [hI.size]; exact hjlt
      have hj1 : (L.setIfInBounds i true).getD j false = false := by
        rw [Array.getD_eq_getD_getElem?, Array.getElem?_eq_getElem (by simpa using hls')] at hj0 ⊢
        exact hj0
      by_cases hji : j = i
      · subst hji
        simp [Array.getD_eq_getD_getElem?, hls] at hj1
      · rw [getD_set_ne false (fun e => hji e.symm), hall j (by omega) (by omega)] at hj1
        cases hj1
    have hlt' : i < last := by omega
    have hgood : GoodAct ops Φ a0 i o a w := by
      intro t ht
      cases hw : wr ops t with
      | none => exact hI.rest t (fun j hj => by rw [hw] at hj; cases hj)
      | some j =>
        simp only []
        have hj := List.find?_some hw
        simp only [beq_iff_eq] at hj
        split
        · rename_i hdep
          cases hoj : ops[j]? with
          | none => rw [hoj] at hj; cases hj
          | some oj =>
            rw [hoj] at hj
            exact hI.vals j oj t hoj hj (hdl j hdep)
        · rename_i hdep
          refine hI.rest t (fun j' hj' => ?_)
          rw [hw] at hj'
          cases hj'
          rcases hl t ht j hw with h | h
          · exact absurd h hdep
          · cases hLj : L.getD j false
            · rfl
            · have := hI.closed j hLj i h
              rw [h0'] at this; cases this
    have hstep : ∀ v w', Below w.heap.size w w' → Φ i v w' → MonoInv ops Φ a0 w0 (L.setIfInBounds i true) (a.put o.dst v) w' := by
      intro v w' hb hv
      have hget : ∀ k, (L.setIfInBounds i true).getD k false = true ↔ (k = i ∨ L.getD k false = true) := by
        intro k
        by_cases hk : k = i
        · subst hk
          simp [Array.getD_eq_getD_getElem?, hls]
        · rw [getD_set_ne false (fun e => hk e.symm)]
          simp [hk]
      have hput : ∀ t, (a.put o.dst v).tmps.getD t undef = if o.dst = some t then v else a.tmps.getD t undef := by
        intro t
        cases hdst : o.dst with
        | none => simp [Act.put]
        | some d =>
          simp only [Act.put, Option.some.injEq]
          have hdsz : d < a.tmps.size := by rw [hI.tsize]; exact (hd d hdst).1
          by_cases h : d = t
          · subst h
            simp [Array.getD_eq_getD_getElem?, hdsz]
          · simp [Array.getD_eq_getD_getElem?, h]
      refine ⟨by simp [hI.size], hI.ext.trans (hb.mono hI.ext.size), ?_, ?_, ?_, ?_, ?_⟩
      · intro k hk j hj
        rw [hget] at hk ⊢
        rcases hk with rfl | hk
        · exact .inr (hdl j hj)
        · exact .inr (hI.closed k hk j hj)
      · intro k ok d hok' hdk hk
        rw [hget] at hk
        rw [hput]
        rcases hk with rfl | hk
        · rw [ho] at hok'; cases hok'
          rw [if_pos hdk]; exact hv
        · have hne : o.dst ≠ some d := by
            intro e
            have h1 := (hd d e).2
            have h2 := ((monoOk_spec hok hok').1 d hdk).2
            rw [h1] at h2
            cases h2
            rw [h0'] at hk; cases hk
          rw [if_neg hne]
          exact hst k _ _ _ (hI.vals k ok d hok' hdk hk) hb
      · intro t ht
        rw [hput]
        have hne : o.dst ≠ some t := by
          intro e
          have := ht i (hd t e).2
          have h2 := (hget i).2 (.inl rfl)
          rw [this] at h2; cases h2
        rw [if_neg hne]
        refine hI.rest t (fun j hj => ?_)
        cases hLj : L.getD j false
        · rfl
        · have := ht j hj
          rw [(hget j).2 (.inr hLj)] at this; cases this
      · cases o.dst <;> exact hI.defers
      · rw [← hI.tsize]; cases o.dst <;> simp [Act.put]
    have hcount : (List.range ops.size).countP (fun k => !(L.setIfInBounds i true).getD k false) ≤ fuel := by
      have := countP_lt (l := List.range ops.size) (p := fun k => !L.getD k false) (q := fun k => !(L.setIfInBounds i true).getD k false)
        (fun k _ hk => by
          by_cases hki : k = i
          · subst hki; simp [h0']
          · rw [getD_set_ne false (fun e => hki e.symm)] at hk; exact hk)
        ⟨i, List.mem_range.2 hlt, by simp [h0'], by simp [Array.getD_eq_getD_getElem?, hls]⟩
      omega
    have hlast' : (L.setIfInBounds i true).getD last false = false := by rw [getD_set_ne false hil]; exact hlast
    have hg := hop i o hlt' ho a w hI.ext hgood
    unfold wpOp
    rw [ho]
    simp only []
    split at hg
    · rename_i hw
      rw [if_pos hw]
      refine .inl (Oper.wp_mono ?_ hg)
      rintro a' w' ⟨v, rfl, hb, hv⟩
      exact ih _ _ _ (hstep v w' hb hv) hlast' hcount
    · rename_i hw
      rw [if_neg hw]
      exact ih _ _ _ (hstep undef w (Below.refl _ _) hg) hlast' hcount


/-- The region's law. -/
theorem wp_region_mono {id : Nat} {a0 : Act} {w0 : World} (hm : P.follows .mixedOrders = true) (Φ : Nat → Value → World → Prop) (hok : monoOk ops a0.tmps.size = true)
    (hst : ∀ i v w w', Φ i v w → Below w.heap.size w w' → Φ i v w')
    (hop : ∀ i o, ops[i]? = some o → ∀ a w, Below w0.heap.size w0 w → GoodAct ops Φ a0 i o a w →
      if Region.wanted o (yielded ops a.tmps) = true then o.wp P a w (fun a' w' => ∃ v, a' = a.put o.dst v ∧ Below w.heap.size w w' ∧ Φ i v w') Q else Φ i undef w)
    (hend : ∀ a w, Below w0.heap.size w0 w → (∀ i o d, ops[i]? = some o → o.dst = some d → Φ i (a.tmps.getD d undef) w) → (∀ t, wr ops t = none → a.tmps.getD t undef = a0.tmps.getD t undef) → a.defers = a0.defers → a.tmps.size = a0.tmps.size → Q .normal a w) :
    (Code.region id ops true).wp P Q a0 w0 := by
  refine wp_region_any hm (mono_any (w0 := w0) Φ hok hst hop hend ops.size _ a0 _ ⟨by simp, (Below.refl _ _).drew, ?_, ?_, fun _ _ => rfl, rfl, rfl⟩ ?_)
  · intro k hk
    simp [Array.getD_eq_getD_getElem?] at hk
    rcases h : (Array.replicate ops.size false)[k]? with _ | b <;> simp [h] at hk
    subst hk
    have := Array.getElem?_eq_some_iff.1 h
    obtain ⟨h1, h2⟩ := this
    simp at h2
  · intro i o d ho hd hk
    exfalso
    simp [Array.getD_eq_getD_getElem?] at hk
    rcases h : (Array.replicate ops.size false)[i]? with _ | b <;> simp [h] at hk
    subst hk
    have := Array.getElem?_eq_some_iff.1 h
    obtain ⟨h1, h2⟩ := this
    simp at h2
  · exact Nat.le_trans List.countP_le_length (by simp)

/-- Which slots an operation looks at, and who has written each (none: nobody yet). -/
def planOf (ops : Array Oper) : List (List (Tmp × Option Nat)) :=
  (List.range ops.size).map fun i => match ops[i]? with
    | some o => (o.looksAt ops).map fun t => (t, match wr ops t with
        | some j => if depB ops i j = true then some j else none
        | none => none)
    | none => []
def PlanFacts (L : List (Value → World → Prop)) (a0 a : Act) (w : World) : List (Tmp × Option Nat) → Prop
  | [] => True
  | (t, some j) :: r => L.getD j (fun _ _ => True) (a.tmps.getD t undef) w ∧ PlanFacts L a0 a w r
  | (t, none) :: r => a.tmps.getD t undef = a0.tmps.getD t undef ∧ PlanFacts L a0 a w r
def MonoOps (P : Program) (ops : Array Oper) (Q : Exit → Act → World → Prop) (L : List (Value → World → Prop)) (a0 : Act) (w0 : World) : List Oper → List (List (Tmp × Option Nat)) → List (Value → World → Prop) → Prop
  | o :: os, pl :: pls, φ :: φs => (∀ a w, Below w0.heap.size w0 w → PlanFacts L a0 a w pl →
      if Region.wanted o (yielded ops a.tmps) = true then o.wp P a w (fun a' w' => ∃ v, a' = a.put o.dst v ∧ Below w.heap.size w w' ∧ φ v w') Q else φ undef w) ∧ MonoOps P ops Q L a0 w0 os pls φs
  | [], _, _ => True
  | _, _, _ => False
def Stable (φ : Value → World → Prop) : Prop := ∀ v w w', φ v w → Below w.heap.size w w' → φ v w'
theorem stable_eq (c : Value) : Stable (fun v _ => v = c) := fun _ _ _ h _ => h
theorem stable_true : Stable (fun _ _ => True) := fun _ _ _ _ _ => trivial
def AllStable : List (Value → World → Prop) → Prop
  | [] => True
  | φ :: r => Stable φ ∧ AllStable r

theorem allStable_get {L : List (Value → World → Prop)} (h : AllStable L) (i : Nat) : Stable (L.getD i (fun _ _ => True)) := by
  induction L generalizing i with
  | nil => exact stable_true
  | cons φ r ih =>
    cases i with
    | zero => exact h.1
    | succ i => exact ih h.2 i
theorem planFacts_of {Φ : Nat → Value → World → Prop} {L : List (Value → World → Prop)} (hΦ : Φ = fun i => L.getD i (fun _ _ => True)) {a0 a : Act} {w : World} {i : Nat} {o : Oper} :
    ∀ (l : List Tmp), (∀ t ∈ l, match wr ops t with
      | some j => if depB ops i j = true then Φ j (a.tmps.getD t undef) w else a.tmps.getD t undef = a0.tmps.getD t undef
      | none => a.tmps.getD t undef = a0.tmps.getD t undef) →
    PlanFacts L a0 a w (l.map fun t => (t, match wr ops t with
        | some j => if depB ops i j = true then some j else none
        | none => none))
  | [], _ => trivial
  | t :: l, h => by
    have h1 := h t (List.mem_cons_self ..)
    have h2 := planFacts_of hΦ (o := o) l (fun t ht => h t (List.mem_cons_of_mem _ ht))
    simp only [List.map_cons]
    cases hw : wr ops t with
    | none => rw [hw] at h1; exact ⟨h1, h2⟩
    | some j =>
      rw [hw] at h1
      simp only [] at h1 ⊢
      split
      · rename_i hd
        rw [if_pos hd, hΦ] at h1
        exact ⟨h1, h2⟩
      · rename_i hd
        rw [if_neg hd] at h1
        exact ⟨h1, h2⟩
theorem monoOps_get {L : List (Value → World → Prop)} {a0 : Act} {w0 : World} : ∀ {os : List Oper} {pls : List (List (Tmp × Option Nat))} {φs : List (Value → World → Prop)}, MonoOps P ops Q L a0 w0 os pls φs →
    ∀ (i : Nat) o pl, os[i]? = some o → pls[i]? = some pl → ∀ a w, Below w0.heap.size w0 w → PlanFacts L a0 a w pl →
      if Region.wanted o (yielded ops a.tmps) = true then o.wp P a w (fun a' w' => ∃ v, a' = a.put o.dst v ∧ Below w.heap.size w w' ∧ φs.getD i (fun _ _ => True) v w') Q else φs.getD i (fun _ _ => True) undef w
  | [], _, _, _, i, o, pl, ho, _ => by simp at ho
  | o :: os, [], _, h, _, _, _, _, _ => h.elim
  | o :: os, pl :: pls, [], h, _, _, _, _, _ => h.elim
  | o :: os, pl :: pls, φ :: φs, h, 0, o', pl', ho, hp => by
    simp at ho hp; subst ho; subst hp
    exact h.1
  | o :: os, pl :: pls, φ :: φs, h, i + 1, o', pl', ho, hp => monoOps_get h.2 i o' pl' (by simpa using ho) (by simpa using hp)

/-- The region's law, with a list of words: one for what each operation leaves. -/
theorem wp_region_words {id : Nat} {a0 : Act} {w0 : World} (hm : P.follows .mixedOrders = true) (L : List (Value → World → Prop)) (plan : List (List (Tmp × Option Nat))) (hok : monoOk ops a0.tmps.size = true)
    (hplan : planOf ops = plan) (hst : AllStable L) (hop : MonoOps P ops Q L a0 w0 ops.toList plan L)
    (hend : ∀ a w, Below w0.heap.size w0 w → (∀ i o d, ops[i]? = some o → o.dst = some d → L.getD i (fun _ _ => True) (a.tmps.getD d undef) w) → (∀ t, wr ops t = none → a.tmps.getD t undef = a0.tmps.getD t undef) → a.defers = a0.defers → a.tmps.size = a0.tmps.size → Q .normal a w) :
    (Code.region id ops true).wp P Q a0 w0 := by
  refine wp_region_mono hm (fun i => L.getD i (fun _ _ => True)) hok (fun i => allStable_get hst i) ?_ hend
  intro i o ho a w hb hg
  have hlt : i < ops.size := (Array.getElem?_eq_some_iff.1 ho).1
  have hpl : plan[i]? = some ((o.looksAt ops).map fun t => (t, match wr ops t with
        | some j => if depB ops i j = true then some j else none
        | none => none)) := by
    rw [← hplan]
    unfold planOf
    rw [List.getElem?_map, List.getElem?_range hlt, Option.map_some, ho]
  exact monoOps_get hop i o _ (by simpa using ho) hpl a w hb (planFacts_of rfl (o := o) _ hg)

/-- Which slots the region writes. -/
def maskOf (ops : Array Oper) (n : Nat) : List Bool := (List.range n).map fun t => (wr ops t).isSome
def dstsOf (ops : Array Oper) : List (Option Tmp) := ops.toList.map (·.dst)
/-- The frame behind the region: the slots that it writes hold whatever f says. -/
def mergeT : List Bool → List Value → Nat → (Nat → Value) → List Value
  | true :: bs, _ :: vs, i, f => f i :: mergeT bs vs (i + 1) f
  | false :: bs, v :: vs, i, f => v :: mergeT bs vs (i + 1) f
  | _, vs, _, _ => vs
def AllWords (f : Nat → Value) (w : World) : List (Option Tmp) → List (Value → World → Prop) → Prop
  | some d :: ds, φ :: φs => φ (f d) w ∧ AllWords f w ds φs
  | none :: ds, _ :: φs => AllWords f w ds φs
  | _, _ => True

theorem mergeT_eq (f : Nat → Value) : ∀ (bs : List Bool) (vs ts : List Value) (i : Nat), bs.length = vs.length → ts.length = vs.length →
    (∀ j, j < ts.length → bs.getD j false = true → ts.getD j undef = f (i + j)) → (∀ j, j < ts.length → bs.getD j false = false → ts.getD j undef = vs.getD j undef) → mergeT bs vs i f = ts
  | [], [], [], _, _, _, _, _ => rfl
  | [], [], _ :: _, _, _, h, _, _ => by simp at h
  | _ :: _, [], _, _, h, _, _, _ => by simp at h
  | [], _ :: _, _, _, h, _, _, _ => by simp at h
  | _ :: _, _ :: _, [], _, _, h, _, _ => by simp at h
  | b :: bs, v :: vs, t :: ts, i, h1, h2, h3, h4 => by
    have ih := mergeT_eq f bs vs ts (i + 1) (by simpa using h1) (by simpa using h2)
      (fun j hj hb => by have := h3 (j + 1) (by simpa using hj) (by simpa using hb); simpa [Nat.add_assoc, Nat.add_comm 1 j] using this)
      (fun j hj hb => by have := h4 (j + 1) (by simpa using hj) (by simpa using hb); simpa using this)
    cases b
    · have := h4 0 (by simp) rfl
      simp at this
      simp [mergeT, ih, this]
    · have := h3 0 (by simp) rfl
      simp at this
      simp [mergeT, ih, this]
theorem allWords_of {f : Nat → Value} {w : World} : ∀ {os : List Oper} {L : List (Value → World → Prop)}, (∀ i o d, os[i]? = some o → o.dst = some d → L.getD i (fun _ _ => True) (f d) w) → AllWords f w (os.map (·.dst)) L
  | [], _, _ => by simp [AllWords]
  | o :: os, [], _ => by cases h : o.dst <;> simp [AllWords, h]
  | o :: os, φ :: φs, h => by
    have ih := allWords_of (os := os) (L := φs) (fun i o' d ho hd => h (i + 1) o' d (by simpa using ho) hd)
    cases hd : o.dst with
    | none => simpa [AllWords, hd] using ih
    | some d => simpa [AllWords, hd] using ⟨h 0 o d rfl hd, ih⟩

/-- The same, the frame behind it written out. -/
theorem wp_region_frame {id : Nat} {a0 : Act} {w0 : World} (hm : P.follows .mixedOrders = true) (L : List (Value → World → Prop)) (plan : List (List (Tmp × Option Nat))) (D : List (Option Tmp)) (M : List Bool)
    (hok : monoOk ops a0.tmps.size = true) (hplan : planOf ops = plan) (hD : dstsOf ops = D) (hM : maskOf ops a0.tmps.size = M) (hst : AllStable L) (hop : MonoOps P ops Q L a0 w0 ops.toList plan L)
    (hend : ∀ f w, Below w0.heap.size w0 w → AllWords f w D L → Q .normal { tmps := (mergeT M a0.tmps.toList 0 f).toArray, defers := a0.defers } w) :
    (Code.region id ops true).wp P Q a0 w0 := by
  refine wp_region_words hm L plan hok hplan hst hop ?_
  intro a w hb hv hr hd hs
  have h := hend (fun t => a.tmps.getD t undef) w hb (by rw [← hD]; exact allWords_of (fun i o d ho hdd => hv i o d (by simpa using ho) hdd))
  have e : mergeT M a0.tmps.toList 0 (fun t => a.tmps.getD t undef) = a.tmps.toList := by
    refine mergeT_eq _ _ _ _ _ (by rw [← hM]; simp [maskOf]) (by simpa using hs) ?_ ?_
    · intro j hj _
      simp [Array.getD_eq_getD_getElem?, List.getD_eq_getElem?_getD]
    · intro j hj hb
      rw [← hM] at hb
      have hj' : j < a0.tmps.size := by rw [← hs]; simpa using hj
      have hw : wr ops j = none := by
        unfold maskOf at hb
        simp [List.getD_eq_getElem?_getD, List.getElem?_map, List.getElem?_range hj'] at hb
        exact hb
      have := hr j hw
      simpa [Array.getD_eq_getD_getElem?, List.getD_eq_getElem?_getD] using this
  rw [e, ← hd] at h
  exact h

/-- The same where the last operation may write (a store into what the region itself has made): all others are through by then. -/
theorem wp_region_last {id : Nat} {a0 : Act} {w0 : World} (hm : P.follows .mixedOrders = true) (L : List (Value → World → Prop)) (plan : List (List (Tmp × Option Nat))) (D : List (Option Tmp)) (M : List Bool) (last : Nat) (ol : Oper) (hol : ops[last]? = some ol) (hgd : ol.guard = none)
    (hn : ops.size = last + 1) (hcov : coverB ops last = true)
    (hok : monoOk ops a0.tmps.size = true) (hplan : planOf ops = plan) (hD : dstsOf ops = D) (hM : maskOf ops a0.tmps.size = M) (hst : AllStable L) (hop : MonoOps P ops Q L a0 w0 (ops.toList.take last) plan L)
    (hend : ∀ f w, Below w0.heap.size w0 w → AllWords f w (D.take last) L → ol.wp P { tmps := (mergeT M a0.tmps.toList 0 f).toArray, defers := a0.defers } w (Q .normal) Q) :
    (Code.region id ops true).wp P Q a0 w0 := by
  refine wp_region_any hm (mono_any_last (w0 := w0) (fun i => L.getD i (fun _ _ => True)) hok last hn hcov (fun i => allStable_get hst i) ?_ ?_ ops.size _ a0 _ ⟨by simp, (Below.refl _ _).drew, ?_, ?_, fun _ _ => rfl, rfl, rfl⟩ ?_ ?_)
  · intro i o hil ho a w hb hg
    have hlt : i < ops.size := (Array.getElem?_eq_some_iff.1 ho).1
    have hpl : plan[i]? = some ((o.looksAt ops).map fun t => (t, match wr ops t with
          | some j => if depB ops i j = true then some j else none
          | none => none)) := by
      rw [← hplan]
      unfold planOf
      rw [List.getElem?_map, List.getElem?_range hlt, Option.map_some, ho]
    exact monoOps_get hop i o _ (by rw [List.getElem?_take, if_pos hil]; simpa using ho) hpl a w hb (planFacts_of rfl (o := o) _ hg)
  · intro a w hb hv hr hd hs
    have h := hend (fun t => a.tmps.getD t undef) w hb (by
      rw [← hD, dstsOf, ← List.map_take]
      exact allWords_of (fun i o d ho hdd => by
        rw [List.getElem?_take] at ho
        split at ho
        · rename_i hil
          exact hv i o d hil (by simpa using ho) hdd
        · cases ho))
    have e : mergeT M a0.tmps.toList 0 (fun t => a.tmps.getD t undef) = a.tmps.toList := by
      refine mergeT_eq _ _ _ _ _ (by rw [← hM]; simp [maskOf]) (by simpa using hs) ?_ ?_
      · intro j hj _
        simp [Array.getD_eq_getD_getElem?, List.getD_eq_getElem?_getD]
      · intro j hj hb
        rw [← hM] at hb
        have hj' : j < a0.tmps.size := by rw [← hs]; simpa using hj
        have hw : wr ops j = none := by
          unfold maskOf at hb
          simp [List.getD_eq_getElem?_getD, List.getElem?_map, List.getElem?_range hj'] at hb
          exact hb
        have := hr j (fun k hk => by rw [hw] at hk; cases hk)
        simpa [Array.getD_eq_getD_getElem?, List.getD_eq_getElem?_getD] using this
    rw [e, ← hd] at h
    unfold wpOp
    rw [hol]
    simp only []
    rw [if_pos (by simp [Region.wanted, hgd])]
    exact .inl h
  · intro k hk
    simp [Array.getD_eq_getD_getElem?] at hk
    rcases h : (Array.replicate ops.size false)[k]? with _ | b <;> simp [h] at hk
    subst hk
    obtain ⟨h1, h2⟩ := Array.getElem?_eq_some_iff.1 h
    simp at h2
  · intro i o d ho hd hk
    exfalso
    simp [Array.getD_eq_getD_getElem?] at hk
    rcases h : (Array.replicate ops.size false)[i]? with _ | b <;> simp [h] at hk
    subst hk
    obtain ⟨h1, h2⟩ := Array.getElem?_eq_some_iff.1 h
    simp at h2
  · simp [Array.getD_eq_getD_getElem?, hn]
  · exact Nat.le_trans List.countP_le_length (by simp)
end
end Go.Proofs.YtamafdcnbcoegaaGreat
