/-
  Part 2 of a proof: Mono, R1, R2, R3, H1, H2, H3.
-/
import Derived.Below
import Derived.Orders
import Derived.Laws.ResultCell
import Derived.Test.YtamafdcnbcoegaaGreatSd1
namespace Go.Proofs.YtamafdcnbcoegaaGreat
open Go.RowKit

/-- Which operation writes a slot. -/
def wr (ops : Array Oper) (t : Tmp) : Option Nat := (List.range ops.size).find? fun j => ((ops[j]?).bind (·.dst)) == some t
/-- Does operation i wait for operation j? -/
def depB (ops : Array Oper) (i j : Nat) : Bool := match ops[i]? with
  | some o => o.after.any fun e => Region.binds .any e && e.on == j
  | none => false
/-- Slots are written once; what is looked at is written by one that is waited for, or by one that waits; who is waited for stands ahead. -/
def monoOk (ops : Array Oper) (size : Nat) : Bool :=
  Region.noSelect ops && (List.range ops.size).all fun i => match ops[i]? with
    | none => false
    | some o => (match o.dst with
        | none => true
        | some d => decide (d < size) && wr ops d == some i)
      && ((o.looksAt ops).all fun t => match wr ops t with
        | none => true
        | some j => depB ops i j || depB ops j i)
      && o.after.all fun e => !Region.binds .any e || decide (e.on < i)

theorem countP_lt {α : Type} {p q : α → Bool} : ∀ {l : List α}, (∀ x ∈ l, q x = true → p x = true) → (∃ x ∈ l, p x = true ∧ q x = false) → l.countP q < l.countP p
  | [], _, ⟨_, h, _⟩ => by cases h
  | y :: l, h, ⟨x, hx, h1, h2⟩ => by
    have hle : l.countP q ≤ l.countP p := List.countP_mono_left (fun z hz => h z (List.mem_cons_of_mem _ hz))
    rcases List.mem_cons.1 hx with rfl | hx
    · rw [List.countP_cons_of_pos h1, List.countP_cons_of_neg (by simp [h2])]; omega
    · have ih := countP_lt (fun z hz => h z (List.mem_cons_of_mem _ hz)) ⟨x, hx, h1, h2⟩
      by_cases hq : q y = true
      · rw [List.countP_cons_of_pos hq, List.countP_cons_of_pos (h y (List.mem_cons_self ..) hq)]; omega
      · rw [List.countP_cons_of_neg hq]
        have : List.countP p (y :: l) = l.countP p + if p y = true then 1 else 0 := by rw [List.countP_cons]
        rw [this]; split <;> omega

section
variable {P : Program} {ops : Array Oper} {Q : Exit → Act → World → Prop}

/-- What an operation may look at, when its turn comes. -/
def GoodAct (ops : Array Oper) (Φ : Nat → Value → World → Prop) (a0 : Act) (i : Nat) (o : Oper) (a : Act) (w : World) : Prop :=
  ∀ t ∈ o.looksAt ops, match wr ops t with
    | some j => if depB ops i j = true then Φ j (a.tmps.getD t undef) w else a.tmps.getD t undef = a0.tmps.getD t undef
    | none => a.tmps.getD t undef = a0.tmps.getD t undef

structure MonoInv (ops : Array Oper) (Φ : Nat → Value → World → Prop) (a0 : Act) (w0 : World) (L : Array Bool) (a : Act) (w : World) : Prop where
  size : L.size = ops.size
  ext : Below w0.heap.size w0 w
  closed : ∀ k, L.getD k false = true → ∀ j, depB ops k j = true → L.getD j false = true
  vals : ∀ i o d, ops[i]? = some o → o.dst = some d → L.getD i false = true → Φ i (a.tmps.getD d undef) w
  rest : ∀ t, (∀ j, wr ops t = some j → L.getD j false = false) → a.tmps.getD t undef = a0.tmps.getD t undef
  defers : a.defers = a0.defers
  tsize : a.tmps.size = a0.tmps.size

theorem monoOk_spec {size : Nat} (h : monoOk ops size = true) {i : Nat} {o : Oper} (ho : ops[i]? = some o) :
    (∀ d, o.dst = some d → d < size ∧ wr ops d = some i) ∧ (∀ t ∈ o.looksAt ops, ∀ j, wr ops t = some j → depB ops i j = true ∨ depB ops j i = true) ∧ (∀ j, depB ops i j = true → j < i) := by
  unfold monoOk at h
  rw [Bool.and_eq_true] at h
  have hi : i < ops.size := (Array.getElem?_eq_some_iff.1 ho).1
  have h1 := List.all_eq_true.1 h.2 i (List.mem_range.2 hi)
  simp only [ho, Bool.and_eq_true] at h1
  obtain ⟨⟨h1, h2⟩, h3⟩ := h1
  refine ⟨fun d hd => ?_, fun t ht j hj => ?_, fun j hj => ?_⟩
  · rw [hd] at h1
    simp only [Bool.and_eq_true, decide_eq_true_eq, beq_iff_eq] at h1
    exact h1
  · have := List.all_eq_true.1 h2 t ht
    rw [hj] at this
    simpa using this
  · unfold depB at hj
    rw [ho] at hj
    obtain ⟨e, he, hb⟩ := Array.any_eq_true'.1 hj
    simp only [Bool.and_eq_true, beq_iff_eq] at hb
    have := Array.all_eq_true_iff_forall_mem.1 h3 e he
    simp [hb.1] at this
    omega

theorem mono_any {a0 : Act} {w0 : World} (Φ : Nat → Value → World → Prop) (hok : monoOk ops a0.tmps.size = true)
    (hst : ∀ i v w w', Φ i v w → Below w.heap.size w w' → Φ i v w')
    (hop : ∀ i o, ops[i]? = some o → ∀ a w, Below w0.heap.size w0 w → GoodAct ops Φ a0 i o a w →
      if Region.wanted o (yielded ops a.tmps) = true then o.wp P a w (fun a' w' => ∃ v, a' = a.put o.dst v ∧ Below w.heap.size w w' ∧ Φ i v w') Q else Φ i undef w)
    (hend : ∀ a w, Below w0.heap.size w0 w → (∀ i o d, ops[i]? = some o → o.dst = some d → Φ i (a.tmps.getD d undef) w) → (∀ t, wr ops t = none → a.tmps.getD t undef = a0.tmps.getD t undef) → a.defers = a0.defers → a.tmps.size = a0.tmps.size → Q .normal a w) :
    ∀ (fuel : Nat) (L : Array Bool) (a : Act) (w : World), MonoInv ops Φ a0 w0 L a w → (List.range ops.size).countP (fun i => !L.getD i false) ≤ fuel → wpAny P .any ops Q fuel L a w := by
  have hrdy : ∀ (L : Array Bool) (a : Act) (w : World), MonoInv ops Φ a0 w0 L a w → Region.ready .any ops L = [] → Q .normal a w := by
    intro L a w hI hr
    have hall : ∀ n i, i < n → i < ops.size → L.getD i false = true := by
      intro n
      induction n with
      | zero => intro i h; omega
      | succ n ih =>
        intro i h hi
        by_cases hin : i < n
        · exact ih i hin hi
        · have e : i = n := by omega
          subst e
          cases hL : L.getD i false
          · exfalso
            have ho : ops[i]? = some ops[i] := Array.getElem?_eq_getElem hi
            obtain ⟨_, _, h3⟩ := monoOk_spec hok ho
            have : i ∈ Region.ready .any ops L := mem_ready.2 ⟨by
              have hs : i < L.size := by rw [hI.size]; exact hi
              rw [Array.getD_eq_getD_getElem?, Array.getElem?_eq_getElem hs] at hL ⊢
              exact hL, ops[i], ho, fun e he hb => by
              have hd : depB ops i e.on = true := by
                unfold depB
                rw [ho]
                exact Array.any_eq_true'.2 ⟨e, he, by simp [hb]⟩
              have hlt := h3 _ hd
              exact ih e.on hlt (by omega)⟩
            rw [hr] at this
            cases this
          · rfl
    refine hend a w hI.ext (fun i o d ho hd => hI.vals i o d ho hd (hall ops.size i (Array.getElem?_eq_some_iff.1 ho).1 (Array.getElem?_eq_some_iff.1 ho).1)) (fun t ht => hI.rest t (fun j hj => by rw [ht] at hj; cases hj)) hI.defers hI.tsize
  intro fuel
  induction fuel with
  | zero =>
    intro L a w hI hc
    have hr : Region.ready .any ops L = [] := by
      apply List.eq_nil_iff_forall_not_mem.2
      intro i hi
      obtain ⟨h0, o, ho, _⟩ := mem_ready.1 hi
      have hlt : i < ops.size := (Array.getElem?_eq_some_iff.1 ho).1
      have h0' : L.getD i false = false := by
        have hs : i < L.size := by rw [hI.size]; exact hlt
        rw [Array.getD_eq_getD_getElem?, Array.getElem?_eq_getElem hs] at h0 ⊢
        exact h0
      have : 0 < (List.range ops.size).countP (fun i => !L.getD i false) := List.countP_pos_iff.2 ⟨i, List.mem_range.2 hlt, by simp [h0']⟩
      omega
    exact ⟨hr, hrdy L a w hI hr⟩
  | succ fuel ih =>
    intro L a w hI hc
    refine ⟨hrdy L a w hI, fun i hi => ?_⟩
    obtain ⟨h0, o, ho, hdeps⟩ := mem_ready.1 hi
    have hlt : i < ops.size := (Array.getElem?_eq_some_iff.1 ho).1
    have hls : i < L.size := by rw [hI.size]; exact hlt
    have h0' : L.getD i false = false := by
      rw [Array.getD_eq_getD_getElem?, Array.getElem?_eq_getElem hls] at h0 ⊢
      exact h0
    obtain ⟨hd, hl, hlex⟩ := monoOk_spec hok ho
    have hdl : ∀ j, depB ops i j = true → L.getD j false = true := by
      intro j hj
      unfold depB at hj
      rw [ho] at hj
      obtain ⟨e, he, hb⟩ := Array.any_eq_true'.1 hj
      simp only [Bool.and_eq_true, beq_iff_eq] at hb
      rw [← hb.2]; exact hdeps e he hb.1
    have hgood : GoodAct ops Φ a0 i o a w := by
      intro t ht
      cases hw : wr ops t with
      | none => exact hI.rest t (fun j hj => by rw [hw] at hj; cases hj)
      | some j =>
        simp only []
        have hj := List.find?_some hw
        simp only [beq_iff_eq] at hj
        split
        · rename_i hdep
          cases hoj : ops[j]? with
          | none => rw [hoj] at hj; cases hj
          | some oj =>
            rw [hoj] at hj
            exact hI.vals j oj t hoj hj (hdl j hdep)
        · rename_i hdep
          refine hI.rest t (fun j' hj' => ?_)
          rw [hw] at hj'
          cases hj'
          rcases hl t ht j hw with h | h
          · exact absurd h hdep
          · cases hLj : L.getD j false
            · rfl
            · have := hI.closed j hLj i h
              rw [h0'] at this; cases this
    have hstep : ∀ v w', Below w.heap.size w w' → Φ i v w' → MonoInv ops Φ a0 w0 (L.setIfInBounds i true) (a.put o.dst v) w' := by
      intro v w' hb hv
      have hget : ∀ k, (L.setIfInBounds i true).getD k false = true ↔ (k = i ∨ L.getD k false = true) := by
        intro k
        by_cases hk : k = i
        · subst hk
          simp [Array.getD_eq_getD_getElem?, hls]
        · rw [getD_set_ne false (fun e => hk e.symm)]
          simp [hk]
      have hput : ∀ t, (a.put o.dst v).tmps.getD t undef = if o.dst = some t then v else a.tmps.getD t undef := by
        intro t
        cases hdst : o.dst with
        | none => simp [Act.put]
        | some d =>
          simp only [Act.put, Option.some.injEq]
          have hdsz : d < a.tmps.size := by rw [hI.tsize]; exact (hd d hdst).1
          by_cases h : d = t
          · subst h
            simp [Array.getD_eq_getD_getElem?, hdsz]
          · simp [Array.getD_eq_getD_getElem?, h]
      refine ⟨by simp [hI.size], hI.ext.trans (hb.mono hI.ext.size), ?_, ?_, ?_, ?_, ?_⟩
      · intro k hk j hj
        rw [hget] at hk ⊢
        rcases hk with rfl | hk
        · exact .inr (hdl j hj)
        · exact .inr (hI.closed k hk j hj)
      · intro k ok d hok' hdk hk
        rw [hget] at hk
        rw [hput]
        rcases hk with rfl | hk
        · rw [ho] at hok'; cases hok'
          rw [if_pos hdk]; exact hv
        · have hne : o.dst ≠ some d := by
            intro e
            have h1 := (hd d e).2
            have h2 := ((monoOk_spec hok hok').1 d hdk).2
            rw [h1] at h2
            cases h2
            rw [h0'] at hk; cases hk
          rw [if_neg hne]
          exact hst k _ _ _ (hI.vals k ok d hok' hdk hk) hb
      · intro t ht
        rw [hput]
        have hne : o.dst ≠ some t := by
          intro e
          have := ht i (hd t e).2
          have h2 := (hget i).2 (.inl rfl)
          rw [this] at h2; cases h2
        rw [if_neg hne]
        refine hI.rest t (fun j hj => ?_)
        cases hLj : L.getD j false
        · rfl
        · have := ht j hj
          rw [(hget j).2 (.inr hLj)] at this; cases this
      · cases o.dst <;> exact hI.defers
      · rw [← hI.tsize]; cases o.dst <;> simp [Act.put]
    have hcount : (List.range ops.size).countP (fun k => !(L.setIfInBounds i true).getD k false) ≤ fuel := by
      have := countP_lt (l := List.range ops.size) (p := fun k => !L.getD k false) (q := fun k => !(L.setIfInBounds i true).getD k false)
        (fun k _ hk => by
          by_cases hki : k = i
          · subst hki; simp [h0']
          · rw [getD_set_ne false (fun e => hki e.symm)] at hk; exact hk)
        ⟨i, List.mem_range.2 hlt, by simp [h0'], by simp [Array.getD_eq_getD_getElem?, hls]⟩
      omega
    have hg := hop i o ho a w hI.ext hgood
    unfold wpOp
    rw [ho]
    simp only []
    split at hg
    · rename_i hw
      rw [if_pos hw]
      refine .inl (Oper.wp_mono ?_ hg)
      rintro a' w' ⟨v, rfl, hb, hv⟩
      exact ih _ _ _ (hstep v w' hb hv) hcount
    · rename_i hw
      rw [if_neg hw]
      exact ih _ _ _ (hstep undef w (Below.refl _ _) hg) hcount

/-- Every operation but the last has one that waits for it. -/
def coverB (ops : Array Oper) (last : Nat) : Bool := (List.range last).all fun i => (List.range (last + 1)).any fun k => depB ops k i

theorem mono_any_last {a0 : Act} {w0 : World} (Φ : Nat → Value → World → Prop) (hok : monoOk ops a0.tmps.size = true) (last : Nat) (hn : ops.size = last + 1) (hcov : coverB ops last = true)
    (hst : ∀ i v w w', Φ i v w → Below w.heap.size w w' → Φ i v w')
    (hop : ∀ i o, i < last → ops[i]? = some o → ∀ a w, Below w0.heap.size w0 w → GoodAct ops Φ a0 i o a w →
      if Region.wanted o (yielded ops a.tmps) = true then o.wp P a w (fun a' w' => ∃ v, a' = a.put o.dst v ∧ Below w.heap.size w w' ∧ Φ i v w') Q else Φ i undef w)
    (hend : ∀ a w, Below w0.heap.size w0 w → (∀ i o d, i < last → ops[i]? = some o → o.dst = some d → Φ i (a.tmps.getD d undef) w) → (∀ t, (∀ j, wr ops t = some j → j = last) → a.tmps.getD t undef = a0.tmps.getD t undef) → a.defers = a0.defers → a.tmps.size = a0.tmps.size → wpOp P ops Q last (Q .normal) a w) :
    ∀ (fuel : Nat) (L : Array Bool) (a : Act) (w : World), MonoInv ops Φ a0 w0 L a w → L.getD last false = false → (List.range ops.size).countP (fun i => !L.getD i false) ≤ fuel → wpAny P .any ops Q fuel L a w := by
  have hrdy : ∀ (L : Array Bool) (a : Act) (w : World), MonoInv ops Φ a0 w0 L a w → L.getD last false = false → Region.ready .any ops L = [] → False := by
    intro L a w hI hlast hr
    have hall : ∀ n i, i < n → i < ops.size → L.getD i false = true := by
      intro n
      induction n with
      | zero => intro i h; omega
      | succ n ih =>
        intro i h hi
        by_cases hin : i < n
        · exact ih i hin hi
        · have e : i = n := by omega
          subst e
          cases hL : L.getD i false
          · exfalso
            have ho : ops[i]? = some ops[i] := Array.getElem?_eq_getElem hi
            obtain ⟨_, _, h3⟩ := monoOk_spec hok ho
            have : i ∈ Region.ready .any ops L := mem_ready.2 ⟨by
              have hs : i < L.size := by rw [hI.size]; exact hi
              rw [Array.getD_eq_getD_getElem?, Array.getElem?_eq_getElem hs] at hL ⊢
              exact hL, ops[i], ho, fun e he hb => by
              have hd : depB ops i e.on = true := by
                unfold depB
                rw [ho]
                exact Array.any_eq_true'.2 ⟨e, he, by simp [hb]⟩
              have hlt := h3 _ hd
              exact ih e.on hlt (by omega)⟩
            rw [hr] at this
            cases this
          · rfl
    have := hall ops.size last (by omega) (by omega)
    rw [hlast] at this; cases this
  have hcl : ∀ (L : Array Bool) (a : Act) (w : World), MonoInv ops Φ a0 w0 L a w → (∀ j, depB ops last j = true → L.getD j false = true) → ∀ n i, last ≤ i + n → i < last → L.getD i false = true := by
    intro L a w hI hdl n
    induction n with
    | zero => intro i h hi; omega
    | succ n ih =>
      intro i h hi
      unfold coverB at hcov
      have h1 := List.all_eq_true.1 hcov i (List.mem_range.2 hi)
      obtain ⟨k, hk, hd⟩ := List.any_eq_true.1 h1
      have hk' : k < last + 1 := List.mem_range.1 hk
      by_cases hkl : k = last
      · subst hkl; exact hdl i hd
      · have hlt : i < k := by
          unfold depB at hd
          cases hok' : ops[k]? with
          | none => rw [hok'] at hd; cases hd
          | some ok =>
            obtain ⟨_, _, h3⟩ := monoOk_spec hok hok'
            exact h3 i (by unfold depB; exact hd)
        exact hI.closed k (ih k (by omega) (by omega)) i hd
  intro fuel
  induction fuel with
  | zero =>
    intro L a w hI hlast hc
    have : 0 < (List.range ops.size).countP (fun i => !L.getD i false) := List.countP_pos_iff.2 ⟨last, List.mem_range.2 (by omega), by simp only [hlast]; rfl⟩
    omega
  | succ fuel ih =>
    intro L a w hI hlast hc
    refine ⟨fun h => (hrdy L a w hI hlast h).elim, fun i hi => ?_⟩
    obtain ⟨h0, o, ho, hdeps⟩ := mem_ready.1 hi
    have hlt : i < ops.size := (Array.getElem?_eq_some_iff.1 ho).1
    have hls : i < L.size := by rw [hI.size]; exact hlt
    have h0' : L.getD i false = false := by
      rw [Array.getD_eq_getD_getElem?, Array.getElem?_eq_getElem hls] at h0 ⊢
      exact h0
    obtain ⟨hd, hl, hlex⟩ := monoOk_spec hok ho
    have hdl : ∀ j, depB ops i j = true → L.getD j false = true := by
      intro j hj
      unfold depB at hj
      rw [ho] at hj
      obtain ⟨e, he, hb⟩ := Array.any_eq_true'.1 hj
      simp only [Bool.and_eq_true, beq_iff_eq] at hb
      rw [← hb.2]; exact hdeps e he hb.1
    by_cases hil : i = last
    · subst hil
      have hall := hcl L a w hI hdl i
      refine wpOp_mono ?_ (hend a w hI.ext (fun j o' d hj ho' hd' => hI.vals j o' d ho' hd' (hall j (by omega) hj)) (fun t ht => hI.rest t (fun j hj => by rw [ht j hj]; exact hlast)) hI.defers hI.tsize)
      intro a' w' hq
      refine wpAny_done ?_ hq _
      apply List.eq_nil_iff_forall_not_mem.2
      intro j hj
      obtain ⟨hj0, oj, hoj, _⟩ := mem_ready.1 hj
      have hjlt : j < ops.size := (Array.getElem?_eq_some_iff.1 hoj).1
      have hls' : j < L.size := by rw [hI.size]; exact hjlt
      have hj1 : (L.setIfInBounds i true).getD j false = false := by
        rw [Array.getD_eq_getD_getElem?, Array.getElem?_eq_getElem (by simpa using hls')] at hj0 ⊢
        exact hj0
      by_cases hji : j = i
      · subst hji
        simp [Array.getD_eq_getD_getElem?, hls] at hj1
      · rw [getD_set_ne false (fun e => hji e.symm), hall j (by omega) (by omega)] at hj1
        cases hj1
    have hlt' : i < last := by omega
    have hgood : GoodAct ops Φ a0 i o a w := by
      intro t ht
      cases hw : wr ops t with
      | none => exact hI.rest t (fun j hj => by rw [hw] at hj; cases hj)
      | some j =>
        simp only []
        have hj := List.find?_some hw
        simp only [beq_iff_eq] at hj
        split
        · rename_i hdep
          cases hoj : ops[j]? with
          | none => rw [hoj] at hj; cases hj
          | some oj =>
            rw [hoj] at hj
            exact hI.vals j oj t hoj hj (hdl j hdep)
        · rename_i hdep
          refine hI.rest t (fun j' hj' => ?_)
          rw [hw] at hj'
          cases hj'
          rcases hl t ht j hw with h | h
          · exact absurd h hdep
          · cases hLj : L.getD j false
            · rfl
            · have := hI.closed j hLj i h
              rw [h0'] at this; cases this
    have hstep : ∀ v w', Below w.heap.size w w' → Φ i v w' → MonoInv ops Φ a0 w0 (L.setIfInBounds i true) (a.put o.dst v) w' := by
      intro v w' hb hv
      have hget : ∀ k, (L.setIfInBounds i true).getD k false = true ↔ (k = i ∨ L.getD k false = true) := by
        intro k
        by_cases hk : k = i
        · subst hk
          simp [Array.getD_eq_getD_getElem?, hls]
        · rw [getD_set_ne false (fun e => hk e.symm)]
          simp [hk]
      have hput : ∀ t, (a.put o.dst v).tmps.getD t undef = if o.dst = some t then v else a.tmps.getD t undef := by
        intro t
        cases hdst : o.dst with
        | none => simp [Act.put]
        | some d =>
          simp only [Act.put, Option.some.injEq]
          have hdsz : d < a.tmps.size := by rw [hI.tsize]; exact (hd d hdst).1
          by_cases h : d = t
          · subst h
            simp [Array.getD_eq_getD_getElem?, hdsz]
          · simp [Array.getD_eq_getD_getElem?, h]
      refine ⟨by simp [hI.size], hI.ext.trans (hb.mono hI.ext.size), ?_, ?_, ?_, ?_, ?_⟩
      · intro k hk j hj
        rw [hget] at hk ⊢
        rcases hk with rfl | hk
        · exact .inr (hdl j hj)
        · exact .inr (hI.closed k hk j hj)
      · intro k ok d hok' hdk hk
        rw [hget] at hk
        rw [hput]
        rcases hk with rfl | hk
        · rw [ho] at hok'; cases hok'
          rw [if_pos hdk]; exact hv
        · have hne : o.dst ≠ some d := by
            intro e
            have h1 := (hd d e).2
            have h2 := ((monoOk_spec hok hok').1 d hdk).2
            rw [h1] at h2
            cases h2
            rw [h0'] at hk; cases hk
          rw [if_neg hne]
          exact hst k _ _ _ (hI.vals k ok d hok' hdk hk) hb
      · intro t ht
        rw [hput]
        have hne : o.dst ≠ some t := by
          intro e
          have := ht i (hd t e).2
          have h2 := (hget i).2 (.inl rfl)
          rw [this] at h2; cases h2
        rw [if_neg hne]
        refine hI.rest t (fun j hj => ?_)
        cases hLj : L.getD j false
        · rfl
        · have := ht j hj
          rw [(hget j).2 (.inr hLj)] at this; cases this
      · cases o.dst <;> exact hI.defers
      · rw [← hI.tsize]; cases o.dst <;> simp [Act.put]
    have hcount : (List.range ops.size).countP (fun k => !(L.setIfInBounds i true).getD k false) ≤ fuel := by
      have := countP_lt (l := List.range ops.size) (p := fun k => !L.getD k false) (q := fun k => !(L.setIfInBounds i true).getD k false)
        (fun k _ hk => by
          by_cases hki : k = i
          · subst hki; simp [h0']
          · rw [getD_set_ne false (fun e => hki e.symm)] at hk; exact hk)
        ⟨i, List.mem_range.2 hlt, by simp [h0'], by simp [Array.getD_eq_getD_getElem?, hls]⟩
      omega
    have hlast' : (L.setIfInBounds i true).getD last false = false := by rw [getD_set_ne false hil]; exact hlast
    have hg := hop i o hlt' ho a w hI.ext hgood
    unfold wpOp
    rw [ho]
    simp only []
    split at hg
    · rename_i hw
      rw [if_pos hw]
      refine .inl (Oper.wp_mono ?_ hg)
      rintro a' w' ⟨v, rfl, hb, hv⟩
      exact ih _ _ _ (hstep v w' hb hv) hlast' hcount
    · rename_i hw
      rw [if_neg hw]
      exact ih _ _ _ (hstep undef w (Below.refl _ _) hg) hlast' hcount


/-- The region's law. -/
theorem wp_region_mono {id : Nat} {a0 : Act} {w0 : World} (hm : P.follows .mixedOrders = true) (Φ : Nat → Value → World → Prop) (hok : monoOk ops a0.tmps.size = true)
    (hst : ∀ i v w w', Φ i v w → Below w.heap.size w w' → Φ i v w')
    (hop : ∀ i o, ops[i]? = some o → ∀ a w, Below w0.heap.size w0 w → GoodAct ops Φ a0 i o a w →
      if Region.wanted o (yielded ops a.tmps) = true then o.wp P a w (fun a' w' => ∃ v, a' = a.put o.dst v ∧ Below w.heap.size w w' ∧ Φ i v w') Q else Φ i undef w)
    (hend : ∀ a w, Below w0.heap.size w0 w → (∀ i o d, ops[i]? = some o → o.dst = some d → Φ i (a.tmps.getD d undef) w) → (∀ t, wr ops t = none → a.tmps.getD t undef = a0.tmps.getD t undef) → a.defers = a0.defers → a.tmps.size = a0.tmps.size → Q .normal a w) :
    (Code.region id ops true).wp P Q a0 w0 := by
  refine wp_region_any hm (mono_any (w0 := w0) Φ hok hst hop hend ops.size _ a0 _ ⟨by simp, (Below.refl _ _).drew, ?_, ?_, fun _ _ => rfl, rfl, rfl⟩ ?_)
  · intro k hk
    simp [Array.getD_eq_getD_getElem?] at hk
    rcases h : (Array.replicate ops.size false)[k]? with _ | b <;> simp [h] at hk
    subst hk
    have := Array.getElem?_eq_some_iff.1 h
    obtain ⟨h1, h2⟩ := this
    simp at h2
  · intro i o d ho hd hk
    exfalso
    simp [Array.getD_eq_getD_getElem?] at hk
    rcases h : (Array.replicate ops.size false)[i]? with _ | b <;> simp [h] at hk
    subst hk
    have := Array.getElem?_eq_some_iff.1 h
    obtain ⟨h1, h2⟩ := this
    simp at h2
  · exact Nat.le_trans List.countP_le_length (by simp)

/-- Which slots an operation looks at, and who has written each (none: nobody yet). -/
def planOf (ops : Array Oper) : List (List (Tmp × Option Nat)) :=
  (List.range ops.size).map fun i => match ops[i]? with
    | some o => (o.looksAt ops).map fun t => (t, match wr ops t with
        | some j => if depB ops i j = true then some j else none
        | none => none)
    | none => []
def PlanFacts (L : List (Value → World → Prop)) (a0 a : Act) (w : World) : List (Tmp × Option Nat) → Prop
  | [] => True
  | (t, some j) :: r => L.getD j (fun _ _ => True) (a.tmps.getD t undef) w ∧ PlanFacts L a0 a w r
  | (t, none) :: r => a.tmps.getD t undef = a0.tmps.getD t undef ∧ PlanFacts L a0 a w r
def MonoOps (P : Program) (ops : Array Oper) (Q : Exit → Act → World → Prop) (L : List (Value → World → Prop)) (a0 : Act) (w0 : World) : List Oper → List (List (Tmp × Option Nat)) → List (Value → World → Prop) → Prop
  | o :: os, pl :: pls, φ :: φs => (∀ a w, Below w0.heap.size w0 w → PlanFacts L a0 a w pl →
      if Region.wanted o (yielded ops a.tmps) = true then o.wp P a w (fun a' w' => ∃ v, a' = a.put o.dst v ∧ Below w.heap.size w w' ∧ φ v w') Q else φ undef w) ∧ MonoOps P ops Q L a0 w0 os pls φs
  | [], _, _ => True
  | _, _, _ => False
def Stable (φ : Value → World → Prop) : Prop := ∀ v w w', φ v w → Below w.heap.size w w' → φ v w'
theorem stable_eq (c : Value) : Stable (fun v _ => v = c) := fun _ _ _ h _ => h
theorem stable_true : Stable (fun _ _ => True) := fun _ _ _ _ _ => trivial
def AllStable : List (Value → World → Prop) → Prop
  | [] => True
  | φ :: r => Stable φ ∧ AllStable r

theorem allStable_get {L : List (Value → World → Prop)} (h : AllStable L) (i : Nat) : Stable (L.getD i (fun _ _ => True)) := by
  induction L generalizing i with
  | nil => exact stable_true
  | cons φ r ih =>
    cases i with
    | zero => exact h.1
    | succ i => exact ih h.2 i
theorem planFacts_of {Φ : Nat → Value → World → Prop} {L : List (Value → World → Prop)} (hΦ : Φ = fun i => L.getD i (fun _ _ => True)) {a0 a : Act} {w : World} {i : Nat} {o : Oper} :
    ∀ (l : List Tmp), (∀ t ∈ l, match wr ops t with
      | some j => if depB ops i j = true then Φ j (a.tmps.getD t undef) w else a.tmps.getD t undef = a0.tmps.getD t undef
      | none => a.tmps.getD t undef = a0.tmps.getD t undef) →
    PlanFacts L a0 a w (l.map fun t => (t, match wr ops t with
        | some j => if depB ops i j = true then some j else none
        | none => none))
  | [], _ => trivial
  | t :: l, h => by
    have h1 := h t (List.mem_cons_self ..)
    have h2 := planFacts_of hΦ (o := o) l (fun t ht => h t (List.mem_cons_of_mem _ ht))
    simp only [List.map_cons]
    cases hw : wr ops t with
    | none => rw [hw] at h1; exact ⟨h1, h2⟩
    | some j =>
      rw [hw] at h1
      simp only [] at h1 ⊢
      split
      · rename_i hd
        rw [if_pos hd, hΦ] at h1
        exact ⟨h1, h2⟩
      · rename_i hd
        rw [if_neg hd] at h1
        exact ⟨h1, h2⟩
theorem monoOps_get {L : List (Value → World → Prop)} {a0 : Act} {w0 : World} : ∀ {os : List Oper} {pls : List (List (Tmp × Option Nat))} {φs : List (Value → World → Prop)}, MonoOps P ops Q L a0 w0 os pls φs →
    ∀ (i : Nat) o pl, os[i]? = some o → pls[i]? = some pl → ∀ a w, Below w0.heap.size w0 w → PlanFacts L a0 a w pl →
      if Region.wanted o (yielded ops a.tmps) = true then o.wp P a w (fun a' w' => ∃ v, a' = a.put o.dst v ∧ Below w.heap.size w w' ∧ φs.getD i (fun _ _ => True) v w') Q else φs.getD i (fun _ _ => True) undef w
  | [], _, _, _, i, o, pl, ho, _ => by simp at ho
  | o :: os, [], _, h, _, _, _, _, _ => h.elim
  | o :: os, pl :: pls, [], h, _, _, _, _, _ => h.elim
  | o :: os, pl :: pls, φ :: φs, h, 0, o', pl', ho, hp => by
    simp at ho hp; subst ho; subst hp
    exact h.1
  | o :: os, pl :: pls, φ :: φs, h, i + 1, o', pl', ho, hp => monoOps_get h.2 i o' pl' (by simpa using ho) (by simpa using hp)

/-- The region's law, with a list of words: one for what each operation leaves. -/
theorem wp_region_words {id : Nat} {a0 : Act} {w0 : World} (hm : P.follows .mixedOrders = true) (L : List (Value → World → Prop)) (plan : List (List (Tmp × Option Nat))) (hok : monoOk ops a0.tmps.size = true)
    (hplan : planOf ops = plan) (hst : AllStable L) (hop : MonoOps P ops Q L a0 w0 ops.toList plan L)
    (hend : ∀ a w, Below w0.heap.size w0 w → (∀ i o d, ops[i]? = some o → o.dst = some d → L.getD i (fun _ _ => True) (a.tmps.getD d undef) w) → (∀ t, wr ops t = none → a.tmps.getD t undef = a0.tmps.getD t undef) → a.defers = a0.defers → a.tmps.size = a0.tmps.size → Q .normal a w) :
    (Code.region id ops true).wp P Q a0 w0 := by
  refine wp_region_mono hm (fun i => L.getD i (fun _ _ => True)) hok (fun i => allStable_get hst i) ?_ hend
  intro i o ho a w hb hg
  have hlt : i < ops.size := (Array.getElem?_eq_some_iff.1 ho).1
  have hpl : plan[i]? = some ((o.looksAt ops).map fun t => (t, match wr ops t with
        | some j => if depB ops i j = true then some j else none
        | none => none)) := by
    rw [← hplan]
    unfold planOf
    rw [List.getElem?_map, List.getElem?_range hlt, Option.map_some, ho]
  exact monoOps_get hop i o _ (by simpa using ho) hpl a w hb (planFacts_of rfl (o := o) _ hg)

/-- Which slots the region writes. -/
def maskOf (ops : Array Oper) (n : Nat) : List Bool := (List.range n).map fun t => (wr ops t).isSome
def dstsOf (ops : Array Oper) : List (Option Tmp) := ops.toList.map (·.dst)
/-- The frame behind the region: the slots that it writes hold whatever f says. -/
def mergeT : List Bool → List Value → Nat → (Nat → Value) → List Value
  | true :: bs, _ :: vs, i, f => f i :: mergeT bs vs (i + 1) f
  | false :: bs, v :: vs, i, f => v :: mergeT bs vs (i + 1) f
  | _, vs, _, _ => vs
def AllWords (f : Nat → Value) (w : World) : List (Option Tmp) → List (Value → World → Prop) → Prop
  | some d :: ds, φ :: φs => φ (f d) w ∧ AllWords f w ds φs
  | none :: ds, _ :: φs => AllWords f w ds φs
  | _, _ => True

theorem mergeT_eq (f : Nat → Value) : ∀ (bs : List Bool) (vs ts : List Value) (i : Nat), bs.length = vs.length → ts.length = vs.length →
    (∀ j, j < ts.length → bs.getD j false = true → ts.getD j undef = f (i + j)) → (∀ j, j < ts.length → bs.getD j false = false → ts.getD j undef = vs.getD j undef) → mergeT bs vs i f = ts
  | [], [], [], _, _, _, _, _ => rfl
  | [], [], _ :: _, _, _, h, _, _ => by simp at h
  | _ :: _, [], _, _, h, _, _, _ => by simp at h
  | [], _ :: _, _, _, h, _, _, _ => by simp at h
  | _ :: _, _ :: _, [], _, _, h, _, _ => by simp at h
  | b :: bs, v :: vs, t :: ts, i, h1, h2, h3, h4 => by
    have ih := mergeT_eq f bs vs ts (i + 1) (by simpa using h1) (by simpa using h2)
      (fun j hj hb => by have := h3 (j + 1) (by simpa using hj) (by simpa using hb); simpa [Nat.add_assoc, Nat.add_comm 1 j] using this)
      (fun j hj hb => by have := h4 (j + 1) (by simpa using hj) (by simpa using hb); simpa using this)
    cases b
    · have := h4 0 (by simp) rfl
      simp at this
      simp [mergeT, ih, this]
    · have := h3 0 (by simp) rfl
      simp at this
      simp [mergeT, ih, this]
theorem allWords_of {f : Nat → Value} {w : World} : ∀ {os : List Oper} {L : List (Value → World → Prop)}, (∀ i o d, os[i]? = some o → o.dst = some d → L.getD i (fun _ _ => True) (f d) w) → AllWords f w (os.map (·.dst)) L
  | [], _, _ => by simp [AllWords]
  | o :: os, [], _ => by cases h : o.dst <;> simp [AllWords, h]
  | o :: os, φ :: φs, h => by
    have ih := allWords_of (os := os) (L := φs) (fun i o' d ho hd => h (i + 1) o' d (by simpa using ho) hd)
    cases hd : o.dst with
    | none => simpa [AllWords, hd] using ih
    | some d => simpa [AllWords, hd] using ⟨h 0 o d rfl hd, ih⟩

/-- The same, the frame behind it written out. -/
theorem wp_region_frame {id : Nat} {a0 : Act} {w0 : World} (hm : P.follows .mixedOrders = true) (L : List (Value → World → Prop)) (plan : List (List (Tmp × Option Nat))) (D : List (Option Tmp)) (M : List Bool)
    (hok : monoOk ops a0.tmps.size = true) (hplan : planOf ops = plan) (hD : dstsOf ops = D) (hM : maskOf ops a0.tmps.size = M) (hst : AllStable L) (hop : MonoOps P ops Q L a0 w0 ops.toList plan L)
    (hend : ∀ f w, Below w0.heap.size w0 w → AllWords f w D L → Q .normal { tmps := (mergeT M a0.tmps.toList 0 f).toArray, defers := a0.defers } w) :
    (Code.region id ops true).wp P Q a0 w0 := by
  refine wp_region_words hm L plan hok hplan hst hop ?_
  intro a w hb hv hr hd hs
  have h := hend (fun t => a.tmps.getD t undef) w hb (by rw [← hD]; exact allWords_of (fun i o d ho hdd => hv i o d (by simpa using ho) hdd))
  have e : mergeT M a0.tmps.toList 0 (fun t => a.tmps.getD t undef) = a.tmps.toList := by
    refine mergeT_eq _ _ _ _ _ (by rw [← hM]; simp [maskOf]) (by simpa using hs) ?_ ?_
    · intro j hj _
      simp [Array.getD_eq_getD_getElem?, List.getD_eq_getElem?_getD]
    · intro j hj hb
      rw [← hM] at hb
      have hj' : j < a0.tmps.size := by rw [← hs]; simpa using hj
      have hw : wr ops j = none := by
        unfold maskOf at hb
        simp [List.getD_eq_getElem?_getD, List.getElem?_map, List.getElem?_range hj'] at hb
        exact hb
      have := hr j hw
      simpa [Array.getD_eq_getD_getElem?, List.getD_eq_getElem?_getD] using this
  rw [e, ← hd] at h
  exact h

/-- The same where the last operation may write (a store into what the region itself has made): all others are through by then. -/
theorem wp_region_last {id : Nat} {a0 : Act} {w0 : World} (hm : P.follows .mixedOrders = true) (L : List (Value → World → Prop)) (plan : List (List (Tmp × Option Nat))) (D : List (Option Tmp)) (M : List Bool) (last : Nat) (ol : Oper) (hol : ops[last]? = some ol) (hgd : ol.guard = none)
    (hn : ops.size = last + 1) (hcov : coverB ops last = true)
    (hok : monoOk ops a0.tmps.size = true) (hplan : planOf ops = plan) (hD : dstsOf ops = D) (hM : maskOf ops a0.tmps.size = M) (hst : AllStable L) (hop : MonoOps P ops Q L a0 w0 (ops.toList.take last) plan L)
    (hend : ∀ f w, Below w0.heap.size w0 w → AllWords f w (D.take last) L → ol.wp P { tmps := (mergeT M a0.tmps.toList 0 f).toArray, defers := a0.defers } w (Q .normal) Q) :
    (Code.region id ops true).wp P Q a0 w0 := by
  refine wp_region_any hm (mono_any_last (w0 := w0) (fun i => L.getD i (fun _ _ => True)) hok last hn hcov (fun i => allStable_get hst i) ?_ ?_ ops.size _ a0 _ ⟨by simp, (Below.refl _ _).drew, ?_, ?_, fun _ _ => rfl, rfl, rfl⟩ ?_ ?_)
  · intro i o hil ho a w hb hg
    have hlt : i < ops.size := (Array.getElem?_eq_some_iff.1 ho).1
    have hpl : plan[i]? = some ((o.looksAt ops).map fun t => (t, match wr ops t with
          | some j => if depB ops i j = true then some j else none
          | none => none)) := by
      rw [← hplan]
      unfold planOf
      rw [List.getElem?_map, List.getElem?_range hlt, Option.map_some, ho]
    exact monoOps_get hop i o _ (by rw [List.getElem?_take, if_pos hil]; simpa using ho) hpl a w hb (planFacts_of rfl (o := o) _ hg)
  · intro a w hb hv hr hd hs
    have h := hend (fun t => a.tmps.getD t undef) w hb (by
      rw [← hD, dstsOf, ← List.map_take]
      exact allWords_of (fun i o d ho hdd => by
        rw [List.getElem?_take] at ho
        split at ho
        · rename_i hil
          exact hv i o d hil (by simpa using ho) hdd
        · cases ho))
    have e : mergeT M a0.tmps.toList 0 (fun t => a.tmps.getD t undef) = a.tmps.toList := by
      refine mergeT_eq _ _ _ _ _ (by rw [← hM]; simp [maskOf]) (by simpa using hs) ?_ ?_
      · intro j hj _
        simp [Array.getD_eq_getD_getElem?, List.getD_eq_getElem?_getD]
      · intro j hj hb
        rw [← hM] at hb
        have hj' : j < a0.tmps.size := by rw [← hs]; simpa using hj
        have hw : wr ops j = none := by
          unfold maskOf at hb
          simp [List.getD_eq_getElem?_getD, List.getElem?_map, List.getElem?_range hj'] at hb
          exact hb
        have := hr j (fun k hk => by rw [hw] at hk; cases hk)
        simpa [Array.getD_eq_getD_getElem?, List.getD_eq_getElem?_getD] using this
    rw [e, ← hd] at h
    unfold wpOp
    rw [hol]
    simp only []
    rw [if_pos (by simp [Region.wanted, hgd])]
    exact .inl h
  · intro k hk
    simp [Array.getD_eq_getD_getElem?] at hk
    rcases h : (Array.replicate ops.size false)[k]? with _ | b <;> simp [h] at hk
    subst hk
    obtain ⟨h1, h2⟩ := Array.getElem?_eq_some_iff.1 h
    simp at h2
  · intro i o d ho hd hk
    exfalso
    simp [Array.getD_eq_getD_getElem?] at hk
    rcases h : (Array.replicate ops.size false)[i]? with _ | b <;> simp [h] at hk
    subst hk
    obtain ⟨h1, h2⟩ := Array.getElem?_eq_some_iff.1 h
    simp at h2
  · simp [Array.getD_eq_getD_getElem?, hn]
  · exact Nat.le_trans List.countP_le_length (by simp)
end
end Go.Proofs.YtamafdcnbcoegaaGreat
namespace Go.Proofs.YtamafdcnbcoegaaGreat
open Go.RowKit

/-- A string of a number's four bytes. -/
def le4S (n : Int) : ByteArray := ⟨#[UInt8.ofNat (n.toNat % 256), UInt8.ofNat (n.toNat / 256 % 256), UInt8.ofNat (n.toNat / 65536 % 256), UInt8.ofNat (n.toNat / 16777216 % 256)]⟩
theorem conv_new {w : World} {l : List UInt8} {n : Nat} (hl : l.length = n) : (convert 44 9 (.slice (some ⟨w.heap.size, 0, none⟩) n n)).run Tryz.prog (w.alloc (.cells (bv l).toArray 5)) = .ok (.string ⟨l.toArray⟩) (w.alloc (.cells (bv l).toArray 5)) := by
  refine conv_str hl (fun i hi => ?_)
  have := cells_new (w := w) (l := bv l) (e := 5) i _ (bv_get (by omega))
  by_cases h : i = 0
  · subst h; simpa [Addr.add] using this
  · simpa [Addr.add, h] using this

set_option maxRecDepth 100000 in
set_option maxHeartbeats 400000 in
theorem four_any (n : Int) (w : World) (h0 : 0 ≤ n) :
    Calls Tryz.prog 85 #[.int .i64 n] w fun r w' => r = .returned (.string (le4S n)) ∧ Below w.heap.size w w' := by
  have hc := conv_new (w := w) (l := Wire.le4 n) (n := 4) rfl
  rw [bv_le4 h0] at hc
  have HS : Hid ((⟨(Wire.le4 n).toArray⟩ : ByteArray) = le4S n) := rfl
  go_enter Tryz.func85, Tryz.ntmps85
  go_wp2
  go_ret
  exact ⟨rfl, (Below.refl _ _).alloc (Nat.le_refl _) _⟩

theorem wr64 {n : Int} (h : -9223372036854775808 ≤ n ∧ n ≤ 9223372036854775807) : wrap64 n = n := by unfold wrap64; omega
theorem wraps4 {a b c d : Nat} (ha : a < 2 ^ 8) (hb : b < 2 ^ 8) (hc : c < 2 ^ 8) (hd : d < 2 ^ 8) :
    wrap64 (wrap64 (wrap64 (wrap64 (a : Int) + wrap64 (wrap64 (b : Int) * 256)) + wrap64 (wrap64 (c : Int) * 65536)) + wrap64 (wrap64 (d : Int) * 16777216)) = (a : Int) + b * 256 + c * 65536 + d * 16777216 := by
  rw [wr64 (n := (a : Int)) (by omega), wr64 (n := (b : Int)) (by omega), wr64 (n := (c : Int)) (by omega), wr64 (n := (d : Int)) (by omega), wr64 (n := (b : Int) * 256) (by omega), wr64 (n := (c : Int) * 65536) (by omega), wr64 (n := (d : Int) * 16777216) (by omega),
    wr64 (n := (a : Int) + (b : Int) * 256) (by omega), wr64 (n := (a : Int) + (b : Int) * 256 + (c : Int) * 65536) (by omega), wr64 (by omega)]

set_option maxHeartbeats 400000 in
theorem refNumber_any (s : ByteArray) (i : Nat) (w : World) (h : i + 4 ≤ s.size) (hs : s.size ≤ 9223372036854775807) :
    Calls Tryz.prog 166 #[.string s, .int .i64 i] w fun r w' => r = .returned (.int .i64 (Wire.numAt s.data.toList i)) ∧ ∃ n, w' = w.drewN n := by
  have g : ∀ j (hj : j < s.size), s.data.toList.getD j 0 = s[j] := by
    intro j hj
    have hl : j < s.data.toList.length := by simpa using hj
    rw [List.getD_eq_getElem?_getD, List.getElem?_eq_getElem hl]; rfl
  have b0 : i < s.size := by omega
  have b1 : i + 1 < s.size := by omega
  have b2 : i + 2 < s.size := by omega
  have b3 : i + 3 < s.size := by omega
  have i0 : (i : Int) < (s.size : Int) := by omega
  have i1 : (i : Int) + 1 < (s.size : Int) := by omega
  have i2 : (i : Int) + 2 < (s.size : Int) := by omega
  have i3 : (i : Int) + 3 < (s.size : Int) := by omega
  have e1 : IntKind.i64.wrap ((i : Int) + 1) = (i : Int) + 1 := by rw [IntKind.wrap_i64]; omega
  have e2 : IntKind.i64.wrap ((i : Int) + 2) = (i : Int) + 2 := by rw [IntKind.wrap_i64]; omega
  have e3 : IntKind.i64.wrap ((i : Int) + 3) = (i : Int) + 3 := by rw [IntKind.wrap_i64]; omega
  have z1 : (0 : Int) ≤ (i : Int) + 1 := by omega
  have z2 : (0 : Int) ≤ (i : Int) + 2 := by omega
  have z3 : (0 : Int) ≤ (i : Int) + 3 := by omega
  have HN : Hid (Wire.numAt s.data.toList i = (s[i].toNat : Int) + s[i+1].toNat * 256 + s[i+2].toNat * 65536 + s[i+3].toNat * 16777216) := by
    show _ = _
    unfold Wire.numAt Wire.num4
    rw [g i b0, g (i+1) b1, g (i+2) b2, g (i+3) b3]
  clear g
  go_enter Tryz.func166, Tryz.ntmps166
  go_wp2
  go_quiet (fail)
  go_wp2
  go_ret
  refine ⟨ret_i ?_, _, rfl⟩
  have t0 := s[i].toNat_lt; have t1 := s[i+1].toNat_lt; have t2 := s[i+2].toNat_lt; have t3 := s[i+3].toNat_lt
  rw [unhide HN]
  exact wraps4 t0 t1 t2 t3

def OneB (x : Int) (v : Value) (w : World) : Prop := ∃ g, v = .slice (some ⟨g, 0, none⟩) 1 1 ∧ w.cell? ⟨g, 0, none⟩ = some (.int .u8 x)
theorem stable_oneB (x : Int) : Stable (OneB x) := by
  rintro v w w' ⟨g, rfl, h⟩ hb
  exact ⟨g, rfl, (hb.cell (p := ⟨g, 0, none⟩) (World.block_lt_of_cell? _ _ h)).trans h⟩
def s1 (x : Int) : ByteArray := ⟨#[UInt8.ofNat (x.toNat % 256)]⟩
theorem s1_size (x : Int) : (s1 x).size = 1 := rfl
theorem le4S_size (x : Int) : (le4S x).size = 4 := rfl
theorem conv_one {n : Int} (h0 : 0 ≤ n) (h1 : n < 256) {v : Value} {w : World} (h : OneB n v w) : (convert 44 9 v).run Tryz.prog w = .ok (.string (s1 n)) w := by
  obtain ⟨g, rfl, hc⟩ := h
  refine conv_str (l := [UInt8.ofNat (n.toNat % 256)]) rfl (fun i hi => ?_)
  have : i = 0 := by simpa using hi
  subst this
  have hb := bv_byte h0 h1
  simp [bv] at hb
  simp [hc, hb]
theorem u8w {n : Int} (h0 : 0 ≤ n) (h1 : n < 256) : IntKind.u8.wrap n = n := by simp [IntKind.wrap, IntKind.bits, IntKind.signed]; omega

theorem front_str (k e s q : Int) (b : ByteArray) : s1 k ++ le4S e ++ s1 s ++ le4S q ++ s1 (b.size : Int) ++ b = ⟨(Wire.front k e s q b.data.toList).toArray⟩ := by
  apply ByteArray.ext
  simp only [ByteArray.data_append]
  apply Array.ext'
  simp [s1, le4S, Wire.front, Wire.le4]

set_option maxRecDepth 100000 in
set_option maxHeartbeats 2000000 in
theorem refBytes_any (k e s q : Int) (b : ByteArray) (w : World) (hp : Wire.proper k e s q b = true) :
    Calls Tryz.prog 51 #[.agg #[.int .i64 k, .int .i64 e, .int .i64 s, .int .i64 q, .string b]] w fun r w' => r = .returned (.string ⟨(Wire.bytes k e s q b.data.toList).toArray⟩) ∧ Below w.heap.size w w' := by
  obtain ⟨h1, h2, h3, h4, h5⟩ := proper_small hp
  clear hp
  go_enter Tryz.func51, Tryz.ntmps51
  go_upto_region 1 with fail
  have fb := frBox_new w k e s q b 41
  have wk := u8w (n := k) (by omega) (by omega)
  have ws := u8w (n := s) (by omega) (by omega)
  have wb := u8w (n := (b.size : Int)) (by omega) (by omega)
  have z1 := s1_size
  have zb : (11 : Int) + (b.size : Int) ≤ 9223372036854775807 := by omega
  have zn : 11 + b.size ≤ 9223372036854775807 := by omega
  have z4 := le4S_size
  have ck := fun v w => conv_one (n := k) (by omega) (by omega) (v := v) (w := w)
  have cs := fun v w => conv_one (n := s) (by omega) (by omega) (v := v) (w := w)
  have cb := fun v w => conv_one (n := (b.size : Int)) (by omega) (by omega) (v := v) (w := w)
  refine wp_region_frame (by kernel_rfl)
    [fun v _ => v = .pointer (some ⟨w.heap.size, 0, none⟩), fun v _ => v = .int .i64 k, fun v _ => v = .int .u8 k, OneB k, fun v _ => v = .string (s1 k),
     fun v _ => v = .pointer (some ⟨w.heap.size, 1, none⟩), fun v _ => v = .int .i64 e, fun v _ => v = .string (le4S e), fun v _ => v = .string (s1 k ++ le4S e),
     fun v _ => v = .pointer (some ⟨w.heap.size, 2, none⟩), fun v _ => v = .int .i64 s, fun v _ => v = .int .u8 s, OneB s, fun v _ => v = .string (s1 s), fun v _ => v = .string (s1 k ++ le4S e ++ s1 s),
     fun v _ => v = .pointer (some ⟨w.heap.size, 3, none⟩), fun v _ => v = .int .i64 q, fun v _ => v = .string (le4S q), fun v _ => v = .string (s1 k ++ le4S e ++ s1 s ++ le4S q),
     fun v _ => v = .pointer (some ⟨w.heap.size, 4, none⟩), fun v _ => v = .string b, fun v _ => v = .int .i64 b.size, fun v _ => v = .int .u8 b.size, OneB b.size, fun v _ => v = .string (s1 b.size), fun v _ => v = .string (s1 k ++ le4S e ++ s1 s ++ le4S q ++ s1 b.size),
     fun v _ => v = .pointer (some ⟨w.heap.size, 4, none⟩), fun v _ => v = .string b, fun v _ => v = .string (s1 k ++ le4S e ++ s1 s ++ le4S q ++ s1 b.size ++ b), fun v _ => v = .string (s1 k ++ le4S e ++ s1 s ++ le4S q ++ s1 b.size ++ b)]
    [[(1, none)], [(6, some 0)], [(7, some 1)], [(8, some 2)], [(9, some 3)], [(1, none)], [(11, some 5)], [(12, some 6)], [(10, some 4), (13, some 7)], [(1, none)], [(15, some 9)], [(16, some 10)], [(17, some 11)], [(18, some 12)], [(14, some 8), (19, some 13)], [(1, none)], [(21, some 15)], [(22, some 16)], [(20, some 14), (23, some 17)], [(1, none)], [(25, some 19)], [(26, some 20)], [(27, some 21)], [(28, some 22)], [(29, some 23)], [(24, some 18), (30, some 24)], [(1, none)], [(32, some 26)], [(31, some 25), (33, some 27)], [(34, some 28)]]
    [some 6, some 7, some 8, some 9, some 10, some 11, some 12, some 13, some 14, some 15, some 16, some 17, some 18, some 19, some 20, some 21, some 22, some 23, some 24, some 25, some 26, some 27, some 28, some 29, some 30, some 31, some 32, some 33, some 34, some 3]
    [false, false, false, true, false, false, true, true, true, true, true, true, true, true, true, true, true, true, true, true, true, true, true, true, true, true, true, true, true, true, true, true, true, true, true, false, false, false, false, false, false, false, false, false, false, false, false, false, false, false, false, false, false]
    (by kernel_rfl) (by kernel_rfl) (by kernel_rfl) (by kernel_rfl) ?_ ?_ ?_
  · repeat' (first | exact stable_eq _ | exact stable_oneB _ | exact trivial | apply And.intro)
  · refine ⟨?_, ?_, ?_, ?_, ?_, ?_, ?_, ?_, ?_, ?_, ?_, ?_, ?_, ?_, ?_, ?_, ?_, ?_, ?_, ?_, ?_, ?_, ?_, ?_, ?_, ?_, ?_, ?_, ?_, ?_, trivial⟩
    all_goals
      intro a x hb hf
      obtain ⟨y0, y1, y2, y3, y4⟩ := fb.below hb (by simp)
      clear hb fb
      simp only [PlanFacts, List.getD_cons_zero, List.getD_cons_succ, Array.getD_eq_getD_getElem?] at hf
      simp at hf
      try go_simp
      try exact Below.refl _ _
    all_goals first
      | exact ⟨_, rfl, (Below.refl _ _).alloc (Nat.le_refl _) _, _, rfl, by simp⟩
      | (refine (four_any _ _ ?_).mono ?_; (focus omega); rintro r w1 ⟨rfl, hb1⟩; exact ⟨rfl, hb1⟩)
      | (rw [if_neg (by omega)]; go_simp; exact Below.refl _ _)
  · intro f w2 hb hwd
    simp only [AllWords] at hwd
    have hf3 := hwd.2.2.2.2.2.2.2.2.2.2.2.2.2.2.2.2.2.2.2.2.2.2.2.2.2.2.2.2.2.1
    rw [front_str] at hf3
    have B2 := hide (((Below.refl w.heap.size w).alloc (Nat.le_refl _) (.cells #[.int .i64 k, .int .i64 e, .int .i64 s, .int .i64 q, .string b] 41)).trans (hb.mono (by simp)))
    have hfl : (Wire.front k e s q b.data.toList).length = 11 + b.size := by rw [Wire.length_front]; simp
    clear hwd hb fb wk ws wb z1 z4 ck cs cb zb
    have HB : Hid (Wire.bytes k e s q b.data.toList = Wire.front k e s q b.data.toList ++ Wire.le4 (Wire.sum (Wire.front k e s q b.data.toList))) := rfl
    generalize Wire.front k e s q b.data.toList = fr at hf3 hfl HB
    simp only [mergeT, hf3]
    clear hf3 h1 h2 h3 h4
    have hfs : (ByteArray.mk fr.toArray).size = fr.length := by simp [ByteArray.size]
    have hsr := Wire.sum_range fr
    have hg : ∀ (i : Nat) (h : i < (ByteArray.mk fr.toArray).size), (ByteArray.mk fr.toArray)[i] = fr.getD i 0 := by
      intro i h
      have h' : i < fr.length := by omega
      simp only [List.getD_eq_getElem?_getD, List.getElem?_eq_getElem h']
      rfl
    have HG := hide hg
    have HSZ := hide hfs
    have hfs2 : (ByteArray.mk fr.toArray).size ≤ 31 := by omega
    clear hg hfs
    obtain ⟨S, hS⟩ : ∃ S, S = ByteArray.mk fr.toArray := ⟨_, rfl⟩
    rw [← hS] at HG HSZ hfs2 ⊢
    have HS := hide hS
    have HFL := hide hfl
    clear hS hfl
    go_wp2
    go_loopw [4, 5] (fun sm i wr => wr = w2 ∧ ∃ j : Nat, j ≤ S.size ∧ i = .int .i64 j ∧ sm = .int .i64 (Wire.sum (fr.take j))) (fun _ i _ => S.size - (intOf i).toNat)
    case atStart => exact ⟨rfl, 0, Nat.zero_le _, rfl, rfl⟩
    case round =>
      obtain ⟨rfl, j, hj, rfl, rfl⟩ := hrel
      by_cases hlt : j < S.size
      · have hsj := Wire.sum_range (fr.take j)
        have hbyte : S[j].toNat < 256 := S[j].toNat_lt
        have HST : Hid (Wire.sum (fr.take (j + 1)) = (Wire.sum (fr.take j) * 31 + (S[j].toNat : Int)) % 4294967296) := by
          show _ = _
          rw [Wire.sum_take fr j (by have := unhide HSZ; omega), unhide HG j hlt]; rfl
        go_wp2
        go_roundw
        case rel => exact ⟨by first | trivial | rfl, j + 1, by omega, by go_num, by rw [unhide HST]⟩
        case measure => simp [intOf]; omega
      · have HT : Hid (fr.take j = fr) := List.take_of_length_le (by have := unhide HSZ; omega)
        have z4' : (le4S (Wire.sum fr)).size = 4 := rfl
        rw [unhide HT]
        go_wp2_with (go_at_call 85; refine (four_any _ _ hsr.1).mono ?_; rintro r w4 ⟨rfl, hb4⟩)
        go_ret
        have B4 := (unhide B2).trans (hb4.mono (unhide B2).size)
        refine ⟨?_, B4⟩
        have e : S ++ le4S (Wire.sum fr) = ⟨(Wire.bytes k e s q b.data.toList).toArray⟩ := by
          rw [unhide HS, unhide HB]
          apply ByteArray.ext
          rw [ByteArray.data_append]
          apply Array.ext'
          simp [le4S, Wire.le4]
        rw [← e]
        rfl
end Go.Proofs.YtamafdcnbcoegaaGreat
namespace Go.Proofs.YtamafdcnbcoegaaGreat
open Go.RowKit

theorem proper_out {k e s q : Int} {b : ByteArray} (h : ¬ (0 ≤ e ∧ e ≤ 2147483647 ∧ 0 ≤ q ∧ q ≤ 2147483647 ∧ 0 ≤ s ∧ s < 3)) : Wire.proper k e s q b = false := by
  cases hp : Wire.proper k e s q b
  · rfl
  · obtain ⟨h1, h2, h3, h4, h5⟩ := proper_small hp
    omega

set_option maxHeartbeats 2000000 in
theorem refProper_out (k e s q : Int) (b : ByteArray) (w : World) (h : ¬ (0 ≤ e ∧ e ≤ 2147483647 ∧ 0 ≤ q ∧ q ≤ 2147483647 ∧ 0 ≤ s ∧ s < 3)) :
    Calls Tryz.prog 113 #[.agg #[.int .i64 k, .int .i64 e, .int .i64 s, .int .i64 q, .string b]] w fun r w' => r = .returned (.bool (Wire.proper k e s q b)) ∧ Below w.heap.size w w' := by
  have hp := hide (proper_out (k := k) (b := b) h)
  by_cases he : 0 ≤ e ∧ e ≤ 2147483647
  · by_cases hq : 0 ≤ q ∧ q ≤ 2147483647
    · have hs : s < 0 ∨ 3 ≤ s := by omega
      rcases hs with hs | hs
      all_goals
        clear h
        obtain ⟨e0, e1⟩ := he
        obtain ⟨q0, q1⟩ := hq
        go_enter Tryz.func113, Tryz.ntmps113
        go_wp2
        go_ret
        exact ⟨ret_b (unhide hp).symm, (Below.refl _ _).alloc (Nat.le_refl _) _⟩
    · have hq' : q < 0 ∨ 2147483647 < q := by omega
      clear h hq
      rcases hq' with hq | hq
      all_goals
        obtain ⟨e0, e1⟩ := he
        go_enter Tryz.func113, Tryz.ntmps113
        go_wp2
        go_ret
        exact ⟨ret_b (unhide hp).symm, (Below.refl _ _).alloc (Nat.le_refl _) _⟩
  · have he' : e < 0 ∨ 2147483647 < e := by omega
    clear h he
    rcases he' with he | he
    all_goals
      go_enter Tryz.func113, Tryz.ntmps113
      go_wp2
      go_ret
      exact ⟨ret_b (unhide hp).symm, (Below.refl _ _).alloc (Nat.le_refl _) _⟩

set_option maxHeartbeats 2000000 in
theorem refProper_1 (k e s q : Int) (b : ByteArray) (w : World) (h : 0 ≤ e ∧ e ≤ 2147483647 ∧ 0 ≤ q ∧ q ≤ 2147483647 ∧ 0 ≤ s ∧ s < 3) (h15 : k = 1 ∨ k = 5) :
    Calls Tryz.prog 113 #[.agg #[.int .i64 k, .int .i64 e, .int .i64 s, .int .i64 q, .string b]] w fun r w' => r = .returned (.bool (Wire.proper k e s q b)) ∧ Below w.heap.size w w' := by
  have hp : Hid (Wire.proper k e s q b = (decide (s = 0) && (decide (q = 0) && decide (b.size = 0)))) := by
    show _ = _
    simp [Wire.proper, Wire.isNum, h.1, h.2.1, h15]
  have hk : (k == 1) = true ∨ ((k == 1) = false ∧ (k == 5) = true) := by rcases h15 with rfl | rfl <;> simp
  obtain ⟨e0, e1, q0, q1, s0, s1⟩ := h
  clear h15
  rcases hk with hk | ⟨hk, hk'⟩
  all_goals
    go_enter Tryz.func113, Tryz.ntmps113
    go_wp2
    all_goals
      go_ret
      refine ⟨ret_b ?_, (Below.refl _ _).alloc (Nat.le_refl _) _⟩
      have hp := unhide hp
      have hz : ((b.size : Int) == 0) = decide (b.size = 0) := by by_cases h : b.size = 0 <;> simp [h]
      try simp only [hz]
      clear hz
      simp_all

set_option maxHeartbeats 2000000 in
theorem refProper_2 (k e s q : Int) (b : ByteArray) (w : World) (h : 0 ≤ e ∧ e ≤ 2147483647 ∧ 0 ≤ q ∧ q ≤ 2147483647 ∧ 0 ≤ s ∧ s < 3) (hk : k = 2) (hb : b.size ≤ 9223372036854775807) :
    Calls Tryz.prog 113 #[.agg #[.int .i64 k, .int .i64 e, .int .i64 s, .int .i64 q, .string b]] w fun r w' => r = .returned (.bool (Wire.proper k e s q b)) ∧ Below w.heap.size w w' := by
  subst hk
  have hp : Hid (Wire.proper 2 e s q b = (decide (s = 0) && (decide (q = 0) && Wire.welBody b))) := by
    show _ = _
    simp [Wire.proper, Wire.isNum, h.1, h.2.1]
  obtain ⟨e0, e1, q0, q1, s0, s1⟩ := h
  by_cases hs : s = 0
  · by_cases hq : q = 0
    · by_cases h12 : (b.size : Int) = 12
      · have HP : Hid (Wire.proper 2 e s q b = Wire.welBody b) := by show _ = _; rw [unhide hp, hs, hq]; simp
        have Hq := hide hq
        have Hs := hide hs
        have hs' : (s == 0) = true := by simp [hs]
        have hq' : (q == 0) = true := by simp [hq]
        have hn : ((b.size : Int) != 12) = false := by simp [h12]
        have Hn := hide h12
        clear hp hs hq h12
        go_enter Tryz.func113, Tryz.ntmps113
        go_wp2
        go_loopw [5, 6, 64, 65, 68, 69, 70, 71, 72, 73] (fun i _ _ _ _ _ _ _ _ _ wr => ∃ j : Nat, j ≤ 3 ∧ i = .int .i64 (4 * j : Nat) ∧ upTo b j ∧ ∃ n, wr = (w.alloc (.cells #[.int .i64 2, .int .i64 e, .int .i64 s, .int .i64 q, .string b] 41)).drewN n) (fun i _ _ _ _ _ _ _ _ _ _ => 12 - (intOf i).toNat)
        case atStart => exact ⟨0, by omega, rfl, upTo_zero b, 0, rfl⟩
        case round =>
          obtain ⟨j, hj, rfl, hup, n, rfl⟩ := hrel
          by_cases hlt : j < 3
          · have hcall := fun w' => hide (refNumber_any b (4 * j) w' (by have := unhide Hn; omega) hb)
            have hup' := fun h => upTo_succ (k := j) hup h
            have hno := fun h => welBody_no (s := b) hlt h
            generalize Wire.numAt b.data.toList (4 * j) = m at hcall hup' hno
            by_cases hm : m ≤ 2147483647
            · have HU : Hid (upTo b (j + 1)) := hup' hm
              clear hup' hno hup
              go_wp2_with (go_at_call 166; refine (unhide (hcall _)).mono ?_; rintro r w' ⟨rfl, n', rfl⟩)
              go_roundw
              case rel => exact ⟨j + 1, by omega, by go_num, HU.out, n + n', by simp⟩
              case measure => simp [intOf]; omega
            · have HU : Hid (Wire.welBody b = false) := hno (by omega)
              clear hup' hno hup
              go_wp2_with (go_at_call 166; refine (unhide (hcall _)).mono ?_; rintro r w' ⟨rfl, n', rfl⟩)
              go_ret
              exact ⟨ret_b (by rw [unhide HP, unhide HU]), below_drewN ((Below.refl _ _).alloc (Nat.le_refl _) _) _⟩
          · have HU : Hid (Wire.welBody b = true) := welBody_yes (unhide Hn) (by obtain rfl : j = 3 := (by omega); exact hup)
            clear hup
            go_wp2
            go_ret
            exact ⟨ret_b (by rw [unhide HP, unhide HU]), below_drewN ((Below.refl _ _).alloc (Nat.le_refl _) _) _⟩
      · have HP : Hid (Wire.proper 2 e s q b = false) := by show _ = _; rw [unhide hp]; simp [Wire.welBody]; omega
        have hs' : (s == 0) = true := by simp [hs]
        have hq' : (q == 0) = true := by simp [hq]
        have hn : ((b.size : Int) != 12) = true := by simp [h12]
        clear hp hs hq h12
        go_enter Tryz.func113, Tryz.ntmps113
        go_wp2
        go_ret
        exact ⟨ret_b (unhide HP).symm, (Below.refl _ _).alloc (Nat.le_refl _) _⟩
    · have HP : Hid (Wire.proper 2 e s q b = false) := by show _ = _; rw [unhide hp]; simp [hq]
      have hs' : (s == 0) = true := by simp [hs]
      have hq' : (q == 0) = false := by simp [hq]
      clear hp hs hq
      go_enter Tryz.func113, Tryz.ntmps113
      go_wp2
      go_ret
      exact ⟨ret_b (unhide HP).symm, (Below.refl _ _).alloc (Nat.le_refl _) _⟩
  · have HP : Hid (Wire.proper 2 e s q b = false) := by show _ = _; rw [unhide hp]; simp [hs]
    have hs' : (s == 0) = false := by simp [hs]
    clear hp hs
    go_enter Tryz.func113, Tryz.ntmps113
    go_wp2
    go_ret
    exact ⟨ret_b (unhide HP).symm, (Below.refl _ _).alloc (Nat.le_refl _) _⟩

set_option maxHeartbeats 2000000 in
theorem refProper_3 (k e s q : Int) (b : ByteArray) (w : World) (h : 0 ≤ e ∧ e ≤ 2147483647 ∧ 0 ≤ q ∧ q ≤ 2147483647 ∧ 0 ≤ s ∧ s < 3) (hk : k = 3) :
    Calls Tryz.prog 113 #[.agg #[.int .i64 k, .int .i64 e, .int .i64 s, .int .i64 q, .string b]] w fun r w' => r = .returned (.bool (Wire.proper k e s q b)) ∧ Below w.heap.size w w' := by
  subst hk
  have hp : Hid (Wire.proper 3 e s q b = (decide (1 ≤ q) && decide ((b.size : Int) ≤ 20))) := by
    show _ = _
    have e1 : decide (q ≠ 0) = decide (1 ≤ q) := by rw [decide_eq_decide]; omega
    have e2 : decide (b.size ≤ 20) = decide ((b.size : Int) ≤ 20) := by rw [decide_eq_decide]; omega
    simp only [Wire.proper, Wire.isNum, Wire.isStr, decide_eq_true h.1, decide_eq_true h.2.1, decide_eq_true h.2.2.1, decide_eq_true h.2.2.2.1, decide_eq_true h.2.2.2.2.1, decide_eq_true h.2.2.2.2.2, Bool.true_and, e1, e2]
    rfl
  obtain ⟨e0, e1, q0, q1, s0, s1⟩ := h
  go_enter Tryz.func113, Tryz.ntmps113
  go_wp2
  all_goals
    go_ret
    refine ⟨ret_b ?_, (Below.refl _ _).alloc (Nat.le_refl _) _⟩
    have hp := unhide hp
    simp_all <;> omega

set_option maxHeartbeats 2000000 in
theorem refProper_4 (k e s q : Int) (b : ByteArray) (w : World) (h : 0 ≤ e ∧ e ≤ 2147483647 ∧ 0 ≤ q ∧ q ≤ 2147483647 ∧ 0 ≤ s ∧ s < 3) (hk : k = 4) :
    Calls Tryz.prog 113 #[.agg #[.int .i64 k, .int .i64 e, .int .i64 s, .int .i64 q, .string b]] w fun r w' => r = .returned (.bool (Wire.proper k e s q b)) ∧ Below w.heap.size w w' := by
  subst hk
  have hp : Hid (Wire.proper 4 e s q b = Wire.ackBody b) := by
    show _ = _
    simp only [Wire.proper, Wire.isNum, Wire.isStr, decide_eq_true h.1, decide_eq_true h.2.1, decide_eq_true h.2.2.1, decide_eq_true h.2.2.2.1, decide_eq_true h.2.2.2.2.1, decide_eq_true h.2.2.2.2.2, Bool.true_and]
    rfl
  obtain ⟨e0, e1, q0, q1, s0, s1⟩ := h
  by_cases h1 : (b.size : Int) = 1
  · have hpos : 0 < b.size := by omega
    have HA := hide (ackBody_yes h1 hpos)
    go_enter Tryz.func113, Tryz.ntmps113
    go_wp2
    all_goals
      go_ret
      exact ⟨ret_b (by rw [unhide hp, unhide HA]), (Below.refl _ _).alloc (Nat.le_refl _) _⟩
  · have HA := hide (ackBody_no h1)
    go_enter Tryz.func113, Tryz.ntmps113
    go_wp2
    all_goals
      go_ret
      exact ⟨ret_b (by rw [unhide hp, unhide HA]), (Below.refl _ _).alloc (Nat.le_refl _) _⟩

set_option maxHeartbeats 1000000 in
theorem refProper_any (k e s q : Int) (b : ByteArray) (w : World) (hb : b.size ≤ 9223372036854775807) :
    Calls Tryz.prog 113 #[.agg #[.int .i64 k, .int .i64 e, .int .i64 s, .int .i64 q, .string b]] w fun r w' => r = .returned (.bool (Wire.proper k e s q b)) ∧ Below w.heap.size w w' := by
  by_cases h : 0 ≤ e ∧ e ≤ 2147483647 ∧ 0 ≤ q ∧ q ≤ 2147483647 ∧ 0 ≤ s ∧ s < 3
  · by_cases h15 : k = 1 ∨ k = 5
    · exact refProper_1 k e s q b w h h15
    by_cases h2 : k = 2
    · exact refProper_2 k e s q b w h h2 hb
    by_cases h3 : k = 3
    · exact refProper_3 k e s q b w h h3
    by_cases h4 : k = 4
    · exact refProper_4 k e s q b w h h4
    have hp : Hid (Wire.proper k e s q b = false) := by show _ = _; simp [Wire.proper, h15, h2, h3, h4]
    have b1 : (k == 1) = false := by simp; omega
    have b2 : (k == 2) = false := by simp; omega
    have b3 : (k == 3) = false := by simp; omega
    have b4 : (k == 4) = false := by simp; omega
    have b5 : (k == 5) = false := by simp; omega
    obtain ⟨e0, e1, q0, q1, s0, s1⟩ := h
    clear h15 h2 h3 h4
    go_enter Tryz.func113, Tryz.ntmps113
    go_wp2
    all_goals
      go_ret
      exact ⟨ret_b (unhide hp).symm, (Below.refl _ _).alloc (Nat.le_refl _) _⟩
  · exact refProper_out k e s q b w h
end Go.Proofs.YtamafdcnbcoegaaGreat
namespace Go.Proofs.YtamafdcnbcoegaaGreat
open Go.RowKit

theorem below_five' {w w1 : World} {B g : Nat} (h : Below B w w1) (hg : B ≤ g) (a b c d e : Value) :
    Below B w (((((w1.setCell ⟨g, 0, none⟩ a).setCell ⟨g, 1, none⟩ b).setCell ⟨g, 2, none⟩ c).setCell ⟨g, 3, none⟩ d).setCell ⟨g, 4, none⟩ e) :=
  ((((h.setCell (p := ⟨g, 0, none⟩) hg a).setCell (p := ⟨g, 1, none⟩) hg b).setCell (p := ⟨g, 2, none⟩) hg c).setCell (p := ⟨g, 3, none⟩) hg d).setCell (p := ⟨g, 4, none⟩) hg e
theorem cell_other {w : World} {b g i j : Nat} {v u : Value} (h : w.cell? ⟨b, i, none⟩ = some v) (hne : g ≠ b) : (w.setCell ⟨g, j, none⟩ u).cell? ⟨b, i, none⟩ = some v := by
  exact (World.cell?_setCell_other (w := w) (a := ⟨g, j, none⟩) (b := ⟨b, i, none⟩) (v := u) (by intro e; injection e with e1; exact hne e1)).trans h
theorem cell_off {w : World} {g i j : Nat} {v u : Value} (h : w.cell? ⟨g, i, none⟩ = some v) (hne : j ≠ i) : (w.setCell ⟨g, j, none⟩ u).cell? ⟨g, i, none⟩ = some v := by
  exact (World.cell?_setCell_other (w := w) (a := ⟨g, j, none⟩) (b := ⟨g, i, none⟩) (v := u) (by intro e; injection e with _ e2; exact hne e2)).trans h
theorem fr_after_other {w : World} {b g : Nat} {k e s q : Int} {body : ByteArray} (h : FrBox w b k e s q body) (hne : g ≠ b) (a0 a1 a2 a3 a4 : Value) :
    FrBox (((((w.setCell ⟨g, 0, none⟩ a0).setCell ⟨g, 1, none⟩ a1).setCell ⟨g, 2, none⟩ a2).setCell ⟨g, 3, none⟩ a3).setCell ⟨g, 4, none⟩ a4) b k e s q body := by
  obtain ⟨h0, h1, h2, h3, h4⟩ := h
  constructor
  all_goals
    refine cell_other (cell_other (cell_other (cell_other (cell_other ?_ hne) hne) hne) hne) hne
    assumption
theorem fr_after (w : World) {g : Nat} (h0 : ∃ v, w.cell? ⟨g, 0, none⟩ = some v) (h1 : ∃ v, w.cell? ⟨g, 1, none⟩ = some v) (h2 : ∃ v, w.cell? ⟨g, 2, none⟩ = some v) (h3 : ∃ v, w.cell? ⟨g, 3, none⟩ = some v) (h4 : ∃ v, w.cell? ⟨g, 4, none⟩ = some v)
    (k e s q : Int) (body : ByteArray) :
    FrBox (((((w.setCell ⟨g, 0, none⟩ (.int .i64 k)).setCell ⟨g, 1, none⟩ (.int .i64 e)).setCell ⟨g, 2, none⟩ (.int .i64 s)).setCell ⟨g, 3, none⟩ (.int .i64 q)).setCell ⟨g, 4, none⟩ (.string body)) g k e s q body := by
  obtain ⟨v0, h0⟩ := h0; obtain ⟨v1, h1⟩ := h1; obtain ⟨v2, h2⟩ := h2; obtain ⟨v3, h3⟩ := h3; obtain ⟨v4, h4⟩ := h4
  constructor
  · exact cell_off (cell_off (cell_off (cell_off (World.cell?_setCell_same _ _ _ h0) (by decide)) (by decide)) (by decide)) (by decide)
  · exact cell_off (cell_off (cell_off (World.cell?_setCell_same _ _ _ (cell_off h1 (by decide))) (by decide)) (by decide)) (by decide)
  · exact cell_off (cell_off (World.cell?_setCell_same _ _ _ (cell_off (cell_off h2 (by decide)) (by decide))) (by decide)) (by decide)
  · exact cell_off (World.cell?_setCell_same _ _ _ (cell_off (cell_off (cell_off h3 (by decide)) (by decide)) (by decide))) (by decide)
  · exact World.cell?_setCell_same _ _ _ (cell_off (cell_off (cell_off (cell_off h4 (by decide)) (by decide)) (by decide)) (by decide))

set_option maxHeartbeats 400000 in
theorem refRead_short (S : ByteArray) (w : World) (h : (S.size : Int) < 15) :
    Calls Tryz.prog 117 #[.string S] w fun r w' => r = .returned (.tuple #[zeroFr, .bool false]) ∧ Below w.heap.size w w' := by
  go_enter Tryz.func117, Tryz.ntmps117
  go_wp2
  refine bodyPost_ret (v := .tuple #[zeroFr, .bool false]) (by simp [results, Tryz.results117, go_sem, zeroFr]) rfl ⟨rfl, ?_⟩
  exact (Below.refl _ _).alloc (Nat.le_refl _) _

/-- A frame's place that a call has made: noughts, and free to be written. -/
def NewFr (B : Nat) (v : Value) (w : World) : Prop := ∃ g, v = .pointer (some ⟨g, 0, none⟩) ∧ B ≤ g ∧ FrBox w g 0 0 0 0 ⟨#[]⟩ ∧ ∀ i, w.frozen? ⟨g, i, none⟩ = false
theorem stable_newFr (B : Nat) : Stable (NewFr B) := by
  rintro v w w' ⟨g, rfl, hB, hf, hz⟩ hb
  have hg : g < w.heap.size := World.block_lt_of_cell? _ _ hf.c0
  exact ⟨g, rfl, hB, hf.below hb hg, fun i => (hb.frozen (p := ⟨g, i, none⟩) hg).trans (hz i)⟩

set_option maxRecDepth 100000 in
set_option maxHeartbeats 2000000 in
theorem refRead_core (S : ByteArray) (k : Nat) (hk : S.size = k + 15) (w : World) (hS : S.size ≤ 9223372036854775807) (kk ee ss qq : Int) (bd : ByteArray) (hbd : S.extract 11 (k + 11) = bd)
    (hkk : 0 ≤ kk ∧ kk < 4294967296) (hss : 0 ≤ ss ∧ ss < 4294967296)
    (p0 : 0 < S.size) (p5 : 5 < S.size) (H0 : (S[0].toNat : Int) = kk) (H5 : (S[5].toNat : Int) = ss)
    (HN1 : ∀ w', Hid (Calls Tryz.prog 166 #[.string S, .int .i64 1] w' fun e w'' => e = .returned (.int .i64 ee) ∧ ∃ n, w'' = w'.drewN n))
    (HN6 : ∀ w', Hid (Calls Tryz.prog 166 #[.string S, .int .i64 6] w' fun e w'' => e = .returned (.int .i64 qq) ∧ ∃ n, w'' = w'.drewN n))
    (p : Bool) (HP : ∀ w', Hid (Calls Tryz.prog 113 #[.agg #[.int .i64 kk, .int .i64 ee, .int .i64 ss, .int .i64 qq, .string bd]] w' fun r w'' => r = .returned (.bool p) ∧ Below w'.heap.size w' w''))
    (T : ByteArray) (HB : p = true → ∀ w', Hid (Calls Tryz.prog 51 #[.agg #[.int .i64 kk, .int .i64 ee, .int .i64 ss, .int .i64 qq, .string bd]] w' fun r w'' => r = .returned (.string T) ∧ Below w'.heap.size w' w'')) :
    Calls Tryz.prog 117 #[.string S] w fun r w' => r = .returned (if p = true then .tuple #[.agg #[.int .i64 kk, .int .i64 ee, .int .i64 ss, .int .i64 qq, .string bd], .bool (T.toList == S.toList)] else .tuple #[zeroFr, .bool false]) ∧ Below w.heap.size w w' := by
  have h15 : (15 : Int) ≤ (S.size : Int) := by omega
  have i0 : (0 : Int) < (S.size : Int) := by omega
  have i5 : (5 : Int) < (S.size : Int) := by omega
  have s4 : (4 : Int) ≤ (S.size : Int) := by omega
  have g1 : IntKind.i64.wrap ((S.size : Int) - 4) = (k : Int) + 11 := by rw [IntKind.wrap_i64]; omega
  have g3 : (S.size : Int) - 4 = (k : Int) + 11 := by omega
  have g4 : IntKind.i64.wrap ((k : Int) + 11) = (k : Int) + 11 := by rw [IntKind.wrap_i64]; omega
  have t1 : ((k : Int) + 11).toNat = k + 11 := by omega
  have l1 : (11 : Int) ≤ (k : Int) + 11 := by omega
  have l2 : (k : Int) + 11 ≤ (S.size : Int) := by omega
  have wk := wrap_small hkk
  have ws := wrap_small hss
  have m1 : k + 11 ≤ S.size := by omega
  clear hk
  go_enter Tryz.func117, Tryz.ntmps117
  go_upto_region 3 with fail
  refine wp_region_last (by kernel_rfl)
    [fun v _ => v = .string S, fun v _ => v = .int .u8 kk, fun v _ => v = .int .i64 kk, fun v _ => v = .string S, fun v _ => v = .int .i64 ee, fun v _ => v = .string S, fun v _ => v = .int .u8 ss, fun v _ => v = .int .i64 ss,
     fun v _ => v = .string S, fun v _ => v = .int .i64 qq, fun v _ => v = .string S, fun v _ => v = .string S, fun v _ => v = .int .i64 S.size, fun v _ => v = .int .i64 ((k : Int) + 11), fun v _ => v = .string bd,
     fun v _ => v = .agg #[.int .i64 kk, .int .i64 ee, .int .i64 ss, .int .i64 qq, .string bd], NewFr (w.heap.size + 1), fun _ _ => True]
    [[(0, none)], [(11, some 0)], [(12, some 1)], [(0, none)], [(14, some 3)], [(0, none)], [(16, some 5)], [(17, some 6)], [(0, none)], [(19, some 8)], [(0, none)], [(0, none)], [(22, some 11)], [(23, some 12)], [(21, some 10), (24, some 13)], [(13, some 2), (15, some 4), (18, some 7), (20, some 9), (25, some 14)], [], [(4, some 16), (26, some 15)]]
    [some 11, some 12, some 13, some 14, some 15, some 16, some 17, some 18, some 19, some 20, some 21, some 22, some 23, some 24, some 25, some 26, some 4, none]
    [false, false, false, false, true, false, false, false, false, false, false, true, true, true, true, true, true, true, true, true, true, true, true, true, true, true, true, false, false, false, false, false, false, false, false, false, false, false]
    17 _ rfl rfl (by kernel_rfl) (by kernel_rfl) (by kernel_rfl) (by kernel_rfl) (by kernel_rfl) (by kernel_rfl) ?_ ?_ ?_
  · repeat' (first | exact stable_eq _ | exact stable_newFr _ | exact stable_true | exact trivial | apply And.intro)
  · refine ⟨?_, ?_, ?_, ?_, ?_, ?_, ?_, ?_, ?_, ?_, ?_, ?_, ?_, ?_, ?_, ?_, ?_, trivial⟩
    all_goals
      intro a x hb hf
      have zx := hb.size
      simp only [World.size_alloc] at zx
      clear hb
      simp only [PlanFacts, List.getD_cons_zero, List.getD_cons_succ, Array.getD_eq_getD_getElem?] at hf
      try simp at hf
      try go_simp
      try exact Below.refl _ _
    · refine (unhide (HN1 _)).mono ?_
      rintro r w1 ⟨rfl, n2, rfl⟩
      exact ⟨rfl, below_drewN (Below.refl _ _) _⟩
    · refine (unhide (HN6 _)).mono ?_
      rintro r w1 ⟨rfl, n2, rfl⟩
      exact ⟨rfl, below_drewN (Below.refl _ _) _⟩
    · exact ⟨_, rfl, (Below.refl _ _).alloc (Nat.le_refl _) _, _, rfl, zx, frBox_new _ _ _ _ _ _ _, by intro i; simp⟩
  · intro f x hb hwd
    simp only [AllWords, List.take] at hwd
    obtain ⟨_, _, _, _, _, _, _, _, _, _, _, _, _, _, _, hf26, ⟨g, hf4, hgB, hfr, hfz⟩, _⟩ := hwd
    have zx := hb.size
    simp only [World.size_alloc] at zx
    have hz := (frBox_new w 0 0 0 0 ⟨#[]⟩ 41).below hb (by simp)
    have hzf : ∀ i, x.frozen? ⟨w.heap.size, i, none⟩ = false := fun i => (hb.frozen (p := ⟨w.heap.size, i, none⟩) (by simp)).trans (by simp)
    have hgl : g < x.heap.size := World.block_lt_of_cell? _ _ hfr.c0
    have BX := hide (((Below.refl w.heap.size w).alloc (Nat.le_refl _) (.cells #[.int .i64 0, .int .i64 0, .int .i64 0, .int .i64 0, .string ⟨#[]⟩] 41)).trans (hb.mono (by simp)))
    obtain ⟨y0, y1, y2, y3, y4⟩ := hfr
    have fz0 := hfz 0
    have fz1 := hfz 1
    have fz2 := hfz 2
    have fz3 := hfz 3
    have fz4 := hfz 4
    clear hb hfz
    simp only [mergeT, hf26, hf4]
    have hgw : g ≠ w.heap.size := by omega
    go_simp
    go_upto_region 4 with fail
    refine wp_world (fun X => FrBox X w.heap.size 0 0 0 0 ⟨#[]⟩ ∧ FrBox X g kk ee ss qq bd ∧ (∀ i, X.frozen? ⟨w.heap.size, i, none⟩ = false) ∧ Below w.heap.size w X ∧ g < X.heap.size) ⟨?_, ?_, ?_, ?_, ?_⟩ ?_
    · exact fr_after_other hz (by omega) _ _ _ _ _
    · exact fr_after _ ⟨_, y0⟩ ⟨_, y1⟩ ⟨_, y2⟩ ⟨_, y3⟩ ⟨_, y4⟩ _ _ _ _ _
    · intro i; simp [hzf]
    · exact below_five' (unhide BX) (by omega) _ _ _ _ _
    · simpa using hgl
    clear hz hzf hgl BX y0 y1 y2 y3 y4 fz0 fz1 fz2 fz3 fz4 zx
    rintro X ⟨z0, f0, hfz, hB, hsz⟩
    obtain ⟨x0, x1, x2, x3, x4⟩ := id f0
    cases p
    · go_upto_if 30 with (go_at_call 113; refine (unhide (HP _)).mono ?_; rintro r w3 ⟨rfl, hb3⟩)
      obtain ⟨z30, z31, z32, z33, z34⟩ := z0.below hb3 (by omega)
      have fz : ∀ i, w3.frozen? ⟨w.heap.size, i, none⟩ = false := fun i => (hb3.frozen (p := ⟨w.heap.size, i, none⟩) (by simp; omega)).trans (hfz i)
      have fz0 := fz 0
      have fz1 := fz 1
      have fz2 := fz 2
      have fz3 := fz 3
      have fz4 := fz 4
      have B3 := hB.trans (hb3.mono (by omega))
      clear fz hb3 z0 f0 hfz x0 x1 x2 x3 x4 HP hB hsz HB HN1 HN6 H0 H5 hbd
      go_wp2
      refine bodyPost_ret (v := .tuple #[zeroFr, .bool false]) (by simp [results, Tryz.results117, go_sem, zeroFr, *]) rfl ⟨rfl, ?_⟩
      exact below_five B3 _ _ _ _ _
    · go_upto_region 7 with (go_at_call 113; refine (unhide (HP _)).mono ?_; rintro r w3 ⟨rfl, hb3⟩)
      have f3 := f0.below hb3 hsz
      have z3 := z0.below hb3 (by omega)
      have fz3 : ∀ i, w3.frozen? ⟨w.heap.size, i, none⟩ = false := fun i => (hb3.frozen (p := ⟨w.heap.size, i, none⟩) (by simp; omega)).trans (hfz i)
      have B3 := hB.trans (hb3.mono (by omega))
      have s3 := hb3.size
      have hgl3 : g < w3.heap.size := by omega
      have HBh := hide (HB trivial)
      clear hb3 z0 f0 hfz x0 x1 x2 x3 x4 HP hB hsz HB HN1 HN6 H0 H5 hbd
      obtain ⟨x0, x1, x2, x3, x4⟩ := id f3
      go_upto_region 8 with (go_at_call 51; refine (unhide (unhide HBh _)).mono ?_; rintro r w4 ⟨rfl, hb4⟩)
      obtain ⟨u0, u1, u2, u3, u4⟩ := f3.below hb4 hgl3
      obtain ⟨z0, z1, z2, z3', z4⟩ := z3.below hb4 (by omega)
      have fz : ∀ i, w4.frozen? ⟨w.heap.size, i, none⟩ = false := fun i => (hb4.frozen (p := ⟨w.heap.size, i, none⟩) (by simp; omega)).trans (fz3 i)
      have fz0 := fz 0
      have fz1 := fz 1
      have fz2 := fz 2
      have fz3 := fz 3
      have fz4 := fz 4
      have B4 := B3.trans (hb4.mono (by omega))
      clear fz hb4 f3 z3 x0 x1 x2 x3 x4 HBh B3
      go_wp2
      refine bodyPost_ret (v := .tuple #[.agg #[.int .i64 kk, .int .i64 ee, .int .i64 ss, .int .i64 qq, .string bd], .bool (T.toList == S.toList)]) (by simp [results, Tryz.results117, go_sem, *]) rfl ⟨rfl, ?_⟩
      exact below_five B4 _ _ _ _ _

theorem extract_body (S : ByteArray) (k : Nat) (hk : S.size = k + 15) : S.extract 11 (k + 11) = Wire.bodyOf S.data.toList := by
  apply ByteArray.ext
  rw [ByteArray.data_extract]
  unfold Wire.bodyOf
  apply Array.ext'
  have hl : S.data.toList.length - 4 = k + 11 := by
    have : S.data.toList.length = S.size := by simp
    omega
  rw [hl]
  simp [List.extract_eq_take_drop, List.drop_take]
theorem toList_data (S : ByteArray) : S.toList = S.data.toList := ByteArray.toList_eq S
theorem byte_at (S : ByteArray) (i : Nat) (h : i < S.size) : S.data.toList.getD i 0 = S[i] := by
  have hl : i < S.data.toList.length := by simpa using h
  rw [List.getD_eq_getElem?_getD, List.getElem?_eq_getElem hl]; rfl

/-- Are the parts a frame's? -/
def partsOk (l : List UInt8) : Bool := decide (15 ≤ l.length) && Wire.proper (Wire.kindOf l) (Wire.epochOf l) (Wire.streamOf l) (Wire.seqOf l) (Wire.bodyOf l)
/-- The frame that the document's reading answers. -/
def readVal (l : List UInt8) : Value := if partsOk l = true then frVal l else zeroFr
theorem readVal_yes {l : List UInt8} (h : Wire.reads l = true) : readVal l = frVal l := by
  unfold Wire.reads at h
  rw [Bool.and_eq_true] at h
  have h2 := h.1
  unfold Wire.whole at h2
  rw [Bool.and_eq_true] at h2
  unfold readVal partsOk
  rw [h2.1, h.2]; rfl
theorem readVal_shape (l : List UInt8) : ∃ k e s q b, readVal l = .agg #[.int .i64 k, .int .i64 e, .int .i64 s, .int .i64 q, .string b] := by
  unfold readVal
  split
  · exact ⟨_, _, _, _, _, rfl⟩
  · exact ⟨_, _, _, _, _, rfl⟩

/-- The document's reading of bytes. -/
theorem refRead_any (S : ByteArray) (w : World) (hS : S.size ≤ 9223372036854775807) :
    Calls Tryz.prog 117 #[.string S] w fun r w' => r = .returned (.tuple #[readVal S.data.toList, .bool (Wire.reads S.data.toList)]) ∧ Below w.heap.size w w' := by
  have hsl : S.data.toList.length = S.size := by simp
  by_cases h15 : S.size < 15
  · refine (refRead_short S w (by omega)).mono ?_
    rintro r w' ⟨rfl, hb⟩
    have hr : Wire.reads S.data.toList = false := by unfold Wire.reads Wire.whole; rw [decide_eq_false (by omega)]; simp
    have hv : readVal S.data.toList = zeroFr := by unfold readVal partsOk; rw [decide_eq_false (by omega)]; simp
    exact ⟨by rw [hr, hv], hb⟩
  · obtain ⟨k, hk⟩ : ∃ k, S.size = k + 15 := ⟨S.size - 15, by omega⟩
    have k1 := kindOf_range S.data.toList
    have k3 := streamOf_range S.data.toList
    have hbs : (Wire.bodyOf S.data.toList).size ≤ 9223372036854775807 := by
      show ((S.data.toList.take (S.data.toList.length - 4)).drop 11).toArray.size ≤ _
      rw [List.size_toArray, List.length_drop, List.length_take]; omega
    refine (refRead_core S k hk w hS (Wire.kindOf S.data.toList) (Wire.epochOf S.data.toList) (Wire.streamOf S.data.toList) (Wire.seqOf S.data.toList) (Wire.bodyOf S.data.toList) (extract_body S k hk) ⟨k1.1, by omega⟩ ⟨k3.1, by omega⟩
      (by omega) (by omega) (by unfold Wire.kindOf; rw [byte_at S 0 (by omega)]) (by unfold Wire.streamOf; rw [byte_at S 5 (by omega)])
      (fun w' => refNumber_any S 1 w' (by omega) hS) (fun w' => refNumber_any S 6 w' (by omega) hS) _ (fun w' => refProper_any _ _ _ _ _ w' hbs) _ (fun hp w' => refBytes_any _ _ _ _ _ w' hp)).mono ?_
    rintro r w' ⟨rfl, hb⟩
    cases hp : Wire.proper (Wire.kindOf S.data.toList) (Wire.epochOf S.data.toList) (Wire.streamOf S.data.toList) (Wire.seqOf S.data.toList) (Wire.bodyOf S.data.toList)
    · have hr : Wire.reads S.data.toList = false := by unfold Wire.reads; rw [hp, Bool.and_false]
      have hv : readVal S.data.toList = zeroFr := by unfold readVal partsOk; rw [hp]; simp
      exact ⟨by rw [hr, hv]; rfl, hb⟩
    · have hv : readVal S.data.toList = frVal S.data.toList := by unfold readVal partsOk; rw [hp, decide_eq_true (by omega)]; rfl
      have hr : ((⟨(Wire.bytes (Wire.kindOf S.data.toList) (Wire.epochOf S.data.toList) (Wire.streamOf S.data.toList) (Wire.seqOf S.data.toList) (Wire.bodyOf S.data.toList).data.toList).toArray⟩ : ByteArray).toList == S.toList) = Wire.reads S.data.toList := by
        unfold Wire.reads
        rw [hp, Bool.and_true, toList_data, toList_data]
        cases hw : Wire.whole S.data.toList
        · apply beq_eq_false_iff_ne.2
          intro e
          obtain ⟨h1, h2, h3, h4, h5⟩ := proper_small hp
          have := (Wire.parts_bytes (k := Wire.kindOf S.data.toList) (e := Wire.epochOf S.data.toList) (s := Wire.streamOf S.data.toList) (q := Wire.seqOf S.data.toList) (b := Wire.bodyOf S.data.toList) (by omega) (by omega) (by omega) (by omega) (by omega)).1
          have e2 : Wire.bytes (Wire.kindOf S.data.toList) (Wire.epochOf S.data.toList) (Wire.streamOf S.data.toList) (Wire.seqOf S.data.toList) (Wire.bodyOf S.data.toList).data.toList = S.data.toList := e
          rw [e2, hw] at this
          cases this
        · apply beq_iff_eq.2
          simpa using Wire.whole_bytes hw
      exact ⟨by rw [if_pos rfl, hr, hv]; rfl, hb⟩

end Go.Proofs.YtamafdcnbcoegaaGreat
namespace Go.Proofs.YtamafdcnbcoegaaGreat
open Go.RowKit

/-- The slice holds these values, in a block that A lets. -/
def Row (A : Nat → Prop) (w : World) (e : TypeId) (v : Value) (xs : List Value) : Prop := w.ownsRow 0 e 1 v xs.length xs ∧ ∀ g, v.ownBlock = some g → A g
theorem ownsRow_keep {w w' : World} {B : Nat} {e : TypeId} {v : Value} {n : Nat} {xs : List Value} (h : w.ownsRow B e 1 v n xs) (hk : ∀ g, v.ownBlock = some g → w'.heap[g]? = w.heap[g]?) : w'.ownsRow B e 1 v n xs := by
  obtain ⟨h1, h2⟩ := h
  refine ⟨h1, ?_⟩
  rcases h2 with h2 | ⟨g, cap, cur, rfl, hb, hh, r⟩
  · exact .inl h2
  · exact .inr ⟨g, cap, cur, rfl, hb, by rw [hk g rfl]; exact hh, r⟩
theorem Row.shape {A : Nat → Prop} {w : World} {e : TypeId} {v : Value} {xs : List Value} (h : Row A w e v xs) : ∃ ad cap, v = .slice ad xs.length cap ∧ xs.length ≤ cap ∧ cap ≤ maxLen ∧
    (0 < xs.length → ∃ g, ad = some ⟨g, 0, none⟩ ∧ A g ∧ ∀ i, i < xs.length → w.cell? ⟨g, i, none⟩ = xs[i]?) := by
  obtain ⟨h0, hA⟩ := h
  have h0' := h0
  obtain ⟨h1, h2⟩ := h0
  rcases h2 with ⟨e, h2⟩ | ⟨g, cap, cur, e, hB, hh, hc1, hc2, _, ht⟩
  · exact ⟨none, 0, by rw [h2]; exact e, by omega, by unfold maxLen; omega, fun h => by omega⟩
  · subst e
    exact ⟨_, cap, rfl, hc1, hc2, fun _ => ⟨g, rfl, hA g rfl, fun i hi => World.ownsRow.cellAt h0' i (by omega)⟩⟩

/-- What append of one element does: into the elder block, or into a new one. -/
structure App (w w' : World) (v v' : Value) : Prop where
  grown : w.grownBy w' v.ownBlock
  where_ : v'.ownBlock = v.ownBlock ∨ (w.grownBy w' none ∧ ∃ g, v'.ownBlock = some g ∧ w.heap.size ≤ g)

theorem run_app_one {P : Program} (w : World) (t ty e : TypeId) (i : TypeInfo) (z : Value) (bytes : Nat) (ht : P.underlying t = some (.slice e)) (hi : P.info? e = some i) (hz : i.zero = some z) (hsize : i.size = 1) (hby : i.bytes = bytes) (hzs : z.cells.size = 1)
    (v : Value) (xs : List Value) (hown : w.ownsRow 0 e 1 v xs.length xs) (ad : Addr) (u : Value) (hu : w.cell? ad = some u) (h1 : u.oneCell' = true) (hb : (xs.length + 1) * bytes ≤ 140737488355328) (hl : xs.length + 1 ≤ 140737488355328) :
    ∃ v' w', (Builtin.append_ #[t, t] ty #[v, .slice (some ad) 1 1]).run P w = .ok v' w' ∧ w'.ownsRow 0 e 1 v' (xs ++ [u]).length (xs ++ [u]) ∧ w'.ownsRow 0 e 1 v xs.length xs ∧ App w w' v v' := by
  have hnews : ∀ j x, [u][j]? = some x → w.cell? (ad.add j) = some x := by
    intro j x hj
    match j, hj with
    | 0, hj => simp at hj; subst hj; simpa [Addr.add] using hu
  have h63 : xs.length + 1 ≤ maxLen := by unfold maxLen; omega
  have hown0 := hown
  obtain ⟨ho1, ho2⟩ := hown
  rcases ho2 with ⟨rfl, h0⟩ | ⟨g, cap, cur, rfl, hbg, hg, hnc, hcm, hcs, htake⟩
  · have hx : xs = [] := List.eq_nil_of_length_eq_zero h0
    subst hx
    have hr := run_append_nil (P := P) w t ty e i z ht hi hz ad 1 1 [u] (by simp [hsize]) hnews (by omega) (by omega) (by rw [hby]; simp at hb; omega)
    have hge := grownCap_ge w 1 0 e
    refine ⟨_, _, hr, ⟨by simp, .inr ⟨w.heap.size, grownCap w 1 0 e, _, rfl, by omega, heap_alloc_new w.drew _, by simpa using hge, grownCap_le_maxLen w 1 0 e (by unfold maxLen; omega), ?_, ?_⟩⟩, World.ownsRow_nil _ _ _ _, ⟨⟨rfl, rfl, rfl, by simp, fun k hk _ => Below.heap_alloc w.drew _ k hk⟩, .inr ⟨⟨rfl, rfl, rfl, by simp, fun k hk _ => Below.heap_alloc w.drew _ k hk⟩, w.heap.size, rfl, by omega⟩⟩⟩
    · simp [size_zeroCells, hzs]; omega
    · simp
  · by_cases hroom : xs.length + 1 ≤ cap
    · obtain ⟨w', hr, hown', hgr⟩ := run_append_fits (P := P) w 0 t ty e i 1 ht hi hsize g xs.length cap xs hown0 ad 1 1 [u] (by simp) hnews (by intro x hx; simp at hx; subst hx; exact h1) hroom
      refine ⟨_, w', hr, by simpa using hown', ?_, ⟨hgr, .inl rfl⟩⟩
      obtain ⟨_, hq⟩ := hown'
      rcases hq with ⟨hq, _⟩ | ⟨g', cap', cur', e1, hb', hg', hn', hc', hs', ht'⟩
      · cases hq
      · injection e1 with e1 _ e3
        injection e1 with e1
        injection e1 with e1
        subst e1 e3
        refine ⟨ho1, .inr ⟨g, cap, cur', rfl, by omega, hg', hnc, hc', hs', ?_⟩⟩
        have := congrArg (List.take xs.length) ht'
        rw [List.take_take] at this
        simpa [Nat.min_eq_left] using this
    · have holds : ∀ j x, xs[j]? = some x → w.cell? ((⟨g, 0, none⟩ : Addr).add j) = some x := World.ownsRow.cells hown0 rfl
      have hr := run_append_grow (P := P) w t ty e i z ht hi hz ⟨g, 0, none⟩ xs.length cap xs (by simp [hsize]) holds ad 1 1 [u] (by simp [hsize]) hnews (by omega) (by omega) (by rw [hby]; exact growslice_fits (by omega) (by omega))
      have hge := grownCap_ge w (xs.length + 1) cap e
      refine ⟨_, _, hr, ⟨by simp, .inr ⟨w.heap.size, grownCap w (xs.length + 1) cap e, _, by simp, by omega, heap_alloc_new w.drew _, by simpa using hge, grownCap_le_maxLen w (xs.length + 1) cap e h63, ?_, ?_⟩⟩, ?_, ⟨⟨rfl, rfl, rfl, by simp, fun k hk _ => Below.heap_alloc w.drew _ k hk⟩, .inr ⟨⟨rfl, rfl, rfl, by simp, fun k hk _ => Below.heap_alloc w.drew _ k hk⟩, w.heap.size, rfl, by omega⟩⟩⟩
      · simp [size_zeroCells, hzs]; omega
      · simp only [Array.toList_append, List.append_assoc]
        rw [← List.append_assoc, Nat.mul_one]
        exact List.take_left
      · have hlt : g < w.heap.size := lt_of_block hg
        exact ownsRow_keep hown0 (fun g' hg' => by cases hg'; exact Below.heap_alloc w.drew _ g hlt)
end Go.Proofs.YtamafdcnbcoegaaGreat
namespace Go.Proofs.YtamafdcnbcoegaaGreat
open Go.RowKit

theorem bv3 {a b c : Int} (ha : 0 ≤ a ∧ a < 256) (hb : 0 ≤ b ∧ b < 256) (hc : 0 ≤ c ∧ c < 256) : ∃ l : List UInt8, l.length = 3 ∧ bv l = [.int .u8 a, .int .u8 b, .int .u8 c] := by
  refine ⟨[UInt8.ofNat (a.toNat % 256)] ++ [UInt8.ofNat (b.toNat % 256)] ++ [UInt8.ofNat (c.toNat % 256)], rfl, ?_⟩
  rw [bv_append, bv_append, bv_byte ha.1 ha.2, bv_byte hb.1 hb.2, bv_byte hc.1 hc.2]
  rfl

set_option maxRecDepth 100000 in
set_option maxHeartbeats 400000 in
theorem text_any (m : Int) (w : World) :
    Calls Tryz.prog 114 #[.int .i64 m] w fun r w' => ∃ s : ByteArray, r = .returned (.string s) ∧ s.size = 3 ∧ Below w.heap.size w w' := by
  obtain ⟨l, hl, hb⟩ := bv3 (a := 35) (b := m % 256) (c := m / 256 % 256) (by omega) (by omega) (by omega)
  have hc := conv_new (w := w) (l := l) hl
  rw [hb] at hc
  have HS : Hid ((⟨l.toArray⟩ : ByteArray).size = 3) := by show _ = _; simp [ByteArray.size, hl]
  clear hb hl
  generalize (⟨l.toArray⟩ : ByteArray) = s at hc HS
  go_enter Tryz.func114, Tryz.ntmps114
  go_wp2
  go_ret
  exact ⟨s, rfl, unhide HS, (Below.refl _ _).alloc (Nat.le_refl _) _⟩

/-- The sign's byte, as the walk spells it. -/
def signV (m i : Int) : Int := wrap64 (m + wrap64 (i * wrap64 (1 + wrap64 (m.tdiv 256)))) % 256
theorem signV_range (m i : Int) : 0 ≤ signV m i ∧ signV m i < 256 := ⟨Int.emod_nonneg _ (by decide), Int.emod_lt_of_pos _ (by decide)⟩
set_option maxHeartbeats 400000 in
theorem sign_any (m i : Int) (w : World) :
    Calls Tryz.prog 167 #[.int .i64 m, .int .i64 i] w fun r w' => r = .returned (.int .u8 (signV m i)) ∧ w' = w := by
  go_enter Tryz.func167, Tryz.ntmps167
  go_wp2
  go_ret
  exact ⟨rfl, rfl⟩

/-- Bytes behind a slice, in a block that A lets. -/
def BAt (A : Nat → Nat → Prop) (w : World) (v : Value) (l : List UInt8) : Prop :=
  ∃ ad cap, v = .slice ad l.length cap ∧ l.length ≤ cap ∧ l.length ≤ 9223372036854775807 ∧
    (0 < l.length → ∃ b off, ad = some ⟨b, off, none⟩ ∧ (∀ i, i < l.length → A b (off + i)) ∧ ∀ i, i < l.length → w.cell? ⟨b, off + i, none⟩ = some (.int .u8 (l.getD i 0).toNat))
theorem BAt.keep {A : Nat → Nat → Prop} {w w' : World} {v : Value} {l : List UInt8} (h : BAt A w v l) (hk : ∀ b o, A b o → w'.cell? ⟨b, o, none⟩ = w.cell? ⟨b, o, none⟩) : BAt A w' v l := by
  obtain ⟨ad, cap, hv, h1, h2, h3⟩ := h
  refine ⟨ad, cap, hv, h1, h2, fun h0 => ?_⟩
  obtain ⟨b, off, e, hA, hc⟩ := h3 h0
  exact ⟨b, off, e, hA, fun i hi => (hk b _ (hA i hi)).trans (hc i hi)⟩
theorem BAt.mono {A A' : Nat → Nat → Prop} {w : World} {v : Value} {l : List UInt8} (h : BAt A w v l) (hA : ∀ b o, A b o → A' b o) : BAt A' w v l := by
  obtain ⟨ad, cap, hv, h1, h2, h3⟩ := h
  refine ⟨ad, cap, hv, h1, h2, fun h0 => ?_⟩
  obtain ⟨b, off, e, hb, hc⟩ := h3 h0
  exact ⟨b, off, e, fun i hi => hA _ _ (hb i hi), hc⟩
/-- Values behind a slice, in cells that A lets. -/
def Rd (A : Nat → Nat → Prop) (w : World) (v : Value) (xs : List Value) : Prop :=
  ∃ ad cap, v = .slice ad xs.length cap ∧ xs.length ≤ cap ∧ cap ≤ maxLen ∧ (0 < xs.length → ∃ g, ad = some ⟨g, 0, none⟩ ∧ ∀ i, i < xs.length → A g i ∧ w.cell? ⟨g, i, none⟩ = xs[i]?)
theorem Rd.keep {A : Nat → Nat → Prop} {w w' : World} {v : Value} {xs : List Value} (h : Rd A w v xs) (hk : ∀ b o, A b o → w'.cell? ⟨b, o, none⟩ = w.cell? ⟨b, o, none⟩) : Rd A w' v xs := by
  obtain ⟨ad, cap, hv, h1, h2, h3⟩ := h
  refine ⟨ad, cap, hv, h1, h2, fun h0 => ?_⟩
  obtain ⟨g, e, hc⟩ := h3 h0
  exact ⟨g, e, fun i hi => ⟨(hc i hi).1, (hk _ _ (hc i hi).1).trans (hc i hi).2⟩⟩
theorem Rd.mono {A A' : Nat → Nat → Prop} {w : World} {v : Value} {xs : List Value} (h : Rd A w v xs) (hA : ∀ b o, A b o → A' b o) : Rd A' w v xs := by
  obtain ⟨ad, cap, hv, h1, h2, h3⟩ := h
  refine ⟨ad, cap, hv, h1, h2, fun h0 => ?_⟩
  obtain ⟨g, e, hc⟩ := h3 h0
  exact ⟨g, e, fun i hi => ⟨hA _ _ (hc i hi).1, (hc i hi).2⟩⟩
theorem rd_of_row {A : Nat → Nat → Prop} {w : World} {e : TypeId} {v : Value} {xs : List Value} (h : w.ownsRow 0 e 1 v xs.length xs) (hA : ∀ g, v.ownBlock = some g → ∀ i, i < xs.length → A g i) : Rd A w v xs := by
  obtain ⟨ad, cap, rfl, h1, h2, h3⟩ := (show Row (fun g => v.ownBlock = some g) w e v xs from ⟨h, fun g hg => hg⟩).shape
  refine ⟨ad, cap, rfl, h1, h2, fun h0 => ?_⟩
  obtain ⟨g, rfl, hg, hc⟩ := h3 h0
  exact ⟨g, rfl, fun i hi => ⟨hA g hg i hi, hc i hi⟩⟩

/-- string(v): whatever the bytes. -/
theorem BAt.str {A : Nat → Nat → Prop} {w : World} {v : Value} {l : List UInt8} (h : BAt A w v l) : (convert 44 9 v).run Tryz.prog w = .ok (.string ⟨l.toArray⟩) w := by
  obtain ⟨ad, cap, rfl, h1, h2, h3⟩ := h
  by_cases h0 : 0 < l.length
  · obtain ⟨b, off, rfl, _, hc⟩ := h3 h0
    exact conv_str rfl hc
  · have : l = [] := List.eq_nil_of_length_eq_zero (by omega)
    subst this
    cases ad with
    | none => exact run_convert_bytes_nil (P := Tryz.prog) w 44 5 Tryz.underlying44 Tryz.underlying5 0 cap 9 Tryz.underlying9
    | some a =>
      have hr := run_convert_bytes_string (P := Tryz.prog) w 44 9 5 (some a) 0 cap Tryz.underlying44 Tryz.underlying5 Tryz.underlying9
      have hb := run_bytesToString (P := Tryz.prog) w a 0 cap [] (by simp [loadCells, loadCellsFrom])
      exact hr.trans hb

/-- A hold whose lists read as its owner wrote them. -/
def HoldAt (A : Nat → Nat → Prop) (w : World) (p : Nat) : Prop :=
  ∃ (tv bv' fv : Value) (nt : Nat) (l : List UInt8) (fs : List Value) (m : Int) (t : ByteArray),
    (∀ i, i < 6 → A p i) ∧ (∀ i, i < 6 → w.cell? ⟨p, i, none⟩ = #[tv, bv', fv, .int .i64 m, .string t, .string ⟨l.toArray⟩][i]?) ∧ Rd A w tv (List.replicate nt (.string t)) ∧ BAt A w bv' l ∧
      Rd A w fv fs ∧ ∀ f ∈ fs, BAt A w f t.data.toList
theorem HoldAt.keep {A : Nat → Nat → Prop} {w w' : World} {p : Nat} (h : HoldAt A w p) (hk : ∀ b o, A b o → w'.cell? ⟨b, o, none⟩ = w.cell? ⟨b, o, none⟩) : HoldAt A w' p := by
  obtain ⟨tv, bv', fv, nt, l, fs, m, t, hA, hh, h1, h2, h3, h4⟩ := h
  exact ⟨tv, bv', fv, nt, l, fs, m, t, hA, fun i hi => (hk p i (hA i hi)).trans (hh i hi), h1.keep hk, h2.keep hk, h3.keep hk, fun f hf => (h4 f hf).keep hk⟩
theorem HoldAt.mono {A A' : Nat → Nat → Prop} {w : World} {p : Nat} (h : HoldAt A w p) (hA : ∀ b o, A b o → A' b o) : HoldAt A' w p := by
  obtain ⟨tv, bv', fv, nt, l, fs, m, t, hp, hh, h1, h2, h3, h4⟩ := h
  exact ⟨tv, bv', fv, nt, l, fs, m, t, fun i hi => hA _ _ (hp i hi), hh, h1.mono hA, h2.mono hA, h3.mono hA, fun f hf => (h4 f hf).mono hA⟩

theorem blk_cell {w : World} {p i : Nat} {c : Array Value} {e : TypeId} {fr : Nat × Nat} (h : w.heap[p]? = some (.cells c e fr)) : w.cell? ⟨p, i, none⟩ = c[i]? := by simp [World.cell?, h]
theorem blk_free {w : World} {p i : Nat} {c : Array Value} {e : TypeId} (h : w.heap[p]? = some (.cells c e (0, 0))) : w.frozen? ⟨p, i, none⟩ = false := by simp [World.frozen?, h]

set_option maxRecDepth 100000 in
set_option maxHeartbeats 2000000 in
theorem marked_any (A : Nat → Nat → Prop) (p : Nat) (w : World) (h : HoldAt A w p) :
    Calls Tryz.prog 83 #[.pointer (some ⟨p, 0, none⟩)] w fun r w' => r = .returned (.bool true) ∧ ∃ n, w' = w.drewN n := by
  obtain ⟨tv, bv', fv, nt, l, fs, m, t, hA, hh, h1, h2, h3, h4⟩ := h
  have c0 := hh 0 (by omega)
  have c1 := hh 1 (by omega)
  have c2 := hh 2 (by omega)
  have c4 := hh 4 (by omega)
  have c5 := hh 5 (by omega)
  simp at c0 c1 c2 c4 c5
  obtain ⟨ta, tcap, rfl, ht1, ht2, ht3⟩ := h1
  obtain ⟨fa, fcap, rfl, hf1, hf2, hf3⟩ := h3
  have HT := hide ht3
  have HF := hide hf3
  have H4 := hide h4
  have hs := fun n => (h2.keep (w' := w.drewN n) (fun _ _ _ => rfl)).str
  rw [List.length_replicate] at c0 ht1
  have n1 : nt ≤ 9223372036854775807 := by unfold maxLen at ht2; omega
  have n2 : fs.length ≤ 9223372036854775807 := by unfold maxLen at hf2; omega
  clear ht3 hf3 h4 hh h2 hA
  go_enter Tryz.func83, Tryz.ntmps83
  go_wp2
  go_loopw [3] (fun i wr => ∃ k : Nat, k ≤ nt ∧ i = .int .i64 k ∧ ∃ n, wr = w.drewN n) (fun i _ => nt - (intOf i).toNat)
  case atStart => exact ⟨0, Nat.zero_le _, rfl, 0, rfl⟩
  case round =>
    obtain ⟨k, hk, rfl, n, rfl⟩ := hrel
    by_cases hlt : k < nt
    · obtain ⟨g, rfl, hc⟩ := (unhide HT) (by rw [List.length_replicate]; omega)
      have hck := (hc k (by rw [List.length_replicate]; exact hlt)).2
      rw [List.getElem?_replicate, if_pos hlt] at hck
      clear hc
      go_wp2
      go_quiet (fail)
      go_wp2
      go_roundw
      case rel => exact ⟨k + 1, by omega, by go_num, n + nq, by simp⟩
      case measure => simp [intOf]; omega
    · go_wp2
      go_quiet (fail)
      go_wp2
      go_loopw [4] (fun i wr => ∃ k : Nat, k ≤ fs.length ∧ i = .int .i64 k ∧ ∃ n, wr = w.drewN n) (fun i _ => fs.length - (intOf i).toNat)
      case atStart => exact ⟨0, Nat.zero_le _, rfl, n + nq, by simp⟩
      case round =>
        obtain ⟨k2, hk2, rfl, n2', rfl⟩ := hrel
        by_cases hlt2 : k2 < fs.length
        · obtain ⟨g, rfl, hc⟩ := (unhide HF) (by omega)
          have hck := (hc k2 hlt2).2
          have hst := fun n => ((unhide H4) fs[k2] (List.getElem_mem hlt2)).keep (w' := w.drewN n) (fun _ _ _ => rfl)
          have hst2 := fun n => (hst n).str
          rw [List.getElem?_eq_getElem hlt2] at hck
          clear hc hst
          generalize fs[k2] = fk at hck hst2
          go_wp2
          go_quiet (fail)
          go_wp2
          go_roundw
          case rel => exact ⟨k2 + 1, by omega, by go_num, n2' + nq, by simp⟩
          case measure => simp [intOf]; omega
        · go_wp2
          go_ret
          exact ⟨rfl, _, rfl⟩
end Go.Proofs.YtamafdcnbcoegaaGreat
namespace Go.Proofs.YtamafdcnbcoegaaGreat
open Go.RowKit

def ptrTo (p : Nat) : Value := .pointer (some ⟨p, 0, none⟩)
/-- The world's own block, its holds' array, and all holds, which lie where A lets. -/
structure WorldAt (A : Nat → Nat → Prop) (w : World) (wb : Nat) (as_ ss : Value) (hv : Value) (hs : List Nat) : Prop where
  blk : w.heap[wb]? = some (.cells #[as_, ss, hv] 83 (0, 0))
  row : w.ownsRow 0 108 1 hv hs.length (hs.map ptrTo)
  all : ∀ p ∈ hs, HoldAt A w p

set_option maxRecDepth 100000 in
set_option maxHeartbeats 2000000 in
theorem looks_any (A : Nat → Nat → Prop) (w : World) (wb : Nat) (as_ ss hv : Value) (hs : List Nat) (h : WorldAt A w wb as_ ss hv hs) :
    Calls Tryz.prog 49 #[.pointer (some ⟨wb, 0, none⟩)] w fun r w' => r = .returned (.bool true) ∧ ∃ n, w' = w.drewN n := by
  obtain ⟨hblk, hrow, hall⟩ := h
  have c2 := blk_cell (i := 2) hblk
  simp at c2
  have hrow' : Row (fun _ => True) w 108 hv (hs.map ptrTo) := ⟨by rw [List.length_map]; exact hrow, fun _ _ => trivial⟩
  obtain ⟨ha, hcap, rfl, h1, h2, h3⟩ := hrow'.shape
  rw [List.length_map] at c2 h1 h3
  have H3 := hide h3
  have HA := hide hall
  have n1 : hs.length ≤ 9223372036854775807 := by unfold maxLen at h2; omega
  clear h3 hall hrow hrow' hblk
  go_enter Tryz.func49, Tryz.ntmps49
  go_wp2
  go_loopw [3, 4] (fun i _ wr => ∃ k : Nat, k ≤ hs.length ∧ i = .int .i64 k ∧ ∃ n, wr = w.drewN n) (fun i _ _ => hs.length - (intOf i).toNat)
  case atStart => exact ⟨0, Nat.zero_le _, rfl, 0, rfl⟩
  case round =>
    obtain ⟨k, hk, rfl, n, rfl⟩ := hrel
    by_cases hlt : k < hs.length
    · obtain ⟨g, rfl, _, hc⟩ := (unhide H3) (by omega)
      have hck := hc k hlt
      rw [List.getElem?_map, List.getElem?_eq_getElem hlt] at hck
      simp only [Option.map_some, ptrTo] at hck
      have hm := fun n => hide (marked_any A hs[k] (w.drewN n) (((unhide HA) hs[k] (List.getElem_mem hlt)).keep (fun _ _ _ => rfl)))
      clear hc
      generalize hs[k] = pk at hck hm
      go_wp2_with (go_at_call 83; refine (unhide (hm _)).mono ?_; rintro r w' ⟨rfl, n', rfl⟩)
      go_roundw
      case rel => exact ⟨k + 1, by omega, by go_num, n + n', by simp⟩
      case measure => simp [intOf]; omega
    · go_wp2
      go_ret
      exact ⟨rfl, _, rfl⟩
end Go.Proofs.YtamafdcnbcoegaaGreat
