/-
  Lists in memory that nothing writes: rows whose block lies where a predicate says; append of one element, and what it leaves of the elder list.
-/
import Derived.Test.YtamafdcnbcoegaaGreatR3
namespace Go.Proofs.YtamafdcnbcoegaaGreat
open Go.RowKit

/-- The slice holds these values, in a block that A lets. -/
def Row (A : Nat → Prop) (w : World) (e : TypeId) (v : Value) (xs : List Value) : Prop := w.ownsRow 0 e 1 v xs.length xs ∧ ∀ g, v.ownBlock = some g → A g
theorem row_nil (A : Nat → Prop) (w : World) (e : TypeId) : Row A w e (.slice none 0 0) [] := ⟨World.ownsRow_nil _ _ _ _, fun g h => by cases h⟩
theorem ownsRow_keep {w w' : World} {B : Nat} {e : TypeId} {v : Value} {n : Nat} {xs : List Value} (h : w.ownsRow B e 1 v n xs) (hk : ∀ g, v.ownBlock = some g → w'.heap[g]? = w.heap[g]?) : w'.ownsRow B e 1 v n xs := by
  obtain ⟨h1, h2⟩ := h
  refine ⟨h1, ?_⟩
  rcases h2 with h2 | ⟨g, cap, cur, rfl, hb, hh, r⟩
  · exact .inl h2
  · exact .inr ⟨g, cap, cur, rfl, hb, by rw [hk g rfl]; exact hh, r⟩
theorem Row.keep {A : Nat → Prop} {w w' : World} {e : TypeId} {v : Value} {xs : List Value} (h : Row A w e v xs) (hk : ∀ k, A k → w'.heap[k]? = w.heap[k]?) : Row A w' e v xs :=
  ⟨ownsRow_keep h.1 (fun g hg => hk g (h.2 g hg)), h.2⟩
theorem Row.mono {A A' : Nat → Prop} {w : World} {e : TypeId} {v : Value} {xs : List Value} (h : Row A w e v xs) (hA : ∀ k, A k → A' k) : Row A' w e v xs := ⟨h.1, fun g hg => hA g (h.2 g hg)⟩
theorem Row.lt {A : Nat → Prop} {w : World} {e : TypeId} {v : Value} {xs : List Value} (h : Row A w e v xs) : ∀ g, v.ownBlock = some g → g < w.heap.size := fun g hg => (World.ownsRow.lt h.1 g hg).2
theorem Row.shape {A : Nat → Prop} {w : World} {e : TypeId} {v : Value} {xs : List Value} (h : Row A w e v xs) : ∃ ad cap, v = .slice ad xs.length cap ∧ xs.length ≤ cap ∧ cap ≤ maxLen ∧
    (0 < xs.length → ∃ g, ad = some ⟨g, 0, none⟩ ∧ A g ∧ ∀ i, i < xs.length → w.cell? ⟨g, i, none⟩ = xs[i]?) := by
  obtain ⟨h0, hA⟩ := h
  have h0' := h0
  obtain ⟨h1, h2⟩ := h0
  rcases h2 with ⟨e, h2⟩ | ⟨g, cap, cur, e, hB, hh, hc1, hc2, _, ht⟩
  · exact ⟨none, 0, by rw [h2]; exact e, by omega, by unfold maxLen; omega, fun h => by omega⟩
  · subst e
    exact ⟨_, cap, rfl, hc1, hc2, fun _ => ⟨g, rfl, hA g rfl, fun i hi => World.ownsRow.cellAt h0' i (by omega)⟩⟩

/-- What append of one element does: into the elder block, or into a new one. -/
structure App (w w' : World) (v v' : Value) : Prop where
  grown : w.grownBy w' v.ownBlock
  where_ : v'.ownBlock = v.ownBlock ∨ (w.grownBy w' none ∧ ∃ g, v'.ownBlock = some g ∧ w.heap.size ≤ g)

theorem run_app_one {P : Program} (w : World) (t ty e : TypeId) (i : TypeInfo) (z : Value) (bytes : Nat) (ht : P.underlying t = some (.slice e)) (hi : P.info? e = some i) (hz : i.zero = some z) (hsize : i.size = 1) (hby : i.bytes = bytes) (hzs : z.cells.size = 1)
    (v : Value) (xs : List Value) (hown : w.ownsRow 0 e 1 v xs.length xs) (ad : Addr) (u : Value) (hu : w.cell? ad = some u) (h1 : u.oneCell' = true) (hb : (xs.length + 1) * bytes ≤ 140737488355328) (hl : xs.length + 1 ≤ 140737488355328) :
    ∃ v' w', (Builtin.append_ #[t, t] ty #[v, .slice (some ad) 1 1]).run P w = .ok v' w' ∧ w'.ownsRow 0 e 1 v' (xs ++ [u]).length (xs ++ [u]) ∧ w'.ownsRow 0 e 1 v xs.length xs ∧ App w w' v v' := by
  have hnews : ∀ j x, [u][j]? = some x → w.cell? (ad.add j) = some x := by
    intro j x hj
    match j, hj with
    | 0, hj => simp at hj; subst hj; simpa [Addr.add] using hu
  have h63 : xs.length + 1 ≤ maxLen := by unfold maxLen; omega
  have hown0 := hown
  obtain ⟨ho1, ho2⟩ := hown
  rcases ho2 with ⟨rfl, h0⟩ | ⟨g, cap, cur, rfl, hbg, hg, hnc, hcm, hcs, htake⟩
  · have hx : xs = [] := List.eq_nil_of_length_eq_zero h0
    subst hx
    have hr := run_append_nil (P := P) w t ty e i z ht hi hz ad 1 1 [u] (by simp [hsize]) hnews (by omega) (by omega) (by rw [hby]; simp at hb; omega)
    have hge := grownCap_ge w 1 0 e
    refine ⟨_, _, hr, ⟨by simp, .inr ⟨w.heap.size, grownCap w 1 0 e, _, rfl, by omega, heap_alloc_new w.drew _, by simpa using hge, grownCap_le_maxLen w 1 0 e (by unfold maxLen; omega), ?_, ?_⟩⟩, World.ownsRow_nil _ _ _ _, ⟨⟨rfl, rfl, rfl, by simp, fun k hk _ => Below.heap_alloc w.drew _ k hk⟩, .inr ⟨⟨rfl, rfl, rfl, by simp, fun k hk _ => Below.heap_alloc w.drew _ k hk⟩, w.heap.size, rfl, by omega⟩⟩⟩
    · simp [size_zeroCells, hzs]; omega
    · simp
  · by_cases hroom : xs.length + 1 ≤ cap
    · obtain ⟨w', hr, hown', hgr⟩ := run_append_fits (P := P) w 0 t ty e i 1 ht hi hsize g xs.length cap xs hown0 ad 1 1 [u] (by simp) hnews (by intro x hx; simp at hx; subst hx; exact h1) hroom
      refine ⟨_, w', hr, by simpa using hown', ?_, ⟨hgr, .inl rfl⟩⟩
      obtain ⟨_, hq⟩ := hown'
      rcases hq with ⟨hq, _⟩ | ⟨g', cap', cur', e1, hb', hg', hn', hc', hs', ht'⟩
      · cases hq
      · injection e1 with e1 _ e3
        injection e1 with e1
        injection e1 with e1
        subst e1 e3
        refine ⟨ho1, .inr ⟨g, cap, cur', rfl, by omega, hg', hnc, hc', hs', ?_⟩⟩
        have := congrArg (List.take xs.length) ht'
        rw [List.take_take] at this
        simpa [Nat.min_eq_left] using this
    · have holds : ∀ j x, xs[j]? = some x → w.cell? ((⟨g, 0, none⟩ : Addr).add j) = some x := World.ownsRow.cells hown0 rfl
      have hr := run_append_grow (P := P) w t ty e i z ht hi hz ⟨g, 0, none⟩ xs.length cap xs (by simp [hsize]) holds ad 1 1 [u] (by simp [hsize]) hnews (by omega) (by omega) (by rw [hby]; exact growslice_fits (by omega) (by omega))
      have hge := grownCap_ge w (xs.length + 1) cap e
      refine ⟨_, _, hr, ⟨by simp, .inr ⟨w.heap.size, grownCap w (xs.length + 1) cap e, _, by simp, by omega, heap_alloc_new w.drew _, by simpa using hge, grownCap_le_maxLen w (xs.length + 1) cap e h63, ?_, ?_⟩⟩, ?_, ⟨⟨rfl, rfl, rfl, by simp, fun k hk _ => Below.heap_alloc w.drew _ k hk⟩, .inr ⟨⟨rfl, rfl, rfl, by simp, fun k hk _ => Below.heap_alloc w.drew _ k hk⟩, w.heap.size, rfl, by omega⟩⟩⟩
      · simp [size_zeroCells, hzs]; omega
      · simp only [Array.toList_append, List.append_assoc]
        rw [← List.append_assoc, Nat.mul_one]
        exact List.take_left
      · have hlt : g < w.heap.size := lt_of_block hg
        exact ownsRow_keep hown0 (fun g' hg' => by cases hg'; exact Below.heap_alloc w.drew _ g hlt)
end Go.Proofs.YtamafdcnbcoegaaGreat
