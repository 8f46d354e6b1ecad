/-
  What a step of longer leaves: cells that nothing will write, and the new hold reads as its owner wrote it.
-/
import Derived.Test.YtamafdcnbcoegaaGreatH5
namespace Go.Proofs.YtamafdcnbcoegaaGreat
open Go.RowKit

/-- Cells that no later append of the newest hold's lists writes, outside U's blocks. -/
def Calm (N : Nat) (U : Nat → Prop) (tv : Value) (nt : Nat) (bv' : Value) (nb : Nat) (fv : Value) (nf : Nat) (b o : Nat) : Prop :=
  b < N ∧ ¬ U b ∧ (tv.ownBlock = some b → o < nt) ∧ (bv'.ownBlock = some b → o < nb) ∧ (fv.ownBlock = some b → o < nf)

theorem own_cell {w : World} {e : TypeId} {v : Value} {xs : List Value} {b o : Nat} (h : w.ownsRow 0 e 1 v xs.length xs) (hb : v.ownBlock = some b) (ho : o < xs.length) : w.cell? ⟨b, o, none⟩ = xs[o]? := by
  obtain ⟨g, cap, rfl⟩ := own_shape h (by omega)
  cases hb
  exact World.ownsRow.cellAt h o (by omega)
theorem own_ty {w : World} {e e' : TypeId} {v v' : Value} {n n' b : Nat} {xs xs' : List Value} (h : w.ownsRow 0 e 1 v n xs) (h' : w.ownsRow 0 e' 1 v' n' xs') (hne : e ≠ e') (hb : v.ownBlock = some b) : v'.ownBlock ≠ some b := by
  obtain ⟨_, h2⟩ := h
  rcases h2 with ⟨rfl, _⟩ | ⟨g, cap, cur, rfl, _, hh, _⟩
  · cases hb
  · cases hb
    exact own_ne h' hh (fun e => hne e.symm)

theorem blk_cell' {w : World} {p i : Nat} {c : Array Value} {e : TypeId} {fr : Nat × Nat} (h : w.heap[p]? = some (.cells c e fr)) : w.cell? ⟨p, i, none⟩ = c[i]? := blk_cell h
/-- Bytes behind a row. -/
theorem bat_of_row {A : Nat → Nat → Prop} {w : World} {v : Value} {l : List UInt8} (h : w.ownsRow 0 5 1 v (bv l).length (bv l)) (hA : ∀ g, v.ownBlock = some g → ∀ i, i < l.length → A g i) : BAt A w v l := by
  obtain ⟨ad, cap, rfl, h1, h2, h3⟩ := (show Row (fun g => v.ownBlock = some g) w 5 v (bv l) from ⟨h, fun g hg => hg⟩).shape
  rw [bv_length] at h1 h3 ⊢
  refine ⟨ad, cap, rfl, h1, by unfold maxLen at h2; omega, fun h0 => ?_⟩
  obtain ⟨g, rfl, hg, hc⟩ := h3 h0
  exact ⟨g, 0, rfl, fun i hi => by rw [Nat.zero_add]; exact hA g rfl i hi, fun i hi => by rw [Nat.zero_add, hc i hi, bv_get hi]⟩

section
variable {w X : World} {p q : Nat} {cp cq : Array Value} {tv bv' fv tv2 bv2 fv2 : Value} {ts fs ts2 fs2 : List Value} {l l2 : List UInt8}

theorem Mid.calm (M : Mid w X p q cp cq tv ts bv' l fv fs tv2 ts2 bv2 l2 fv2 fs2) (U : Nat → Prop) (ht : w.ownsRow 0 9 1 tv ts.length ts) (hb : w.ownsRow 0 5 1 bv' (bv l).length (bv l)) (hf : w.ownsRow 0 44 1 fv fs.length fs)
    (b o : Nat) (h : Calm w.heap.size U tv ts.length bv' l.length fv fs.length b o) : X.cell? ⟨b, o, none⟩ = w.cell? ⟨b, o, none⟩ := by
  obtain ⟨h0, _, h1, h2, h3⟩ := h
  by_cases e1 : tv.ownBlock = some b
  · rw [own_cell M.t e1 (h1 e1), own_cell ht e1 (h1 e1)]
  by_cases e2 : bv'.ownBlock = some b
  · rw [own_cell M.b e2 (by rw [bv_length]; exact h2 e2), own_cell hb e2 (by rw [bv_length]; exact h2 e2)]
  by_cases e3 : fv.ownBlock = some b
  · rw [own_cell M.f e3 (h3 e3), own_cell hf e3 (h3 e3)]
  exact World.cell?_of_block (M.rest b h0 e1 e2 e3)
theorem loc_calm {v v2 : Value} {b o n n2 : Nat} (h : Loc w v v2) (hb : b < w.heap.size) (hn : n ≤ n2) (h1 : v.ownBlock = some b → o < n) : v2.ownBlock = some b → o < n2 := by
  intro e
  rcases h with h | h | ⟨g, h, hg⟩
  · rw [h] at e; cases e
  · rw [h] at e; have := h1 e; omega
  · rw [h] at e; injection e with e; omega
theorem Mid.more (M : Mid w X p q cp cq tv ts bv' l fv fs tv2 ts2 bv2 l2 fv2 fs2) (U : Nat → Prop) (n1 : ts.length ≤ ts2.length) (n2 : l.length ≤ l2.length) (n3 : fs.length ≤ fs2.length)
    (b o : Nat) (h : Calm w.heap.size U tv ts.length bv' l.length fv fs.length b o) : Calm X.heap.size U tv2 ts2.length bv2 l2.length fv2 fs2.length b o :=
  ⟨Nat.lt_of_lt_of_le h.1 M.size, h.2.1, loc_calm M.lt h.1 n1 h.2.2.1, loc_calm M.lb h.1 n2 h.2.2.2.1, loc_calm M.lf h.1 n3 h.2.2.2.2⟩
theorem loc_out {v v2 : Value} {U : Nat → Prop} (h : Loc w v v2) (hU : ∀ b, U b → b < w.heap.size) (hv : ∀ b, U b → v.ownBlock ≠ some b) : ∀ b, U b → v2.ownBlock ≠ some b := by
  intro b hb e
  rcases h with h | h | ⟨g, h, hg⟩
  · rw [h] at e; cases e
  · rw [h] at e; exact hv b hb e
  · rw [h] at e; injection e with e; have := hU b hb; omega
theorem Mid.bat (M : Mid w X p q cp cq tv ts bv' l fv fs tv2 ts2 bv2 l2 fv2 fs2) (U : Nat → Prop) (hU : ∀ b, U b → b < w.heap.size) {B : Nat} (hwB : w.heap.size ≤ B) (hB : ∀ g, bv2.ownBlock = some g → g < B) {v : Value} {l6 : List UInt8} (h : NewBytes B X v l6) :
    BAt (Calm X.heap.size U tv2 ts2.length bv2 l2.length fv2 fs2.length) X v l6 := by
  obtain ⟨g, cap, C, fr, rfl, h1, h2, h3, h4, h5⟩ := h
  refine ⟨_, cap, rfl, h2, h3, fun _ => ⟨g, 0, rfl, fun i _ => ⟨lt_of_block h4, fun hu => by have := hU g hu; omega, fun e => absurd e (own_ne M.t2 h4 (by decide)), fun e => by have := hB g e; omega, fun e => absurd e (own_ne M.f2 h4 (by decide))⟩, fun i hi => ?_⟩⟩
  rw [Nat.zero_add, blk_cell' h4]
  exact h5 i hi
/-- The new hold reads as its owner wrote it. -/
theorem Mid.hold {m : Int} {t : ByteArray} {nt : Nat} (M : Mid w X p q cp #[tv2, bv2, fv2, .int .i64 m, .string t, .string ⟨l2.toArray⟩] tv ts bv' l fv fs tv2 (List.replicate nt (.string t)) bv2 l2 fv2 fs2) (U : Nat → Prop) (hU : ∀ b, U b → b < w.heap.size)
    (u1 : ∀ b, U b → tv.ownBlock ≠ some b) (u2 : ∀ b, U b → bv'.ownBlock ≠ some b) (u3 : ∀ b, U b → fv.ownBlock ≠ some b)
    (hfs : ∀ f ∈ fs2, BAt (Calm X.heap.size U tv2 nt bv2 l2.length fv2 fs2.length) X f t.data.toList) :
    HoldAt (Calm X.heap.size U tv2 nt bv2 l2.length fv2 fs2.length) X q := by
  have hq := M.qnew
  refine ⟨tv2, bv2, fv2, nt, l2, fs2, m, t, fun i _ => ⟨lt_of_block M.qb, fun hu => by have := hU q hu; omega, fun e => absurd e (own_ne M.t2 M.qb (by decide)), fun e => absurd e (own_ne M.b2 M.qb (by decide)), fun e => absurd e (own_ne M.f2 M.qb (by decide))⟩,
    fun i _ => blk_cell M.qb, rd_of_row M.t2 fun g hg i hi => ?_, ?_, rd_of_row M.f2 fun g hg i hi => ?_, hfs⟩
  · exact ⟨(World.ownsRow.lt M.t2 g hg).2, fun hu => loc_out M.lt hU u1 g hu hg, fun _ => by simpa using hi, fun e => absurd e (own_ty M.t2 M.b2 (by decide) hg), fun e => absurd e (own_ty M.t2 M.f2 (by decide) hg)⟩
  · refine bat_of_row M.b2 fun g hg i hi => ⟨(World.ownsRow.lt M.b2 g hg).2, fun hu => loc_out M.lb hU u2 g hu hg, fun e => absurd e (own_ty M.b2 M.t2 (by decide) hg), fun _ => hi, fun e => absurd e (own_ty M.b2 M.f2 (by decide) hg)⟩
  · exact ⟨(World.ownsRow.lt M.f2 g hg).2, fun hu => loc_out M.lf hU u3 g hu hg, fun e => absurd e (own_ty M.f2 M.t2 (by decide) hg), fun e => absurd e (own_ty M.f2 M.b2 (by decide) hg), fun _ => hi⟩
end
end Go.Proofs.YtamafdcnbcoegaaGreat
