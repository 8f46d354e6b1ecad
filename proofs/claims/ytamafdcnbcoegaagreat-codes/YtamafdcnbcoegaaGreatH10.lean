/-
  What keep leaves: plain facts on worlds between its steps.
-/
import Derived.Test.YtamafdcnbcoegaaGreatH9
namespace Go.Proofs.YtamafdcnbcoegaaGreat
open Go.RowKit

/-- All old blocks but those of E are as they were. -/
structure Far (E : Nat → Prop) (w x : World) : Prop where
  os : x.os = w.os
  tape : x.tape = w.tape
  output : x.output = w.output
  size : w.heap.size ≤ x.heap.size
  rest : ∀ k, k < w.heap.size → ¬ E k → x.heap[k]? = w.heap[k]?
theorem Far.refl (E : Nat → Prop) (w : World) : Far E w w := ⟨rfl, rfl, rfl, Nat.le_refl _, fun _ _ _ => rfl⟩
theorem Far.trans {E E' : Nat → Prop} {w x y : World} (h : Far E w x) (h' : Far E' x y) (hE : ∀ k, k < w.heap.size → E' k → E k) : Far E w y :=
  ⟨h'.os.trans h.os, h'.tape.trans h.tape, h'.output.trans h.output, Nat.le_trans h.size h'.size, fun k hk he => (h'.rest k (Nat.lt_of_lt_of_le hk h.size) (fun e => he (hE k hk e))).trans (h.rest k hk he)⟩
theorem Far.mono {E E' : Nat → Prop} {w x : World} (h : Far E w x) (hE : ∀ k, k < w.heap.size → E k → E' k) : Far E' w x :=
  ⟨h.os, h.tape, h.output, h.size, fun k hk he => h.rest k hk (fun e => he (hE k hk e))⟩
theorem Far.below {E : Nat → Prop} {w x : World} (h : Far E w x) {B : Nat} (hB : B ≤ w.heap.size) (hE : ∀ k, k < B → ¬ E k) : Below B w x :=
  ⟨h.os, h.tape, h.output, h.size, fun k hk => h.rest k (Nat.lt_of_lt_of_le hk hB) (hE k hk)⟩
theorem far_below {E : Nat → Prop} {w x : World} (h : Below w.heap.size w x) : Far E w x := ⟨h.os, h.tape, h.output, h.size, fun k hk _ => h.block k hk⟩
theorem far_grown {w x : World} {row : Option Nat} (h : w.grownBy x row) : Far (fun k => row = some k) w x := ⟨h.os, h.tape, h.output, h.size, fun k hk he => h.block k hk (fun e => he e.symm)⟩
theorem far_set (w : World) (q j : Nat) (v : Value) : Far (fun k => k = q) w (w.setCell ⟨q, j, none⟩ v) := ⟨rfl, rfl, rfl, by rw [World.size_setCell]; exact Nat.le_refl _, fun k _ he => blk_set_ne he⟩
theorem Far.own {E : Nat → Prop} {w x : World} (h : Far E w x) {e : TypeId} {v : Value} {n : Nat} {xs : List Value} (hv : w.ownsRow 0 e 1 v n xs) (hE : ∀ g, v.ownBlock = some g → ¬ E g) : x.ownsRow 0 e 1 v n xs :=
  ownsRow_keep hv (fun g hg => h.rest g (World.ownsRow.lt hv g hg).2 (hE g hg))
theorem Far.blk {E : Nat → Prop} {w x : World} (h : Far E w x) {k : Nat} {o : Obj} (hk : w.heap[k]? = some o) (hE : ¬ E k) : x.heap[k]? = some o := (h.rest k (lt_of_block hk) hE).trans hk

/-- The world's own block and the array of its holds. -/
def Us (wb : Nat) (hv : Value) (k : Nat) : Prop := k = wb ∨ hv.ownBlock = some k

/-- One hold more in the world's list. -/
structure Add (X Z : World) (wb : Nat) (as_ ss hv hv3 : Value) (xs : List Value) : Prop where
  blk : Z.heap[wb]? = some (.cells #[as_, ss, hv3] 83 (0, 0))
  row : Z.ownsRow 0 108 1 hv3 xs.length xs
  far : Far (Us wb hv) X Z
  loc : Loc X hv hv3
theorem add_of {X W : World} {wb : Nat} {as_ ss hv hv3 : Value} {xs ys : List Value} {O : Obj} (hb : X.heap[wb]? = some (.cells #[as_, ss, hv] 83 (0, 0)))
    (hr : X.ownsRow 0 108 1 hv xs.length xs) (ha : App (X.alloc O) W hv hv3) (ho : W.ownsRow 0 108 1 hv3 ys.length ys) : Add X (W.setCell ⟨wb, 2, none⟩ hv3) wb as_ ss hv hv3 ys := by
  have hal : Far (fun k => hv.ownBlock = some k) X W := by
    have h1 : Far (fun k => hv.ownBlock = some k) X (X.alloc O) := far_below ((Below.refl _ _).alloc (Nat.le_refl _) _)
    exact h1.trans (far_grown ha.grown) (fun _ _ h => h)
  have hwb : hv.ownBlock ≠ some wb := own_ne hr hb (by decide)
  have hbW := hal.blk hb hwb
  refine ⟨?_, own_set ho hbW (by decide), ?_, ?_⟩
  · have := blk_set (j := 2) (v := hv3) hbW
    simpa using this
  · exact (hal.mono (E' := Us wb hv) (fun k _ h => .inr h)).trans (far_set W wb 2 hv3) (fun k _ h => .inl h)
  · have hs : X.heap.size ≤ (X.alloc O).heap.size := by simp
    exact loc_app hs ha

/-- What stands at the head of keep's loop. -/
structure Turn (E : Nat → Prop) (w x : World) (wb pk : Nat) (as_ ss hv0 b0 hv tv bk fv : Value) (hs : List Nat) (m : Int) (t : ByteArray) (l : List UInt8) (fs : List Value) (k : Nat) : Prop where
  wbk : x.heap[wb]? = some (.cells #[as_, ss, hv] 83 (0, 0))
  row : x.ownsRow 0 108 1 hv hs.length (hs.map ptrTo)
  pb : x.heap[pk]? = some (.cells #[tv, bk, fv, .int .i64 m, .string t, .string ⟨l.toArray⟩] 110 (0, 0))
  rt : x.ownsRow 0 9 1 tv k (List.replicate k (.string t))
  rb : x.ownsRow 0 5 1 bk l.length (bv l)
  rf : x.ownsRow 0 44 1 fv fs.length fs
  fk : fs.length = k
  holds : ∀ q ∈ hs, HoldAt (Calm x.heap.size (Us wb hv) tv k bk l.length fv fs.length) x q
  frames : ∀ f ∈ fs, BAt (Calm x.heap.size (Us wb hv) tv k bk l.length fv fs.length) x f t.data.toList
  far : Far E w x
  lh : Loc w hv0 hv
  lt : Loc w (.slice none 0 0) tv
  lb : Loc w b0 bk
  lf : Loc w (.slice none 0 0) fv

theorem loc_trans {w x : World} {a b c : Value} (h : Loc w a b) (h' : Loc x b c) (hs : w.heap.size ≤ x.heap.size) : Loc w a c := by
  rcases h' with h' | h' | ⟨g, h', hg⟩
  · exact .inl h'
  · rcases h with h | h | ⟨g, h, hg⟩
    · exact .inl (h'.trans h)
    · exact .inr (.inl (h'.trans h))
    · exact .inr (.inr ⟨g, h'.trans h, hg⟩)
  · exact .inr (.inr ⟨g, h', Nat.le_trans hs hg⟩)
/-- A cell that was calm is so when the holds' array has grown. -/
theorem calm_add {X Z : World} {wb : Nat} {hv hv3 tv bk fv : Value} {nt nb nf : Nat} (hsz : X.heap.size ≤ Z.heap.size) (hl : Loc X hv hv3) (b o : Nat) (h : Calm X.heap.size (Us wb hv) tv nt bk nb fv nf b o) : Calm Z.heap.size (Us wb hv3) tv nt bk nb fv nf b o := by
  obtain ⟨h0, h1, h2⟩ := h
  refine ⟨Nat.lt_of_lt_of_le h0 hsz, fun hu => ?_, h2⟩
  rcases hu with hu | hu
  · exact h1 (.inl hu)
  · rcases hl with hl | hl | ⟨g, hl, hg⟩
    · rw [hl] at hu; cases hu
    · exact h1 (.inr (hl ▸ hu))
    · rw [hl] at hu; injection hu with hu; omega
theorem calm_kept {X Z : World} {wb : Nat} {hv tv bk fv : Value} {nt nb nf : Nat} (hf : Far (Us wb hv) X Z) (b o : Nat) (h : Calm X.heap.size (Us wb hv) tv nt bk nb fv nf b o) : Z.cell? ⟨b, o, none⟩ = X.cell? ⟨b, o, none⟩ :=
  World.cell?_of_block (hf.rest b h.1 h.2.1)

theorem replicate_snoc {α : Type} (k : Nat) (x : α) : List.replicate k x ++ [x] = List.replicate (k + 1) x := by
  rw [List.replicate_succ']

set_option maxRecDepth 10000 in
theorem Turn.next {E : Nat → Prop} {w x X Z : World} {wb pk q : Nat} {as_ ss hv0 b0 hv hv3 tv bk fv tv2 bk2 fv2 v6 : Value} {hs : List Nat} {m : Int} {t : ByteArray} {l : List UInt8} {b : UInt8} {fs : List Value} {k : Nat}
    (T : Turn E w x wb pk as_ ss hv0 b0 hv tv bk fv hs m t l fs k)
    (M : Mid x X pk q #[tv, bk, fv, .int .i64 m, .string t, .string ⟨l.toArray⟩] #[tv2, bk2, fv2, .int .i64 m, .string t, .string ⟨(l ++ [b]).toArray⟩] tv (List.replicate k (.string t)) bk l fv fs tv2 (List.replicate k (.string t) ++ [.string t]) bk2 (l ++ [b]) fv2 (fs ++ [v6]))
    (N : ∃ B, x.heap.size ≤ B ∧ (∀ g, bk2.ownBlock = some g → g < B) ∧ NewBytes B X v6 t.data.toList)
    (A : X.heap[wb]? = some (.cells #[as_, ss, hv] 83 (0, 0)) → X.ownsRow 0 108 1 hv (hs.map ptrTo).length (hs.map ptrTo) → Add X Z wb as_ ss hv hv3 (hs.map ptrTo ++ [ptrTo q]))
    (hE : ∀ k, k < w.heap.size → (Us wb hv0 k ∨ b0.ownBlock = some k) → E k) : Turn E w Z wb q as_ ss hv0 b0 hv3 tv2 bk2 fv2 (hs ++ [q]) m t (l ++ [b]) (fs ++ [v6]) (k + 1) := by
  have hT : x.ownsRow 0 9 1 tv (List.replicate k (Value.string t)).length (List.replicate k (Value.string t)) := by rw [List.length_replicate]; exact T.rt
  have hB : x.ownsRow 0 5 1 bk (bv l).length (bv l) := by rw [bv_length]; exact T.rb
  have M' := M
  rw [replicate_snoc] at M'
  have hwt : tv.ownBlock ≠ some wb := own_ne T.rt T.wbk (by decide)
  have hwb : bk.ownBlock ≠ some wb := own_ne T.rb T.wbk (by decide)
  have hwf : fv.ownBlock ≠ some wb := own_ne T.rf T.wbk (by decide)
  have hht : ∀ g, hv.ownBlock = some g → tv.ownBlock ≠ some g := fun g hg => own_ty T.row T.rt (by decide) hg
  have hhb : ∀ g, hv.ownBlock = some g → bk.ownBlock ≠ some g := fun g hg => own_ty T.row T.rb (by decide) hg
  have hhf : ∀ g, hv.ownBlock = some g → fv.ownBlock ≠ some g := fun g hg => own_ty T.row T.rf (by decide) hg
  have hXw := (M.rest wb (lt_of_block T.wbk) hwt hwb hwf).trans T.wbk
  have hXr : X.ownsRow 0 108 1 hv hs.length (hs.map ptrTo) := ownsRow_keep T.row (fun g hg => M.rest g (World.ownsRow.lt T.row g hg).2 (hht g hg) (hhb g hg) (hhf g hg))
  have A' := A hXw (by rw [List.length_map]; exact hXr)
  have hU : ∀ g, Us wb hv g → g < x.heap.size := fun g hg => hg.elim (fun e => e ▸ lt_of_block T.wbk) (fun e => (World.ownsRow.lt T.row g e).2)
  have u1 : ∀ g, Us wb hv g → tv.ownBlock ≠ some g := fun g hg => hg.elim (fun e => e ▸ hwt) (hht g)
  have u2 : ∀ g, Us wb hv g → bk.ownBlock ≠ some g := fun g hg => hg.elim (fun e => e ▸ hwb) (hhb g)
  have u3 : ∀ g, Us wb hv g → fv.ownBlock ≠ some g := fun g hg => hg.elim (fun e => e ▸ hwf) (hhf g)
  -- from x to X
  have calm1 := M.calm (Us wb hv) hT hB T.rf
  have more1 := M.more (Us wb hv) (by simp) (by simp) (by simp)
  simp only [List.length_append, List.length_replicate, List.length_cons, List.length_nil, Nat.zero_add] at calm1 more1
  have holds1 : ∀ p ∈ hs, HoldAt (Calm X.heap.size (Us wb hv) tv2 (k + 1) bk2 (l.length + 1) fv2 (fs.length + 1)) X p := fun p hp => ((T.holds p hp).keep calm1).mono more1
  have frames1 : ∀ f ∈ fs ++ [v6], BAt (Calm X.heap.size (Us wb hv) tv2 (k + 1) bk2 (l.length + 1) fv2 (fs.length + 1)) X f t.data.toList := by
    intro f hf
    rcases List.mem_append.1 hf with hf | hf
    · exact ((T.frames f hf).keep calm1).mono more1
    · rw [List.mem_singleton] at hf
      subst hf
      obtain ⟨B, hB1, hB2, hN⟩ := N
      have := M.bat (Us wb hv) hU hB1 hB2 hN
      simpa using this
  have holdq : HoldAt (Calm X.heap.size (Us wb hv) tv2 (k + 1) bk2 (l.length + 1) fv2 (fs.length + 1)) X q := by
    have := Mid.hold M' (Us wb hv) hU u1 u2 u3 (by simpa using frames1)
    simpa using this
  have hq := M.qnew
  have hqne : ¬ Us wb hv q := fun e => by have := hU q e; omega
  have hX2 : ∀ {e : TypeId} {v : Value} {n : Nat} {xs : List Value}, X.ownsRow 0 e 1 v n xs → e ≠ 108 → e ≠ 83 → Z.ownsRow 0 e 1 v n xs := by
    intro e v n xs hv1 e1 e2
    refine A'.far.own hv1 (fun g hg hu => ?_)
    rcases hu with rfl | hu
    · exact own_ne hv1 hXw e2 hg
    · exact own_ty hv1 hXr e1 hg hu
  refine ⟨A'.blk, ?_, A'.far.blk M.qb hqne, ?_, ?_, hX2 M.f2 (by decide) (by decide), by simp [T.fk], ?_, ?_, ?_, ?_, ?_, ?_, ?_⟩
  · have := A'.row
    simpa using this
  · have := hX2 M'.t2 (by decide) (by decide)
    simpa using this
  · have := hX2 M.b2 (by decide) (by decide)
    rw [bv_length] at this
    exact this
  · intro p hp
    have hp1 : HoldAt (Calm X.heap.size (Us wb hv) tv2 (k + 1) bk2 (l.length + 1) fv2 (fs.length + 1)) X p := by
      rcases List.mem_append.1 hp with hp | hp
      · exact holds1 p hp
      · rw [List.mem_singleton] at hp
        exact hp ▸ holdq
    have := (hp1.keep (calm_kept A'.far)).mono (calm_add A'.far.size A'.loc)
    simpa using this
  · intro f hf
    have := ((frames1 f hf).keep (calm_kept A'.far)).mono (calm_add A'.far.size A'.loc)
    simpa using this
  · have hxX : Far E w X := by
      refine T.far.trans (E' := fun g => tv.ownBlock = some g ∨ bk.ownBlock = some g ∨ fv.ownBlock = some g) ⟨M.os, M.tape, M.output, M.size, fun g hg he => M.rest g hg (fun e => he (.inl e)) (fun e => he (.inr (.inl e))) (fun e => he (.inr (.inr e)))⟩ ?_
      intro g hg he
      rcases he with he | he | he
      · rcases T.lt with h | h | ⟨g', h, hg'⟩
        · rw [h] at he; cases he
        · rw [h] at he; cases he
        · rw [h] at he; injection he with he; omega
      · rcases T.lb with h | h | ⟨g', h, hg'⟩
        · rw [h] at he; cases he
        · exact hE g hg (.inr (h ▸ he))
        · rw [h] at he; injection he with he; omega
      · rcases T.lf with h | h | ⟨g', h, hg'⟩
        · rw [h] at he; cases he
        · rw [h] at he; cases he
        · rw [h] at he; injection he with he; omega
    refine hxX.trans A'.far ?_
    intro g hg he
    rcases he with he | he
    · exact hE g hg (.inl (.inl he))
    · rcases T.lh with h | h | ⟨g', h, hg'⟩
      · rw [h] at he; cases he
      · exact hE g hg (.inl (.inr (h ▸ he)))
      · rw [h] at he; injection he with he; omega
  · exact loc_trans T.lh A'.loc (Nat.le_trans T.far.size M.size)
  · exact loc_trans T.lt M.lt T.far.size
  · exact loc_trans T.lb M.lb T.far.size
  · exact loc_trans T.lf M.lf T.far.size
end Go.Proofs.YtamafdcnbcoegaaGreat
