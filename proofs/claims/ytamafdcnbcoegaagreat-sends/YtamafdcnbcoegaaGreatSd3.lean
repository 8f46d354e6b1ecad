/-
  Part 3 of a proof: H4, H5, H6, H7, H8, H9, H10, H11, H12, H13, X1, D2, D3, D5, D4.
-/
import Derived.Deep.RegionHeld3
import Derived.Lib.BufferWrite
import Derived.Laws.CopyOwn
import Derived.DeepKeys
import Derived.Laws.StructEq
import Derived.Test.YtamafdcnbcoegaaGreatSd2
namespace Go.Proofs.YtamafdcnbcoegaaGreat
open Go.RowKit

theorem info9 : (Tryz.prog.info? 9).map (fun i => (i.zero, i.size, i.bytes)) = some (some (.string ⟨#[]⟩), 1, 16) := by kernel_rfl
theorem info28 : (Tryz.prog.info? 44).map (fun i => (i.zero, i.size, i.bytes)) = some (some (.slice none 0 0), 1, 24) := by kernel_rfl
theorem info49 : (Tryz.prog.info? 108).map (fun i => (i.zero, i.size, i.bytes)) = some (some (.pointer none), 1, 8) := by kernel_rfl

/-- append of one element that lies in a block of its own. -/
theorem wp_app1 {o : Oper} {a : Act} {K : Act → World → Prop} {Q : Exit → Act → World → Prop} {w : World} (s x : Operand) (t : TypeId) (ho : o.op = .call { callee := .builtin .append, args := #[s, x], argTypes := #[t, t] })
    (e : TypeId) (z : Value) (bytes : Nat) (ht : Tryz.prog.underlying t = some (.slice e)) (hinfo : (Tryz.prog.info? e).map (fun i => (i.zero, i.size, i.bytes)) = some (some z, 1, bytes)) (hzs : z.cells.size = 1)
    (v : Value) (xs : List Value) (hown : w.ownsRow 0 e 1 v xs.length xs) (hs : a.eval s = v) (ad : Addr) (u : Value) (hx : a.eval x = .slice (some ad) 1 1) (hu : w.cell? ad = some u) (h1 : u.oneCell' = true)
    (hb : (xs.length + 1) * bytes ≤ 140737488355328) (hl : xs.length + 1 ≤ 140737488355328)
    (h : ∀ v' w', w'.ownsRow 0 e 1 v' (xs ++ [u]).length (xs ++ [u]) → w'.ownsRow 0 e 1 v xs.length xs → App w w' v v' → K (a.put o.dst v') w') : o.wp Tryz.prog a w K Q := by
  obtain ⟨i0, hi, hz0, hz1, hz2⟩ := info_parts hinfo
  obtain ⟨v', w', hr, h2, h3, h4⟩ := run_app_one (P := Tryz.prog) w t o.type e i0 z bytes ht hi hz0 hz1 hz2 hzs v xs hown ad u hu h1 hb hl
  unfold Oper.wp execOp
  simp only [ho, resolve, invoke, builtin, Sem.run_bind, Sem.run_pure, Result.andThen_ok, List.map_toArray, List.map_cons, List.map_nil, hs, hx, hr]
  exact h v' w' h2 h3 h4
theorem wpList_app1 {ops : Array Oper} {rest : List Oper} {o : Oper} {a : Act} {Q : Exit → Act → World → Prop} {w : World} (hgd : o.guard = none) (s x : Operand) (t : TypeId) (ho : o.op = .call { callee := .builtin .append, args := #[s, x], argTypes := #[t, t] })
    (e : TypeId) (z : Value) (bytes : Nat) (ht : Tryz.prog.underlying t = some (.slice e)) (hinfo : (Tryz.prog.info? e).map (fun i => (i.zero, i.size, i.bytes)) = some (some z, 1, bytes)) (hzs : z.cells.size = 1)
    (v : Value) (xs : List Value) (hown : w.ownsRow 0 e 1 v xs.length xs) (hs : a.eval s = v) (ad : Addr) (u : Value) (hx : a.eval x = .slice (some ad) 1 1) (hu : w.cell? ad = some u) (h1 : u.oneCell' = true)
    (hb : (xs.length + 1) * bytes ≤ 140737488355328) (hl : xs.length + 1 ≤ 140737488355328)
    (h : ∀ v' w', w'.ownsRow 0 e 1 v' (xs ++ [u]).length (xs ++ [u]) → w'.ownsRow 0 e 1 v xs.length xs → App w w' v v' → wpList Tryz.prog ops Q rest (a.put o.dst v') w') : wpList Tryz.prog ops Q (o :: rest) a w :=
  wpList_plain hgd fun _ hK => wp_app1 s x t ho e z bytes ht hinfo hzs v xs hown hs ad u hx hu h1 hb hl fun v' w' h2 h3 h4 => hK _ _ (h v' w' h2 h3 h4)
theorem step_app1 {ops : Array Oper} {o : Oper} {a : Act} {K : Act → World → Prop} {Q : Exit → Act → World → Prop} {E : Prop} {w : World} (hgd : o.guard = none) (s x : Operand) (t : TypeId) (ho : o.op = .call { callee := .builtin .append, args := #[s, x], argTypes := #[t, t] })
    (e : TypeId) (z : Value) (bytes : Nat) (ht : Tryz.prog.underlying t = some (.slice e)) (hinfo : (Tryz.prog.info? e).map (fun i => (i.zero, i.size, i.bytes)) = some (some z, 1, bytes)) (hzs : z.cells.size = 1)
    (v : Value) (xs : List Value) (hown : w.ownsRow 0 e 1 v xs.length xs) (hs : a.eval s = v) (ad : Addr) (u : Value) (hx : a.eval x = .slice (some ad) 1 1) (hu : w.cell? ad = some u) (h1 : u.oneCell' = true)
    (hb : (xs.length + 1) * bytes ≤ 140737488355328) (hl : xs.length + 1 ≤ 140737488355328)
    (h : ∀ v' w', w'.ownsRow 0 e 1 v' (xs ++ [u]).length (xs ++ [u]) → w'.ownsRow 0 e 1 v xs.length xs → App w w' v v' → K (a.put o.dst v') w') : if Region.wanted o (yielded ops a.tmps) = true then o.wp Tryz.prog a w K Q else E := by
  rw [if_pos (by simp [Region.wanted, hgd])]
  exact wp_app1 s x t ho e z bytes ht hinfo hzs v xs hown hs ad u hx hu h1 hb hl h

theorem own_ne {w : World} {e e' : TypeId} {v : Value} {n p : Nat} {xs : List Value} {c : Array Value} {fr : Nat × Nat} (h : w.ownsRow 0 e 1 v n xs) (hb : w.heap[p]? = some (.cells c e' fr)) (hne : e ≠ e') : v.ownBlock ≠ some p := by
  intro hp
  obtain ⟨_, h2⟩ := h
  rcases h2 with ⟨rfl, _⟩ | ⟨g, cap, cur, rfl, _, hh, _⟩
  · cases hp
  · cases hp
    rw [hh] at hb
    injection hb with hb
    injection hb with _ hb _
    exact hne hb
theorem own_shape {w : World} {e : TypeId} {v : Value} {n : Nat} {xs : List Value} (h : w.ownsRow 0 e 1 v n xs) (hn : 0 < n) : ∃ g cap, v = .slice (some ⟨g, 0, none⟩) n cap := by
  obtain ⟨_, h2⟩ := h
  rcases h2 with ⟨_, h2⟩ | ⟨g, cap, cur, e, _⟩
  · omega
  · exact ⟨g, cap, e⟩
theorem app_blk {x W w1 : World} {v v' : Value} {k : Nat} {O : Obj} (h : App W w1 v v') (hW : ∀ k, k < x.heap.size → W.heap[k]? = x.heap[k]?) (hs : x.heap.size ≤ W.heap.size) (hk : x.heap[k]? = some O) (hne : v.ownBlock ≠ some k) : w1.heap[k]? = some O := by
  have hlt := lt_of_block hk
  rw [h.grown.block k (by omega) (fun e => hne e.symm), hW k hlt]; exact hk

theorem own_app {x W w1 : World} {r r' v : Value} {er e : TypeId} {nr n : Nat} {rs xs : List Value} (h : App W w1 r r') (hW : ∀ k, k < x.heap.size → W.heap[k]? = x.heap[k]?) (hs : x.heap.size ≤ W.heap.size)
    (hr : x.ownsRow 0 er 1 r nr rs) (hv : x.ownsRow 0 e 1 v n xs) (hne : er ≠ e) : w1.ownsRow 0 e 1 v n xs := by
  refine ownsRow_keep hv (fun g hg => ?_)
  have hlt := (World.ownsRow.lt hv g hg).2
  obtain ⟨_, h2⟩ := id hv
  rcases h2 with ⟨rfl, _⟩ | ⟨g', cap, cur, rfl, _, hh, _⟩
  · cases hg
  · cases hg
    have hlt' : g' < x.heap.size := lt_of_block hh
    rw [h.grown.block g' (by omega) (fun e1 => own_ne hr hh hne e1.symm), hW g' hlt']
theorem blk_set {w : World} {q j : Nat} {c : Array Value} {e : TypeId} {fr : Nat × Nat} {v : Value} (h : w.heap[q]? = some (.cells c e fr)) : (w.setCell ⟨q, j, none⟩ v).heap[q]? = some (.cells (c.setIfInBounds j v) e fr) := by
  simp [World.setCell, Array.getElem?_modify, h]
theorem blk_set_ne {w : World} {q j k : Nat} {v : Value} (h : k ≠ q) : (w.setCell ⟨q, j, none⟩ v).heap[k]? = w.heap[k]? := Below.heap_setCell w ⟨q, j, none⟩ v k h
theorem own_set {w : World} {q j : Nat} {c : Array Value} {e e' : TypeId} {fr : Nat × Nat} {u v : Value} {n : Nat} {xs : List Value} (h : w.ownsRow 0 e 1 v n xs) (hq : w.heap[q]? = some (.cells c e' fr)) (hne : e ≠ e') :
    (w.setCell ⟨q, j, none⟩ u).ownsRow 0 e 1 v n xs := ownsRow_keep h (fun g hg => blk_set_ne (fun e1 => own_ne h hq hne (by rw [hg, e1])))

/-- Where a row lies that came of another: nowhere, in its block, or in a new one. -/
def Loc (w : World) (v v2 : Value) : Prop := v2.ownBlock = none ∨ v2.ownBlock = v.ownBlock ∨ ∃ g, v2.ownBlock = some g ∧ w.heap.size ≤ g
/-- Between the steps of longer: the elder hold and the new one, their lists, and that all else is as it was. -/
structure Mid (w X : World) (p q : Nat) (cp cq : Array Value) (tv : Value) (ts : List Value) (bv' : Value) (l : List UInt8) (fv : Value) (fs : List Value) (tv2 : Value) (ts2 : List Value) (bv2 : Value) (l2 : List UInt8) (fv2 : Value) (fs2 : List Value) : Prop where
  qnew : w.heap.size ≤ q
  pb : X.heap[p]? = some (.cells cp 110 (0, 0))
  qb : X.heap[q]? = some (.cells cq 110 (0, 0))
  t : X.ownsRow 0 9 1 tv ts.length ts
  b : X.ownsRow 0 5 1 bv' (bv l).length (bv l)
  f : X.ownsRow 0 44 1 fv fs.length fs
  t2 : X.ownsRow 0 9 1 tv2 ts2.length ts2
  b2 : X.ownsRow 0 5 1 bv2 (bv l2).length (bv l2)
  f2 : X.ownsRow 0 44 1 fv2 fs2.length fs2
  lt : Loc w tv tv2
  lb : Loc w bv' bv2
  lf : Loc w fv fv2
  os : X.os = w.os
  tape : X.tape = w.tape
  output : X.output = w.output
  size : w.heap.size ≤ X.heap.size
  rest : ∀ k, k < w.heap.size → tv.ownBlock ≠ some k → bv'.ownBlock ≠ some k → fv.ownBlock ≠ some k → X.heap[k]? = w.heap[k]?

theorem Mid.below {w X X' : World} {p q : Nat} {cp cq : Array Value} {tv bv' fv tv2 bv2 fv2 : Value} {ts fs ts2 fs2 : List Value} {l l2 : List UInt8} (M : Mid w X p q cp cq tv ts bv' l fv fs tv2 ts2 bv2 l2 fv2 fs2) (h : Below X.heap.size X X') :
    Mid w X' p q cp cq tv ts bv' l fv fs tv2 ts2 bv2 l2 fv2 fs2 := by
  have hk : ∀ {e : TypeId} {v : Value} {n : Nat} {xs : List Value}, X.ownsRow 0 e 1 v n xs → X'.ownsRow 0 e 1 v n xs := fun r => ownsRow_keep r (fun g hg => h.block g (World.ownsRow.lt r g hg).2)
  exact ⟨M.qnew, (h.block p (lt_of_block M.pb)).trans M.pb, (h.block q (lt_of_block M.qb)).trans M.qb, hk M.t, hk M.b, hk M.f, hk M.t2, hk M.b2, hk M.f2, M.lt, M.lb, M.lf, h.os.trans M.os, h.tape.trans M.tape, h.output.trans M.output,
    Nat.le_trans M.size h.size, fun k hk0 h1 h2 h3 => (h.block k (Nat.lt_of_lt_of_le hk0 M.size)).trans (M.rest k hk0 h1 h2 h3)⟩
theorem Mid.set {w X : World} {p q j : Nat} {cp cq : Array Value} {tv bv' fv tv2 bv2 fv2 : Value} {ts fs ts2 fs2 : List Value} {l l2 : List UInt8} (M : Mid w X p q cp cq tv ts bv' l fv fs tv2 ts2 bv2 l2 fv2 fs2) (hpq : p ≠ q) (v : Value) :
    Mid w (X.setCell ⟨q, j, none⟩ v) p q cp (cq.setIfInBounds j v) tv ts bv' l fv fs tv2 ts2 bv2 l2 fv2 fs2 :=
  ⟨M.qnew, (blk_set_ne hpq).trans M.pb, blk_set M.qb, own_set M.t M.qb (by decide), own_set M.b M.qb (by decide), own_set M.f M.qb (by decide), own_set M.t2 M.qb (by decide), own_set M.b2 M.qb (by decide), own_set M.f2 M.qb (by decide), M.lt, M.lb, M.lf, M.os, M.tape, M.output,
    by rw [World.size_setCell]; exact M.size, fun k hk0 h1 h2 h3 => (blk_set_ne (by have := M.qnew; omega)).trans (M.rest k hk0 h1 h2 h3)⟩
theorem loc_app {w Y W : World} {v v1 : Value} (hs : w.heap.size ≤ Y.heap.size) (ha : App Y W v v1) : Loc w v v1 := by
  rcases ha.where_ with h | ⟨_, g, h, hg⟩
  · exact .inr (.inl h)
  · exact .inr (.inr ⟨g, h, Nat.le_trans hs hg⟩)
theorem below_ad {B : Nat} {w x : World} {O : Obj} (h : Below B w x) (hB : B ≤ x.heap.size) : Below B w (x.alloc O).drew :=
  h.trans ⟨rfl, rfl, rfl, by simp, fun k hk => Below.heap_alloc x O k (Nat.lt_of_lt_of_le hk hB)⟩
theorem loc_nil (w : World) (v : Value) : Loc w v (.slice none 0 0) := .inl rfl
theorem mid_text {w Y W : World} {p q : Nat} {cp cq : Array Value} {tv bv' fv v1 : Value} {ts fs ts2 : List Value} {l : List UInt8} (hY : Below w.heap.size w Y) (ha : App Y W tv v1) (hq : w.heap.size ≤ q)
    (hp1 : W.heap[p]? = some (.cells cp 110 (0, 0))) (hq1 : W.heap[q]? = some (.cells cq 110 (0, 0))) (ht : w.ownsRow 0 9 1 tv ts.length ts) (hb : w.ownsRow 0 5 1 bv' (bv l).length (bv l)) (hf : w.ownsRow 0 44 1 fv fs.length fs)
    (ho : W.ownsRow 0 9 1 v1 ts2.length ts2) (ho' : W.ownsRow 0 9 1 tv ts.length ts) : Mid w W p q cp cq tv ts bv' l fv fs v1 ts2 (.slice none 0 0) [] (.slice none 0 0) [] :=
  ⟨hq, hp1, hq1, ho', own_app ha (fun k hk => hY.block k hk) hY.size ht hb (by decide), own_app ha (fun k hk => hY.block k hk) hY.size ht hf (by decide), ho, World.ownsRow_nil _ _ _ _, World.ownsRow_nil _ _ _ _, loc_app hY.size ha, loc_nil _ _, loc_nil _ _,
    ha.grown.os.trans hY.os, ha.grown.tape.trans hY.tape, ha.grown.output.trans hY.output, Nat.le_trans hY.size ha.grown.size,
    fun k hk h1 _ _ => (ha.grown.block k (Nat.lt_of_lt_of_le hk hY.size) (fun e => h1 e.symm)).trans (hY.block k hk)⟩
theorem Mid.bytes {w X W : World} {p q : Nat} {cp cq : Array Value} {tv bv' fv tv2 bv2 fv2 v1 : Value} {ts fs ts2 fs2 : List Value} {l l2 l3 : List UInt8} (M : Mid w X p q cp cq tv ts bv' l fv fs tv2 ts2 bv2 l2 fv2 fs2) (ha : App X W bv' v1)
    (ho : W.ownsRow 0 5 1 v1 (bv l3).length (bv l3)) (ho' : W.ownsRow 0 5 1 bv' (bv l).length (bv l)) : Mid w W p q cp cq tv ts bv' l fv fs tv2 ts2 v1 l3 fv2 fs2 :=
  ⟨M.qnew, app_blk ha (fun _ _ => rfl) (Nat.le_refl _) M.pb (own_ne M.b M.pb (by decide)), app_blk ha (fun _ _ => rfl) (Nat.le_refl _) M.qb (own_ne M.b M.qb (by decide)),
    own_app ha (fun _ _ => rfl) (Nat.le_refl _) M.b M.t (by decide), ho', own_app ha (fun _ _ => rfl) (Nat.le_refl _) M.b M.f (by decide), own_app ha (fun _ _ => rfl) (Nat.le_refl _) M.b M.t2 (by decide), ho, own_app ha (fun _ _ => rfl) (Nat.le_refl _) M.b M.f2 (by decide),
    M.lt, loc_app M.size ha, M.lf, ha.grown.os.trans M.os, ha.grown.tape.trans M.tape, ha.grown.output.trans M.output, Nat.le_trans M.size ha.grown.size,
    fun k hk h1 h2 h3 => (ha.grown.block k (Nat.lt_of_lt_of_le hk M.size) (fun e => h2 e.symm)).trans (M.rest k hk h1 h2 h3)⟩
theorem Mid.frames {w X W : World} {p q : Nat} {cp cq : Array Value} {tv bv' fv tv2 bv2 fv2 v1 : Value} {ts fs ts2 fs2 fs3 : List Value} {l l2 : List UInt8} (M : Mid w X p q cp cq tv ts bv' l fv fs tv2 ts2 bv2 l2 fv2 fs2) (ha : App X W fv v1)
    (ho : W.ownsRow 0 44 1 v1 fs3.length fs3) (ho' : W.ownsRow 0 44 1 fv fs.length fs) : Mid w W p q cp cq tv ts bv' l fv fs tv2 ts2 bv2 l2 v1 fs3 :=
  ⟨M.qnew, app_blk ha (fun _ _ => rfl) (Nat.le_refl _) M.pb (own_ne M.f M.pb (by decide)), app_blk ha (fun _ _ => rfl) (Nat.le_refl _) M.qb (own_ne M.f M.qb (by decide)),
    own_app ha (fun _ _ => rfl) (Nat.le_refl _) M.f M.t (by decide), own_app ha (fun _ _ => rfl) (Nat.le_refl _) M.f M.b (by decide), ho', own_app ha (fun _ _ => rfl) (Nat.le_refl _) M.f M.t2 (by decide), own_app ha (fun _ _ => rfl) (Nat.le_refl _) M.f M.b2 (by decide), ho,
    M.lt, M.lb, loc_app M.size ha, ha.grown.os.trans M.os, ha.grown.tape.trans M.tape, ha.grown.output.trans M.output, Nat.le_trans M.size ha.grown.size,
    fun k hk h1 h2 h3 => (ha.grown.block k (Nat.lt_of_lt_of_le hk M.size) (fun e => h3 e.symm)).trans (M.rest k hk h1 h2 h3)⟩

/-- Bytes in a new block. -/
def NewBytes (B : Nat) (w : World) (v : Value) (l : List UInt8) : Prop :=
  ∃ g cap C fr, v = .slice (some ⟨g, 0, none⟩) l.length cap ∧ B ≤ g ∧ l.length ≤ cap ∧ l.length ≤ 9223372036854775807 ∧ w.heap[g]? = some (.cells C 5 fr) ∧ ∀ i, i < l.length → C[i]? = some (.int .u8 (l.getD i 0).toNat)
theorem NewBytes.keep {B : Nat} {w w' : World} {v : Value} {l : List UInt8} (h : NewBytes B w v l) (hk : ∀ g O, w.heap[g]? = some O → B ≤ g → (∃ C fr, O = .cells C 5 fr) → w'.heap[g]? = some O) : NewBytes B w' v l := by
  obtain ⟨g, cap, C, fr, e, h1, h2, h3, h4, h5⟩ := h
  exact ⟨g, cap, C, fr, e, h1, h2, h3, hk g _ h4 h1 ⟨C, fr, rfl⟩, h5⟩
theorem NewBytes.mono {B B' : Nat} {w : World} {v : Value} {l : List UInt8} (h : NewBytes B w v l) (hB : B' ≤ B) : NewBytes B' w v l := by
  obtain ⟨g, cap, C, fr, e, h1, h2⟩ := h
  exact ⟨g, cap, C, fr, e, Nat.le_trans hB h1, h2⟩
theorem NewBytes.set {B : Nat} {w : World} {u v : Value} {l : List UInt8} {q j : Nat} {cq : Array Value} (h : NewBytes B w u l) (hq : w.heap[q]? = some (.cells cq 110 (0, 0))) : NewBytes B (w.setCell ⟨q, j, none⟩ v) u l := by
  refine h.keep (fun g O hg _ hO => ?_)
  obtain ⟨C, fr, rfl⟩ := hO
  have hne : g ≠ q := by
    rintro rfl
    rw [hg] at hq
    injection hq with hq
    injection hq with _ hq _
    exact absurd hq (by decide)
  exact (blk_set_ne hne).trans hg
theorem NewBytes.app {B : Nat} {x W w1 : World} {u r r' : Value} {l : List UInt8} {nr : Nat} {rs : List Value} (h : NewBytes B x u l) (ha : App W w1 r r') (hW : ∀ k, k < x.heap.size → W.heap[k]? = x.heap[k]?) (hs : x.heap.size ≤ W.heap.size) (hr : x.ownsRow 0 44 1 r nr rs) : NewBytes B w1 u l := by
  refine h.keep (fun g O hg _ hO => ?_)
  obtain ⟨C, fr, rfl⟩ := hO
  exact app_blk ha hW hs hg (own_ne hr hg (by decide))
theorem conv_new_bytes (w : World) (s : ByteArray) (hs : s.size ≤ 140737488355328) :
    ∃ g cap w', (convert 9 44 (.string s)).run Tryz.prog w = .ok (.slice (some ⟨g, 0, none⟩) s.size cap) w' ∧ NewBytes w.heap.size w' (.slice (some ⟨g, 0, none⟩) s.size cap) s.data.toList ∧ Below w.heap.size w w' := by
  refine ⟨_, _, _, run_bytes_of_string w 9 44 5 s Tryz.underlying9 Tryz.underlying44 Tryz.underlying5, ?_, ?_⟩
  · have hl : s.data.toList.length = s.size := by simp
    refine ⟨w.heap.size, _, bytesRow s (grownCap w s.size 0 5), ((bytesRow s (grownCap w s.size 0 5)).size, (bytesRow s (grownCap w s.size 0 5)).size + 1), by rw [hl], Nat.le_refl _, by rw [hl]; exact grownCap_ge w s.size 0 5, by omega, ?_, fun i hi => ?_⟩
    · show (w.heap.push _)[w.heap.size]? = _
      simp
    rw [hl] at hi
    have hi2 : i < s.data.size := hi
    unfold bytesRow
    rw [Array.getElem?_append_left (by simpa using hi2)]
    have he : s.data[i]? = some s.data[i] := Array.getElem?_eq_getElem hi2
    simp [he]
  · exact ((Below.refl _ _).drew).alloc (Nat.le_refl _) _
theorem ba_app (l : List UInt8) (x : Int) : (⟨l.toArray⟩ : ByteArray) ++ s1 x = ⟨(l ++ [UInt8.ofNat (x.toNat % 256)]).toArray⟩ := by
  apply ByteArray.ext
  simp [s1]

/-- A hold that has just been made. -/
def NewHold (m : Int) (t : ByteArray) (B : Nat) (v : Value) (w : World) : Prop := ∃ q, v = .pointer (some ⟨q, 0, none⟩) ∧ B ≤ q ∧ w.heap[q]? = some (.cells #[.slice none 0 0, .slice none 0 0, .slice none 0 0, .int .i64 m, .string t, .string ⟨#[]⟩] 110 (0, 0))
theorem stable_newHold (m : Int) (t : ByteArray) (B : Nat) : Stable (NewHold m t B) := by
  rintro v w w' ⟨q, rfl, hB, h⟩ hb
  exact ⟨q, rfl, hB, by rw [hb.block q (lt_of_block h)]; exact h⟩

set_option maxRecDepth 100000 in
set_option maxHeartbeats 4000000 in
theorem longer_any (p : Nat) (w : World) (tv bv' fv : Value) (nt : Nat) (l : List UInt8) (fs : List Value) (m : Int) (t : ByteArray)
    (hblk : w.heap[p]? = some (.cells #[tv, bv', fv, .int .i64 m, .string t, .string ⟨l.toArray⟩] 110 (0, 0)))
    (ht : w.ownsRow 0 9 1 tv nt (List.replicate nt (.string t))) (hbb : w.ownsRow 0 5 1 bv' l.length (bv l)) (hf : w.ownsRow 0 44 1 fv fs.length fs)
    (z1 : nt ≤ 1000) (z2 : l.length ≤ 140737488354000) (z3 : fs.length ≤ 1000) (z4 : t.size ≤ 3) :
    Calls Tryz.prog 116 #[.pointer (some ⟨p, 0, none⟩)] w fun r w' => ∃ (q : Nat) (tv2 bv2 fv2 v6 : Value) (b : UInt8), r = .returned (ptrTo q) ∧
      Mid w w' p q #[tv, bv', fv, .int .i64 m, .string t, .string ⟨l.toArray⟩] #[tv2, bv2, fv2, .int .i64 m, .string t, .string ⟨(l ++ [b]).toArray⟩] tv (List.replicate nt (.string t)) bv' l fv fs tv2 (List.replicate nt (.string t) ++ [.string t]) bv2 (l ++ [b]) fv2 (fs ++ [v6]) ∧
      ∃ B, w.heap.size ≤ B ∧ (∀ g, bv2.ownBlock = some g → g < B) ∧ NewBytes B w' v6 t.data.toList := by
  have c0 := blk_cell (i := 0) hblk
  have c1 := blk_cell (i := 1) hblk
  have c2 := blk_cell (i := 2) hblk
  have c3 := blk_cell (i := 3) hblk
  have c4 := blk_cell (i := 4) hblk
  have c5 := blk_cell (i := 5) hblk
  simp at c0 c1 c2 c3 c4 c5
  have hpl := lt_of_block hblk
  have HB := hide hblk
  have HT := hide ht
  have HBB := hide hbb
  have HF := hide hf
  clear hblk ht hbb hf
  go_enter Tryz.func116, Tryz.ntmps116
  go_upto_region 1 with fail
  refine wp_region_frame (by kernel_rfl)
    [fun v _ => v = ptrTo p, fun v _ => v = ptrTo p, fun v _ => v = .pointer (some ⟨p, 3, none⟩), fun v _ => v = .int .i64 m, fun v _ => v = ptrTo p, fun v _ => v = ptrTo p, fun v _ => v = .pointer (some ⟨p, 4, none⟩), fun v _ => v = .string t,
     fun v _ => v = .agg #[.slice none 0 0, .slice none 0 0, .slice none 0 0, .int .i64 m, .string t, .string ⟨#[]⟩], NewHold m t w.heap.size, NewHold m t w.heap.size]
    [[(0, none)], [(6, some 0)], [(7, some 1)], [(8, some 2)], [(0, none)], [(10, some 4)], [(11, some 5)], [(12, some 6)], [(9, some 3), (13, some 7)], [(14, some 8)], [(15, some 9)]] [some 6, some 7, some 8, some 9, some 10, some 11, some 12, some 13, some 14, some 15, some 3] [false, false, false, true, false, false, true, true, true, true, true, true, true, true, true, true, false, false, false, false, false, false, false, false, false, false, false, false, false, false, false, false, false, false, false, false, false, false, false, false, false, false, false, false, false, false, false, false, false, false, false, false, false, false, false, false, false, false, false, false, false, false, false, false, false, false, false, false, false, false, false, false, false, false, false, false]
    (by kernel_rfl) (by kernel_rfl) (by kernel_rfl) (by kernel_rfl) ?_ ?_ ?_
  · repeat' (first | exact stable_eq _ | exact stable_newHold _ _ _ | exact trivial | apply And.intro)
  · refine ⟨?_, ?_, ?_, ?_, ?_, ?_, ?_, ?_, ?_, ?_, ?_, trivial⟩
    all_goals
      intro a x hb hf
      have zx := hb.size
      have y3 : x.cell? ⟨p, 3, none⟩ = some (.int .i64 m) := (hb.cell (p := ⟨p, 3, none⟩) hpl).trans c3
      have y4 : x.cell? ⟨p, 4, none⟩ = some (.string t) := (hb.cell (p := ⟨p, 4, none⟩) hpl).trans c4
      clear hb
      simp only [PlanFacts, List.getD_cons_zero, List.getD_cons_succ, Array.getD_eq_getD_getElem?, ptrTo] at hf
      try simp at hf
      try go_simp
      try exact Below.refl _ _
    all_goals first
      | exact ⟨rfl, Below.refl _ _⟩
      | exact ⟨_, rfl, Below.refl _ _, hf⟩
      | exact ⟨_, rfl, (Below.refl _ _).alloc (Nat.le_refl _) _, _, rfl, zx, by show (x.heap.push _)[x.heap.size]? = _; simp⟩
  · intro f x hb hwd
    simp only [AllWords] at hwd
    obtain ⟨_, _, _, _, _, _, _, _, _, _, ⟨q, hf3, hq, hqb⟩, _⟩ := hwd
    have HBx := hide ((hb.block p hpl).trans (unhide HB))
    have hkeep : ∀ (v : Value) (e : TypeId) (n : Nat) (xs : List Value), w.ownsRow 0 e 1 v n xs → x.ownsRow 0 e 1 v n xs := fun v e n xs h => ownsRow_keep h (fun g hg => hb.block g (World.ownsRow.lt h g hg).2)
    have HTx : Hid (x.ownsRow 0 9 1 tv (List.replicate nt (Value.string t)).length (List.replicate nt (Value.string t))) := by
      have := hkeep _ _ _ _ (unhide HT)
      rw [List.length_replicate]; exact this
    have HBBx := hide (hkeep _ _ _ _ (unhide HBB))
    have HFx := hide (hkeep _ _ _ _ (unhide HF))
    have BX := hide hb
    have y0 := (hb.cell (p := ⟨p, 0, none⟩) hpl).trans c0
    have y4 := (hb.cell (p := ⟨p, 4, none⟩) hpl).trans c4
    have hqp : ¬ q = p := by omega
    have q0 := blk_cell (i := 0) hqb
    have qf0 := blk_free (i := 0) hqb
    simp at q0
    have HQ := hide hqb
    clear hb hkeep c0 c1 c2 c3 c4 c5 hqb
    simp only [mergeT, hf3]
    go_upto_region 2 with fail
    go_region_held3 (fun w' => w'.cell? ⟨p, 0, none⟩ = some tv ∧ w'.cell? ⟨p, 4, none⟩ = some (.string t))
      (go_keep)
      ((refine step_app1 rfl (.tmp 20) (.tmp 25) 45 rfl 9 (.string ⟨#[]⟩) 16 Tryz.underlying45 info9 rfl tv (List.replicate nt (.string t)) (World.ownsRow.alloc (unhide HTx) _) rfl ⟨x.heap.size, 0, none⟩ (.string t) rfl (by simp) rfl (by rw [List.length_replicate]; omega) (by rw [List.length_replicate]; omega) ?_; intro v1 w1 hown1 hold1 happ1; obtain ⟨g1, cap1, hv1⟩ := own_shape hown1 (by simp); rw [show (List.replicate nt (Value.string t) ++ [Value.string t]).length = nt + 1 by simp] at hv1; subst hv1; have hp1 := app_blk happ1 (fun k hk => Below.heap_alloc _ _ _ hk) (by simp) (unhide HBx) (own_ne (unhide HTx) (unhide HBx) (by decide)); have hq1 := app_blk happ1 (fun k hk => Below.heap_alloc _ _ _ hk) (by simp) (unhide HQ) (own_ne (unhide HTx) (unhide HQ) (by decide)); have yy0 := blk_cell (i := 0) hp1; have yy4 := blk_cell (i := 4) hp1; have qq0 := blk_cell (i := 0) hq1; have qqf := blk_free (i := 0) hq1; simp at yy0 yy4 qq0; have HP1 := hide hp1; have HQ1 := hide hq1; have HO1 := hide hown1; have HO1' := hide hold1; have HA1 := hide happ1; clear hp1 hq1 hown1 hold1 happ1))
    go_upto_region 3 with fail
    refine wp_world (fun X => Mid w X p q #[tv, bv', fv, .int .i64 m, .string t, .string ⟨l.toArray⟩] #[.slice (some ⟨g1, 0, none⟩) (nt + 1) cap1, .slice none 0 0, .slice none 0 0, .int .i64 m, .string t, .string ⟨#[]⟩]
      tv (List.replicate nt (.string t)) bv' l fv fs (.slice (some ⟨g1, 0, none⟩) (nt + 1) cap1) (List.replicate nt (.string t) ++ [.string t]) (.slice none 0 0) [] (.slice none 0 0) []) ?_ ?_
    · exact (mid_text (below_ad (unhide BX) (unhide BX).size) (unhide HA1) hq (unhide HP1) (unhide HQ1) (by rw [List.length_replicate]; exact unhide HT) (by rw [bv_length]; exact unhide HBB) (unhide HF) (unhide HO1) (unhide HO1')).set (j := 0) (fun e => hqp e.symm) _
    · intro X M
      have hpq : p ≠ q := fun e => hqp e.symm
      clear HA1 HO1 HO1' HP1 HQ1 HTx HBBx HFx HBx HQ BX y0 y4 yy0 yy4 qq0 qqf q0 qf0 HB HT HBB HF
      generalize hcq : (#[.slice (some ⟨g1, 0, none⟩) (nt + 1) cap1, .slice none 0 0, .slice none 0 0, .int .i64 m, .string t, .string ⟨#[]⟩] : Array Value) = cq at M
      have hsz : cq.size = 6 := by rw [← hcq]; rfl
      have d1 := blk_cell (i := 1) M.pb
      have d3 := blk_cell (i := 3) M.pb
      simp at d1 d3
      obtain ⟨ba, bc, hbv, _, hbc, _⟩ := Row.shape (A := fun _ => True) ⟨M.b, fun _ _ => trivial⟩
      rw [bv_length] at hbv
      subst hbv
      have MM := hide M
      clear M
      go_quiet (first | (go_at_call 167; refine Calls.quiet_of_same (sign_any _ _ _)))
      go_upto_region 4 with fail
      refine wp_world (fun X2 => Mid w X2 p q #[tv, .slice ba l.length bc, fv, .int .i64 m, .string t, .string ⟨l.toArray⟩] cq
        tv (List.replicate nt (.string t)) (.slice ba l.length bc) l fv fs (.slice (some ⟨g1, 0, none⟩) (nt + 1) cap1) (List.replicate nt (.string t) ++ [.string t]) (.slice none 0 0) [] (.slice none 0 0) []) ?_ ?_
      · exact (unhide MM).below ⟨rfl, rfl, rfl, Nat.le_refl _, fun _ _ => rfl⟩
      clear d1 d3 MM
      generalize hsb : signV m l.length = sb
      have hsr := signV_range m l.length
      rw [hsb] at hsr
      intro X2 M2
      have d1 := blk_cell (i := 1) M2.pb
      simp at d1
      have MM := hide M2
      clear M2
      go_upto_region 5 with (at_builtin; (refine wpList_app1 rfl (.tmp 43) (.tmp 45) 44 rfl 5 (.int .u8 0) 1 Tryz.underlying44 info5 rfl (.slice ba l.length bc) (bv l) (World.ownsRow.alloc (unhide MM).b _) rfl ⟨X2.heap.size, 0, none⟩ (.int .u8 sb) rfl (by simp) rfl (by rw [bv_length]; omega) (by rw [bv_length]; omega) ?_; intro v2 w2 hown2 hold2 happ2; rw [← bv_byte hsr.1 hsr.2, ← bv_append] at hown2; obtain ⟨g2, cap2, hv2⟩ := own_shape hown2 (by rw [bv_length]; simp); rw [show (bv (l ++ [UInt8.ofNat (sb.toNat % 256)])).length = l.length + 1 by simp [bv_length]] at hv2; subst hv2; have M3 := ((unhide MM).below ((Below.refl X2.heap.size X2).alloc (Nat.le_refl _) _)).bytes happ2 hown2 hold2; have qq1 := blk_free (i := 1) M3.qb; have qc1 := blk_cell (i := 1) M3.qb; rw [← hcq] at qc1; simp at qc1; have MM3 := hide M3; clear hown2 hold2 happ2 M3))
      refine wp_world (fun X4 => Mid w X4 p q #[tv, .slice ba l.length bc, fv, .int .i64 m, .string t, .string ⟨l.toArray⟩] (cq.setIfInBounds 1 (.slice (some ⟨g2, 0, none⟩) (l.length + 1) cap2))
        tv (List.replicate nt (.string t)) (.slice ba l.length bc) l fv fs (.slice (some ⟨g1, 0, none⟩) (nt + 1) cap1) (List.replicate nt (.string t) ++ [.string t]) (.slice (some ⟨g2, 0, none⟩) (l.length + 1) cap2) (l ++ [UInt8.ofNat (sb.toNat % 256)]) (.slice none 0 0) []) ?_ ?_
      · exact (unhide MM3).set hpq _
      generalize hcq2 : cq.setIfInBounds 1 (.slice (some ⟨g2, 0, none⟩) (l.length + 1) cap2) = cq2
      have hsz2 : cq2.size = 6 := by rw [← hcq2]; simp [hsz]
      clear d1 MM MM3 qq1 qc1
      have zl : l.length + 1 ≤ 9223372036854775807 := by omega
      have zs : s1 sb = s1 sb := rfl
      have z1s := s1_size sb
      have ck := fun v w => conv_one hsr.1 hsr.2 (v := v) (w := w)
      clear zs
      intro X4 M4
      have hpl4 := lt_of_block M4.pb
      have hql4 := lt_of_block M4.qb
      have d5 := blk_cell (i := 5) M4.pb
      simp at d5
      have MM4 := hide M4
      clear M4
      refine wp_region_last (by kernel_rfl)
        [fun v _ => v = ptrTo q, fun v _ => v = ptrTo p, fun v _ => v = ptrTo p, fun v _ => v = .pointer (some ⟨p, 5, none⟩), fun v _ => v = .string ⟨l.toArray⟩, fun v _ => v = .int .u8 sb, OneB sb, fun v _ => v = .string (s1 sb), fun v _ => v = .string (⟨l.toArray⟩ ++ s1 sb), fun v _ => v = ptrTo q, fun v _ => v = .pointer (some ⟨q, 5, none⟩), fun _ _ => True]
        [[(3, none)], [(0, none)], [(50, some 1)], [(51, some 2)], [(52, some 3)], [(4, none)], [(54, some 5)], [(55, some 6)], [(53, some 4), (56, some 7)], [(49, some 0)], [(58, some 9)], [(59, some 10), (57, some 8)]] [some 49, some 50, some 51, some 52, some 53, some 54, some 55, some 56, some 57, some 58, some 59, none] [false, false, false, false, false, false, false, false, false, false, false, false, false, false, false, false, false, false, false, false, false, false, false, false, false, false, false, false, false, false, false, false, false, false, false, false, false, false, false, false, false, false, false, false, false, false, false, false, false, true, true, true, true, true, true, true, true, true, true, true, false, false, false, false, false, false, false, false, false, false, false, false, false, false, false, false]
        11 _ rfl rfl (by kernel_rfl) (by kernel_rfl) (by kernel_rfl) (by kernel_rfl) (by kernel_rfl) (by kernel_rfl) ?_ ?_ ?_
      · repeat' (first | exact stable_eq _ | exact stable_oneB _ | exact stable_true | exact trivial | apply And.intro)
      · refine ⟨?_, ?_, ?_, ?_, ?_, ?_, ?_, ?_, ?_, ?_, ?_, trivial⟩
        all_goals
          intro a x hb hf
          have y5 : x.cell? ⟨p, 5, none⟩ = some (.string ⟨l.toArray⟩) := (hb.cell (p := ⟨p, 5, none⟩) hpl4).trans d5
          clear hb
          simp only [PlanFacts, List.getD_cons_zero, List.getD_cons_succ, Array.getD_eq_getD_getElem?, ptrTo] at hf
          try simp at hf
          try go_simp
          try exact Below.refl _ _
        all_goals first
          | exact ⟨rfl, Below.refl _ _⟩
          | exact ⟨_, rfl, (Below.refl _ _).alloc (Nat.le_refl _) _, _, rfl, by simp⟩
          | (rw [if_neg (by omega)]; go_simp; exact Below.refl _ _)
      · intro f5 x5 hb hwd
        simp only [AllWords, List.take] at hwd
        obtain ⟨_, _, _, _, _, _, _, _, hf57, _, hf59, _⟩ := hwd
        have M5 := (unhide MM4).below (hb.mono (Nat.le_refl _))
        have qq5 := blk_free (i := 5) M5.qb
        have qc5 := blk_cell (i := 5) M5.qb
        rw [← hcq2, ← hcq] at qc5
        simp at qc5
        have MM5 := hide M5
        clear M5 hb
        simp only [mergeT, hf57, hf59]
        go_simp
        go_upto_region 6 with fail
        refine wp_world (fun X6 => Mid w X6 p q #[tv, .slice ba l.length bc, fv, .int .i64 m, .string t, .string ⟨l.toArray⟩] (cq2.setIfInBounds 5 (.string (⟨l.toArray⟩ ++ s1 sb)))
          tv (List.replicate nt (.string t)) (.slice ba l.length bc) l fv fs (.slice (some ⟨g1, 0, none⟩) (nt + 1) cap1) (List.replicate nt (.string t) ++ [.string t]) (.slice (some ⟨g2, 0, none⟩) (l.length + 1) cap2) (l ++ [UInt8.ofNat (sb.toNat % 256)]) (.slice none 0 0) []) ?_ ?_
        · exact (unhide MM5).set hpq _
        rw [← hcq2, ← hcq]
        clear hcq hcq2 hsz hsz2 cq cq2 qc5 qq5 MM5 MM4 d5 hpl4 hql4 hf57 hf59
        intro X6 M6
        have d4 := blk_cell (i := 4) M6.pb
        simp at d4
        obtain ⟨g6, c6, Y6, hconv, hnb, hbY⟩ := conv_new_bytes X6 t (by omega)
        have hzX := M6.size
        have M7 := M6.below (hbY.mono (Nat.le_refl _))
        have e2 := blk_cell (i := 2) M7.pb
        simp at e2
        have hqn := M6.qnew
        have HB2 := hide (fun g hg => (World.ownsRow.lt M6.b2 g hg).2)
        have MM7 := hide M7
        have HNB := hide hnb
        clear M6 M7 hnb hbY
        go_upto_region 7 with fail
        go_upto_region 8 with (at_builtin; (refine wpList_app1 rfl (.tmp 69) (.tmp 71) 38 rfl 44 (.slice none 0 0) 24 Tryz.underlying38 info28 rfl fv fs (World.ownsRow.alloc (unhide MM7).f _) rfl ⟨Y6.heap.size, 0, none⟩ (.slice (some ⟨g6, 0, none⟩) t.size c6) rfl (by simp) rfl (by omega) (by omega) ?_; intro v7 w7 hown7 hold7 happ7; obtain ⟨g7, cap7, hv7⟩ := own_shape hown7 (by simp); rw [show (fs ++ [Value.slice (some ⟨g6, 0, none⟩) t.size c6]).length = fs.length + 1 by simp] at hv7; subst hv7; have M8 := ((unhide MM7).below ((Below.refl Y6.heap.size Y6).alloc (Nat.le_refl _) _)).frames happ7 hown7 hold7; have N8 := ((unhide HNB).app happ7 (fun k hk => Below.heap_alloc _ _ _ hk) (by simp) (unhide MM7).f); have qq2 := blk_free (i := 2) M8.qb; have qc2 := blk_cell (i := 2) M8.qb; simp at qc2; have MM8 := hide M8; have HN8 := hide N8; clear hown7 hold7 happ7 M8 N8))
        go_wp2
        go_ret
        refine ⟨q, .slice (some ⟨g1, 0, none⟩) (nt + 1) cap1, .slice (some ⟨g2, 0, none⟩) (l.length + 1) cap2, .slice (some ⟨g7, 0, none⟩) (fs.length + 1) cap7, .slice (some ⟨g6, 0, none⟩) t.size c6, UInt8.ofNat (sb.toNat % 256), rfl, ?_, X6.heap.size, hzX, unhide HB2, (unhide HN8).set (unhide MM8).qb⟩
        rw [← ba_app]
        exact (unhide MM8).set (j := 2) hpq (.slice (some ⟨g7, 0, none⟩) (fs.length + 1) cap7)
end Go.Proofs.YtamafdcnbcoegaaGreat
namespace Go.Proofs.YtamafdcnbcoegaaGreat
open Go.RowKit

theorem bv_set (l : List UInt8) (k : Nat) (n : Int) (h0 : 0 ≤ n) (h1 : n < 256) : bv (l.set k (UInt8.ofNat (n.toNat % 256))) = (bv l).set k (.int .u8 n) := by
  have h := bv_byte h0 h1
  simp [bv] at h ⊢
  rw [h]
end Go.Proofs.YtamafdcnbcoegaaGreat
namespace Go.Proofs.YtamafdcnbcoegaaGreat
open Go.RowKit

/-- Cells that no later append of the newest hold's lists writes, outside U's blocks. -/
def Calm (N : Nat) (U : Nat → Prop) (tv : Value) (nt : Nat) (bv' : Value) (nb : Nat) (fv : Value) (nf : Nat) (b o : Nat) : Prop :=
  b < N ∧ ¬ U b ∧ (tv.ownBlock = some b → o < nt) ∧ (bv'.ownBlock = some b → o < nb) ∧ (fv.ownBlock = some b → o < nf)

theorem own_cell {w : World} {e : TypeId} {v : Value} {xs : List Value} {b o : Nat} (h : w.ownsRow 0 e 1 v xs.length xs) (hb : v.ownBlock = some b) (ho : o < xs.length) : w.cell? ⟨b, o, none⟩ = xs[o]? := by
  obtain ⟨g, cap, rfl⟩ := own_shape h (by omega)
  cases hb
  exact World.ownsRow.cellAt h o (by omega)
theorem own_ty {w : World} {e e' : TypeId} {v v' : Value} {n n' b : Nat} {xs xs' : List Value} (h : w.ownsRow 0 e 1 v n xs) (h' : w.ownsRow 0 e' 1 v' n' xs') (hne : e ≠ e') (hb : v.ownBlock = some b) : v'.ownBlock ≠ some b := by
  obtain ⟨_, h2⟩ := h
  rcases h2 with ⟨rfl, _⟩ | ⟨g, cap, cur, rfl, _, hh, _⟩
  · cases hb
  · cases hb
    exact own_ne h' hh (fun e => hne e.symm)

/-- Bytes behind a row. -/
theorem bat_of_row {A : Nat → Nat → Prop} {w : World} {v : Value} {l : List UInt8} (h : w.ownsRow 0 5 1 v (bv l).length (bv l)) (hA : ∀ g, v.ownBlock = some g → ∀ i, i < l.length → A g i) : BAt A w v l := by
  obtain ⟨ad, cap, rfl, h1, h2, h3⟩ := (show Row (fun g => v.ownBlock = some g) w 5 v (bv l) from ⟨h, fun g hg => hg⟩).shape
  rw [bv_length] at h1 h3 ⊢
  refine ⟨ad, cap, rfl, h1, by unfold maxLen at h2; omega, fun h0 => ?_⟩
  obtain ⟨g, rfl, hg, hc⟩ := h3 h0
  exact ⟨g, 0, rfl, fun i hi => by rw [Nat.zero_add]; exact hA g rfl i hi, fun i hi => by rw [Nat.zero_add, hc i hi, bv_get hi]⟩

section
variable {w X : World} {p q : Nat} {cp cq : Array Value} {tv bv' fv tv2 bv2 fv2 : Value} {ts fs ts2 fs2 : List Value} {l l2 : List UInt8}

theorem Mid.calm (M : Mid w X p q cp cq tv ts bv' l fv fs tv2 ts2 bv2 l2 fv2 fs2) (U : Nat → Prop) (ht : w.ownsRow 0 9 1 tv ts.length ts) (hb : w.ownsRow 0 5 1 bv' (bv l).length (bv l)) (hf : w.ownsRow 0 44 1 fv fs.length fs)
    (b o : Nat) (h : Calm w.heap.size U tv ts.length bv' l.length fv fs.length b o) : X.cell? ⟨b, o, none⟩ = w.cell? ⟨b, o, none⟩ := by
  obtain ⟨h0, _, h1, h2, h3⟩ := h
  by_cases e1 : tv.ownBlock = some b
  · rw [own_cell M.t e1 (h1 e1), own_cell ht e1 (h1 e1)]
  by_cases e2 : bv'.ownBlock = some b
  · rw [own_cell M.b e2 (by rw [bv_length]; exact h2 e2), own_cell hb e2 (by rw [bv_length]; exact h2 e2)]
  by_cases e3 : fv.ownBlock = some b
  · rw [own_cell M.f e3 (h3 e3), own_cell hf e3 (h3 e3)]
  exact World.cell?_of_block (M.rest b h0 e1 e2 e3)
theorem loc_calm {v v2 : Value} {b o n n2 : Nat} (h : Loc w v v2) (hb : b < w.heap.size) (hn : n ≤ n2) (h1 : v.ownBlock = some b → o < n) : v2.ownBlock = some b → o < n2 := by
  intro e
  rcases h with h | h | ⟨g, h, hg⟩
  · rw [h] at e; cases e
  · rw [h] at e; have := h1 e; omega
  · rw [h] at e; injection e with e; omega
theorem Mid.more (M : Mid w X p q cp cq tv ts bv' l fv fs tv2 ts2 bv2 l2 fv2 fs2) (U : Nat → Prop) (n1 : ts.length ≤ ts2.length) (n2 : l.length ≤ l2.length) (n3 : fs.length ≤ fs2.length)
    (b o : Nat) (h : Calm w.heap.size U tv ts.length bv' l.length fv fs.length b o) : Calm X.heap.size U tv2 ts2.length bv2 l2.length fv2 fs2.length b o :=
  ⟨Nat.lt_of_lt_of_le h.1 M.size, h.2.1, loc_calm M.lt h.1 n1 h.2.2.1, loc_calm M.lb h.1 n2 h.2.2.2.1, loc_calm M.lf h.1 n3 h.2.2.2.2⟩
theorem loc_out {v v2 : Value} {U : Nat → Prop} (h : Loc w v v2) (hU : ∀ b, U b → b < w.heap.size) (hv : ∀ b, U b → v.ownBlock ≠ some b) : ∀ b, U b → v2.ownBlock ≠ some b := by
  intro b hb e
  rcases h with h | h | ⟨g, h, hg⟩
  · rw [h] at e; cases e
  · rw [h] at e; exact hv b hb e
  · rw [h] at e; injection e with e; have := hU b hb; omega
end
end Go.Proofs.YtamafdcnbcoegaaGreat
namespace Go.Proofs.YtamafdcnbcoegaaGreat
open Go.RowKit

/-- Lent bytes, and behind them the spare room. -/
def lentL (s : ByteArray) : List UInt8 := s.data.toList ++ List.replicate 8 201
theorem lentL_length (s : ByteArray) : (lentL s).length = s.size + 8 := by simp [lentL]
theorem lentL_lt {s : ByteArray} {k : Nat} (h : k < s.size) : (lentL s).getD k 0 = s[k] := by
  have h' : k < s.data.toList.length := by simpa using h
  simp only [lentL, List.getD_eq_getElem?_getD, List.getElem?_append_left h', List.getElem?_eq_getElem h']
  rfl
theorem lentL_ge {s : ByteArray} {k : Nat} (h : s.size ≤ k) (h2 : k < s.size + 8) : (lentL s).getD k 0 = 201 := by
  have h' : s.data.toList.length ≤ k := by simpa using h
  simp only [lentL, List.getD_eq_getElem?_getD, List.getElem?_append_right h', List.getElem?_replicate]
  rw [if_pos (by simp; omega)]
  rfl

set_option maxRecDepth 100000 in
set_option maxHeartbeats 2000000 in
theorem still_any (A : Nat → Nat → Prop) (v : Value) (s : ByteArray) (w : World) (h : BAt A w v (lentL s)) (z : s.size ≤ 140737488354000) :
    Calls Tryz.prog 79 #[v, .string s] w fun r w' => r = .returned (.bool true) ∧ ∃ n, w' = w.drewN n := by
  obtain ⟨ad, cap, rfl, h1, h2, h3⟩ := h
  rw [lentL_length] at h1 h2 h3 ⊢
  obtain ⟨b, off, rfl, _, hc⟩ := h3 (by omega)
  have HC := hide hc
  clear hc h3
  have n1 : s.size + 8 ≤ 9223372036854775807 := by omega
  have n2 : (s.size : Int) ≤ 9223372036854775807 := by omega
  go_enter Tryz.func79, Tryz.ntmps79
  go_wp2
  go_loopw [5] (fun i wr => ∃ k : Nat, k ≤ s.size + 8 ∧ i = .int .i64 k ∧ ∃ n, wr = w.drewN n) (fun i _ => s.size + 8 - (intOf i).toNat)
  case atStart => exact ⟨0, Nat.zero_le _, rfl, 0, rfl⟩
  case round =>
    obtain ⟨k, hk, rfl, n, rfl⟩ := hrel
    by_cases hlt : k < s.size + 8
    · have hck := (unhide HC) k hlt
      by_cases hks : k < s.size
      · rw [lentL_lt hks] at hck
        have hns : ¬ s.size ≤ k := by omega
        go_wp2
        go_quiet (fail)
        go_wp2
        go_roundw
        case rel => exact ⟨k + 1, by omega, by go_num, n + nq, by simp⟩
        case measure => simp [intOf]; omega
      · rw [lentL_ge (by omega) hlt] at hck
        have hns : s.size ≤ k := by omega
        have e201 : ((201 : UInt8).toNat : Int) = 201 := rfl
        rw [e201] at hck
        go_wp2
        go_quiet (fail)
        go_wp2
        go_roundw
        case rel => exact ⟨k + 1, by omega, by go_num, n + nq, by simp⟩
        case measure => simp [intOf]; omega
    · go_wp2
      go_ret
      exact ⟨rfl, _, rfl⟩
end Go.Proofs.YtamafdcnbcoegaaGreat
namespace Go.Proofs.YtamafdcnbcoegaaGreat
open Go.RowKit

theorem lib_cells (l : List UInt8) : Lib.byteCells l = bv l := rfl
/-- copy of a text into a list of the call's own that is as long or longer. -/
theorem wp_copy_str {ops : Array Oper} {rest : List Oper} {o : Oper} {a : Act} {Q : Exit → Act → World → Prop} {w : World} (hgd : o.guard = none) (d s : Operand)
    (ho : o.op = .call { callee := .builtin .copy, args := #[d, s], argTypes := #[44, 9] }) (g n : Nat) (l0 : List UInt8) (str : ByteArray)
    (hown : w.ownsRow 0 5 1 (.slice (some ⟨g, 0, none⟩) n n) n (bv l0)) (hd : a.eval d = .slice (some ⟨g, 0, none⟩) n n) (hs : a.eval s = .string str) (hle : str.size ≤ n) (hl0 : l0.length = n)
    (h : ∀ w', w'.ownsRow 0 5 1 (.slice (some ⟨g, 0, none⟩) n n) n (bv (str.data.toList ++ l0.drop str.size)) → w.grownBy w' (some g) → wpList Tryz.prog ops Q rest (a.put o.dst (.int .i64 str.size)) w') :
    wpList Tryz.prog ops Q (o :: rest) a w := by
  refine wpList_plain hgd fun K hK => ?_
  obtain ⟨h1, h2⟩ := id hown
  rcases h2 with ⟨h2, _⟩ | ⟨g', cap'', cur, e, hB, hh, hca, hcb, hcs, ht⟩
  · cases h2
  injection e with e1 e2 e3
  injection e1 with e1
  injection e1 with e1
  subst e1 e3
  obtain ⟨i0, hi, hz0, hz1, hz2⟩ := info_parts info5
  have hcur : cur.size = n := by simpa using hcs
  have hr := Lib.run_copy_row_string (P := Tryz.prog) w 44 9 o.type 5 g 0 n n str cur 5 Tryz.underlying44 (by rw [hi]; simp [hz1]) hh hle (by omega)
  unfold Oper.wp execOp
  simp only [ho, resolve, invoke, builtin, Sem.run_bind, Sem.run_pure, Result.andThen_ok, List.map_toArray, List.map_cons, List.map_nil, hs, hd, hr]
  have hcl : cur.toList = bv l0 := by
    rw [← ht, List.take_of_length_le (by simp [hcur])]
  refine hK _ _ (h _ ⟨by rw [bv_length]; simp; omega, .inr ⟨g, n, _, rfl, hB, setRow_heap w g cur _ _ _ hh, hca, hcb, ?_, ?_⟩⟩ ⟨rfl, rfl, rfl, by simp, ?_⟩)
  · simp [lib_cells, bv_length, hcur]; omega
  · simp only [List.take_zero, List.nil_append, Nat.zero_add, lib_cells, hcl]
    rw [bv_append, List.take_of_length_le (by simp [bv_length]; omega)]
    simp [bv]
  · intro k hk hne
    exact setRow_other w g k _ (fun e => hne (by rw [e]))

/-- Lent bytes while they are written. -/
def partL (s : ByteArray) (j : Nat) : List UInt8 := s.data.toList ++ (List.replicate j 201 ++ List.replicate (8 - j) 0)
theorem partL_length (s : ByteArray) {j : Nat} (h : j ≤ 8) : (partL s j).length = s.size + 8 := by simp [partL]; omega
theorem partL_set (s : ByteArray) {j : Nat} (h : j < 8) : (partL s j).set (s.size + j) 201 = partL s (j + 1) := by
  have hl : s.data.toList.length = s.size := by simp
  unfold partL
  rw [List.set_append_right _ _ (by omega), hl, Nat.add_sub_cancel_left]
  congr 1
  match j, h with
  | 0, _ => rfl
  | 1, _ => rfl
  | 2, _ => rfl
  | 3, _ => rfl
  | 4, _ => rfl
  | 5, _ => rfl
  | 6, _ => rfl
  | 7, _ => rfl
theorem partL_zero (s : ByteArray) : s.data.toList ++ (List.replicate (s.size + 8) (0 : UInt8)).drop s.size = partL s 0 := by simp [partL]
theorem partL_all (s : ByteArray) : partL s 8 = lentL s := by simp [partL, lentL]
theorem bv_put (l : List UInt8) (k : Nat) : bv (l.set k 201) = (bv l).set k (.int .u8 201) := by simp [bv]
end Go.Proofs.YtamafdcnbcoegaaGreat
namespace Go.Proofs.YtamafdcnbcoegaaGreat
open Go.RowKit

set_option maxRecDepth 100000 in
set_option maxHeartbeats 2000000 in
theorem lent_any (s : ByteArray) (w : World) (z : s.size ≤ 140737488354000) :
    Calls Tryz.prog 77 #[.string s] w fun r w' => r = .returned (.slice (some ⟨w.heap.size, 0, none⟩) (s.size + 8) (s.size + 8)) ∧ Below w.heap.size w w' ∧ w.heap.size < w'.heap.size ∧
      w'.ownsRow 0 5 1 (.slice (some ⟨w.heap.size, 0, none⟩) (s.size + 8) (s.size + 8)) (s.size + 8) (bv (lentL s)) := by
  have n1 : (s.size : Int) + 8 ≤ 9223372036854775807 := by omega
  obtain ⟨n, hn⟩ : ∃ n : Nat, s.size + 8 = n := ⟨_, rfl⟩
  rw [hn]
  have HN := hide hn
  have hnz : n ≤ 140737488354008 := by omega
  clear hn
  go_enter Tryz.func77, Tryz.ntmps77
  go_upto_region 2 with (refine wp_make_full rfl (.tmp 7) (.tmp 7) rfl 0 .i64 .i64 (s.size + 8) (s.size + 8) n rfl rfl (by have := unhide HN; omega) (by have := unhide HN; omega) (by omega) (Nat.zero_le _) ?_; intro w1 hown1 hg1)
  unfold Owns at hown1
  rw [List.length_replicate] at hown1
  have HO1 := hide hown1
  have HG1 := hide hg1
  clear hown1 hg1
  go_upto_region 3 with (refine wp_copy_str rfl (.tmp 9) (.tmp 10) rfl w.heap.size n (List.replicate n 0) s (unhide HO1) rfl rfl (by have := unhide HN; omega) (by simp) ?_; intro w2 hown2 hg2; rw [← unhide HN, partL_zero] at hown2; have HO2 := hide hown2; have HG2 := hide hg2; clear hown2 hg2)
  go_wp2
  have n2 : n ≤ 9223372036854775807 := by omega
  have n0 : (n : Int) ≤ 9223372036854775807 := by omega
  clear hnz z n1
  go_loopw [4] (fun i wr => ∃ k j : Nat, j ≤ 8 ∧ s.size + j = k ∧ i = .int .i64 k ∧ wr.ownsRow 0 5 1 (.slice (some ⟨w.heap.size, 0, none⟩) n n) n (bv (partL s j)) ∧ Below w.heap.size w wr) (fun i _ => n - (intOf i).toNat)
  case atStart =>
    have h1 := unhide HG1
    have h2 := unhide HG2
    have HO := unhide HO2
    rw [unhide HN] at HO
    have := h1.size
    exact ⟨s.size, 0, by omega, by omega, rfl, HO, ⟨h2.os.trans h1.os, h2.tape.trans h1.tape, h2.output.trans h1.output, Nat.le_trans h1.size h2.size, fun k hk => (h2.block k (by omega) (fun e => by injection e with e; omega)).trans (h1.block k hk (fun e => by cases e))⟩⟩
  case round =>
    obtain ⟨k, j, hj, hk, rfl, ho, hb⟩ := hrel
    have hN := unhide HN
    by_cases hlt : k < n
    · have hc := World.ownsRow.cellAt ho k (by omega)
      have hf := World.ownsRow.frozenAt ho k
      have HS := hide (World.ownsRow.stored ho k (.int .u8 201))
      have HB := hide hb
      rw [bv_get (by rw [partL_length s hj]; omega)] at hc
      have HK := hide hk
      have HJ := hide hj
      clear ho hb hN hk hj
      generalize (((partL s j).getD k 0).toNat : Int) = old at hc
      go_wp2
      go_roundw
      case rel =>
        obtain ⟨hs1, hs2⟩ := unhide HS
        have hk := unhide HK
        have hb := unhide HB
        have hN := unhide HN
        have hj := unhide HJ
        have hj8 : j < 8 := by omega
        refine ⟨k + 1, j + 1, by omega, by omega, by go_num, ?_, ?_⟩
        · rw [← partL_set s hj8, bv_put, hk]
          exact hs1
        · exact ⟨hs2.os.trans hb.os, hs2.tape.trans hb.tape, hs2.output.trans hb.output, Nat.le_trans hb.size hs2.size, fun i hi => (hs2.block i (Nat.lt_of_lt_of_le hi hb.size) (fun e => by injection e with e; omega)).trans (hb.block i hi)⟩
      case measure => simp [intOf]; omega
    · have : j = 8 := by omega
      subst this
      rw [partL_all] at ho
      have HO := hide ho
      have HB := hide hb
      clear ho hb hN hk
      go_wp2
      go_ret
      exact ⟨rfl, unhide HB, (World.ownsRow.lt (unhide HO) _ rfl).2, unhide HO⟩
end Go.Proofs.YtamafdcnbcoegaaGreat
namespace Go.Proofs.YtamafdcnbcoegaaGreat
open Go.RowKit

/-- All old blocks but those of E are as they were. -/
structure Far (E : Nat → Prop) (w x : World) : Prop where
  os : x.os = w.os
  tape : x.tape = w.tape
  output : x.output = w.output
  size : w.heap.size ≤ x.heap.size
  rest : ∀ k, k < w.heap.size → ¬ E k → x.heap[k]? = w.heap[k]?
theorem Far.refl (E : Nat → Prop) (w : World) : Far E w w := ⟨rfl, rfl, rfl, Nat.le_refl _, fun _ _ _ => rfl⟩
theorem Far.trans {E E' : Nat → Prop} {w x y : World} (h : Far E w x) (h' : Far E' x y) (hE : ∀ k, k < w.heap.size → E' k → E k) : Far E w y :=
  ⟨h'.os.trans h.os, h'.tape.trans h.tape, h'.output.trans h.output, Nat.le_trans h.size h'.size, fun k hk he => (h'.rest k (Nat.lt_of_lt_of_le hk h.size) (fun e => he (hE k hk e))).trans (h.rest k hk he)⟩
theorem Far.mono {E E' : Nat → Prop} {w x : World} (h : Far E w x) (hE : ∀ k, k < w.heap.size → E k → E' k) : Far E' w x :=
  ⟨h.os, h.tape, h.output, h.size, fun k hk he => h.rest k hk (fun e => he (hE k hk e))⟩
theorem Far.below {E : Nat → Prop} {w x : World} (h : Far E w x) {B : Nat} (hB : B ≤ w.heap.size) (hE : ∀ k, k < B → ¬ E k) : Below B w x :=
  ⟨h.os, h.tape, h.output, h.size, fun k hk => h.rest k (Nat.lt_of_lt_of_le hk hB) (hE k hk)⟩
theorem far_below {E : Nat → Prop} {w x : World} (h : Below w.heap.size w x) : Far E w x := ⟨h.os, h.tape, h.output, h.size, fun k hk _ => h.block k hk⟩
theorem far_grown {w x : World} {row : Option Nat} (h : w.grownBy x row) : Far (fun k => row = some k) w x := ⟨h.os, h.tape, h.output, h.size, fun k hk he => h.block k hk (fun e => he e.symm)⟩
theorem far_set (w : World) (q j : Nat) (v : Value) : Far (fun k => k = q) w (w.setCell ⟨q, j, none⟩ v) := ⟨rfl, rfl, rfl, by rw [World.size_setCell]; exact Nat.le_refl _, fun k _ he => blk_set_ne he⟩
theorem Far.own {E : Nat → Prop} {w x : World} (h : Far E w x) {e : TypeId} {v : Value} {n : Nat} {xs : List Value} (hv : w.ownsRow 0 e 1 v n xs) (hE : ∀ g, v.ownBlock = some g → ¬ E g) : x.ownsRow 0 e 1 v n xs :=
  ownsRow_keep hv (fun g hg => h.rest g (World.ownsRow.lt hv g hg).2 (hE g hg))
theorem Far.blk {E : Nat → Prop} {w x : World} (h : Far E w x) {k : Nat} {o : Obj} (hk : w.heap[k]? = some o) (hE : ¬ E k) : x.heap[k]? = some o := (h.rest k (lt_of_block hk) hE).trans hk

/-- The world's own block and the array of its holds. -/
def Us (wb : Nat) (hv : Value) (k : Nat) : Prop := k = wb ∨ hv.ownBlock = some k

/-- One hold more in the world's list. -/
structure Add (X Z : World) (wb : Nat) (as_ ss hv hv3 : Value) (xs : List Value) : Prop where
  blk : Z.heap[wb]? = some (.cells #[as_, ss, hv3] 83 (0, 0))
  row : Z.ownsRow 0 108 1 hv3 xs.length xs
  far : Far (Us wb hv) X Z
  loc : Loc X hv hv3
theorem add_of {X W : World} {wb : Nat} {as_ ss hv hv3 : Value} {xs ys : List Value} {O : Obj} (hb : X.heap[wb]? = some (.cells #[as_, ss, hv] 83 (0, 0)))
    (hr : X.ownsRow 0 108 1 hv xs.length xs) (ha : App (X.alloc O) W hv hv3) (ho : W.ownsRow 0 108 1 hv3 ys.length ys) : Add X (W.setCell ⟨wb, 2, none⟩ hv3) wb as_ ss hv hv3 ys := by
  have hal : Far (fun k => hv.ownBlock = some k) X W := by
    have h1 : Far (fun k => hv.ownBlock = some k) X (X.alloc O) := far_below ((Below.refl _ _).alloc (Nat.le_refl _) _)
    exact h1.trans (far_grown ha.grown) (fun _ _ h => h)
  have hwb : hv.ownBlock ≠ some wb := own_ne hr hb (by decide)
  have hbW := hal.blk hb hwb
  refine ⟨?_, own_set ho hbW (by decide), ?_, ?_⟩
  · have := blk_set (j := 2) (v := hv3) hbW
    simpa using this
  · exact (hal.mono (E' := Us wb hv) (fun k _ h => .inr h)).trans (far_set W wb 2 hv3) (fun k _ h => .inl h)
  · have hs : X.heap.size ≤ (X.alloc O).heap.size := by simp
    exact loc_app hs ha

theorem loc_trans {w x : World} {a b c : Value} (h : Loc w a b) (h' : Loc x b c) (hs : w.heap.size ≤ x.heap.size) : Loc w a c := by
  rcases h' with h' | h' | ⟨g, h', hg⟩
  · exact .inl h'
  · rcases h with h | h | ⟨g, h, hg⟩
    · exact .inl (h'.trans h)
    · exact .inr (.inl (h'.trans h))
    · exact .inr (.inr ⟨g, h'.trans h, hg⟩)
  · exact .inr (.inr ⟨g, h', Nat.le_trans hs hg⟩)
/-- A cell that was calm is so when the holds' array has grown. -/
theorem calm_add {X Z : World} {wb : Nat} {hv hv3 tv bk fv : Value} {nt nb nf : Nat} (hsz : X.heap.size ≤ Z.heap.size) (hl : Loc X hv hv3) (b o : Nat) (h : Calm X.heap.size (Us wb hv) tv nt bk nb fv nf b o) : Calm Z.heap.size (Us wb hv3) tv nt bk nb fv nf b o := by
  obtain ⟨h0, h1, h2⟩ := h
  refine ⟨Nat.lt_of_lt_of_le h0 hsz, fun hu => ?_, h2⟩
  rcases hu with hu | hu
  · exact h1 (.inl hu)
  · rcases hl with hl | hl | ⟨g, hl, hg⟩
    · rw [hl] at hu; cases hu
    · exact h1 (.inr (hl ▸ hu))
    · rw [hl] at hu; injection hu with hu; omega
theorem calm_kept {X Z : World} {wb : Nat} {hv tv bk fv : Value} {nt nb nf : Nat} (hf : Far (Us wb hv) X Z) (b o : Nat) (h : Calm X.heap.size (Us wb hv) tv nt bk nb fv nf b o) : Z.cell? ⟨b, o, none⟩ = X.cell? ⟨b, o, none⟩ :=
  World.cell?_of_block (hf.rest b h.1 h.2.1)

theorem replicate_snoc {α : Type} (k : Nat) (x : α) : List.replicate k x ++ [x] = List.replicate (k + 1) x := by
  rw [List.replicate_succ']

end Go.Proofs.YtamafdcnbcoegaaGreat
namespace Go.Proofs.YtamafdcnbcoegaaGreat
open Go.RowKit

theorem blk_ne {w : World} {p q : Nat} {c d : Array Value} {e e' : TypeId} {fr fr' : Nat × Nat} (h : w.heap[p]? = some (.cells c e fr)) (h' : w.heap[q]? = some (.cells d e' fr')) (hne : e ≠ e') : p ≠ q := by
  rintro rfl
  rw [h] at h'
  injection h' with h'
  injection h' with _ h' _
  exact hne h'
theorem Loc.mono {w x : World} {a b : Value} (h : Loc x a b) (hs : w.heap.size ≤ x.heap.size) : Loc w a b := by
  rcases h with h | h | ⟨g, h, hg⟩
  · exact .inl h
  · exact .inr (.inl h)
  · exact .inr (.inr ⟨g, h, Nat.le_trans hs hg⟩)
end Go.Proofs.YtamafdcnbcoegaaGreat
namespace Go.Proofs.YtamafdcnbcoegaaGreat
open Go.RowKit

/-- A step, as it lies in a cell row. -/
def opVal (kd n i : Int) (s : ByteArray) (kp k e st q : Int) (b : ByteArray) : Value := .agg #[.int .i64 kd, .int .i64 n, .int .i64 i, .string s, .int .u64 kp, .int .i64 k, .int .i64 e, .int .i64 st, .int .i64 q, .string b]

theorem below_al {B : Nat} {w w1 : World} {O : Obj} (hb : Below (w.alloc O).heap.size (w.alloc O) w1) (hB : B ≤ w.heap.size) : Below B w w1 :=
  ((Below.refl _ _).alloc hB _).trans (hb.mono (by simp; omega))
theorem boxed_cells {w w1 : World} {c : Array Value} {e : TypeId} (hb : Below (w.alloc (.cells c e)).heap.size (w.alloc (.cells c e)) w1) : ∀ i, w1.cell? ⟨w.heap.size, i, none⟩ = c[i]? :=
  fun i => (hb.cell (p := ⟨w.heap.size, i, none⟩) (by simp)).trans (blk_cell (heap_alloc_new w _))
end Go.Proofs.YtamafdcnbcoegaaGreat
namespace Go.Proofs.YtamafdcnbcoegaaGreat
open Go.RowKit

theorem FrBox.kept {w w' : World} {b : Nat} {k e s q : Int} {body : ByteArray} (h : FrBox w b k e s q body) (hb : w'.heap[b]? = w.heap[b]?) : FrBox w' b k e s q body :=
  ⟨(World.cell?_of_block hb).trans h.c0, (World.cell?_of_block hb).trans h.c1, (World.cell?_of_block hb).trans h.c2, (World.cell?_of_block hb).trans h.c3, (World.cell?_of_block hb).trans h.c4⟩
/-- What decoded has laid: the step's box, and the bytes that it lends. -/
structure Lay (w x : World) (s : ByteArray) (g n8 : Nat) : Prop where
  bel : Below w.heap.size w x
  lt : w.heap.size < g
  glt : g < x.heap.size
  s3 : x.cell? ⟨w.heap.size, 3, none⟩ = some (.string s)
  own : x.ownsRow 0 5 1 (.slice (some ⟨g, 0, none⟩) n8 n8) n8 (bv (lentL s))
theorem Lay.below {w x y : World} {s : ByteArray} {g n8 : Nat} (h : Lay w x s g n8) (hb : Below x.heap.size x y) : Lay w y s g n8 :=
  ⟨h.bel.trans (hb.mono h.bel.size), h.lt, Nat.lt_of_lt_of_le h.glt hb.size, (hb.cell (p := ⟨w.heap.size, 3, none⟩) (by have := h.lt; have := h.glt; show w.heap.size < _; omega)).trans h.s3, ownsRow_keep h.own (fun k hk => hb.block k (World.ownsRow.lt h.own k hk).2)⟩
theorem Lay.at {w x : World} {s : ByteArray} {g n8 : Nat} (h : Lay w x s g n8) (hn : s.size + 8 = n8) (z : s.size ≤ 140737488353980) : BytesAt x (.slice (some ⟨g, 0, none⟩) s.size n8) s.data.toList := by
  have hl : s.data.toList.length = s.size := by simp
  refine ⟨_, n8, by rw [hl], by omega, by omega, fun _ => ⟨g, 0, rfl, fun i hi => ?_⟩⟩
  rw [hl] at hi
  have := World.ownsRow.cellAt h.own i (by omega)
  rw [Nat.zero_add, this, bv_get (by rw [lentL_length]; omega), lentL_lt hi]
  have h2 : i < s.data.toList.length := by omega
  rw [List.getD_eq_getElem?_getD, List.getElem?_eq_getElem h2]
  rfl
theorem lent_lay (s : ByteArray) (w : World) (O : Array Value) (e : TypeId) (n8 : Nat) (hn : s.size + 8 = n8) (z : s.size ≤ 140737488353980) (h3 : O[3]? = some (.string s)) :
    Calls Tryz.prog 77 #[.string s] (w.alloc (.cells O e)) fun r w' => ∃ g, r = .returned (.slice (some ⟨g, 0, none⟩) n8 n8) ∧ Lay w w' s g n8 := by
  subst hn
  refine (lent_any s _ (by omega)).mono ?_
  rintro r w' ⟨rfl, hb, hlt, ho⟩
  refine ⟨_, rfl, below_al hb (Nat.le_refl _), by simp, by simpa using hlt, (boxed_cells hb 3).trans h3, ho⟩

end Go.Proofs.YtamafdcnbcoegaaGreat
namespace Go.Proofs.YtamafdcnbcoegaaGreat
open Go.RowKit

/-- The slice holds these cells, n elements of so many cells each, from a place of its block on. -/
def RowO (w : World) (e : TypeId) (size : Nat) (v : Value) (n : Nat) (xs : List Value) : Prop :=
  xs.length = n * size ∧ ((v = .slice none 0 0 ∧ n = 0) ∨
    ∃ g o cap cur, v = .slice (some ⟨g, o, none⟩) n cap ∧ w.heap[g]? = some (.cells cur e (0, 0)) ∧ n ≤ cap ∧ cap ≤ maxLen ∧ o + cap * size ≤ cur.size ∧ (cur.toList.drop o).take (n * size) = xs)
theorem rowO_nil (w : World) (e : TypeId) (size : Nat) : RowO w e size (.slice none 0 0) 0 [] := ⟨by simp, .inl ⟨rfl, rfl⟩⟩
theorem RowO.of_own {w : World} {e : TypeId} {size n : Nat} {v : Value} {xs : List Value} (h : w.ownsRow 0 e size v n xs) : RowO w e size v n xs := by
  obtain ⟨h1, h2⟩ := h
  refine ⟨h1, ?_⟩
  rcases h2 with h2 | ⟨g, cap, cur, rfl, _, hh, hn, hc, hs, ht⟩
  · exact .inl h2
  · exact .inr ⟨g, 0, cap, cur, rfl, hh, hn, hc, by omega, by simpa using ht⟩
theorem RowO.keep {w w' : World} {e : TypeId} {size n : Nat} {v : Value} {xs : List Value} (h : RowO w e size v n xs) (hk : ∀ g, v.ownBlock = some g → w'.heap[g]? = w.heap[g]?) : RowO w' e size v n xs := by
  obtain ⟨h1, h2⟩ := h
  refine ⟨h1, ?_⟩
  rcases h2 with h2 | ⟨g, o, cap, cur, rfl, hh, r⟩
  · exact .inl h2
  · exact .inr ⟨g, o, cap, cur, rfl, by rw [hk g rfl]; exact hh, r⟩
theorem RowO.lt {w : World} {e : TypeId} {size n : Nat} {v : Value} {xs : List Value} (h : RowO w e size v n xs) : ∀ g, v.ownBlock = some g → g < w.heap.size := by
  intro g hg
  obtain ⟨_, h2⟩ := h
  rcases h2 with ⟨rfl, _⟩ | ⟨g', o, cap, cur, rfl, hh, _⟩
  · cases hg
  · cases hg
    exact lt_of_block hh
theorem RowO.ne {w : World} {e e' : TypeId} {size n p : Nat} {v : Value} {xs : List Value} {c : Array Value} {fr : Nat × Nat} (h : RowO w e size v n xs) (hb : w.heap[p]? = some (.cells c e' fr)) (hne : e ≠ e') : v.ownBlock ≠ some p := by
  intro hp
  obtain ⟨_, h2⟩ := h
  rcases h2 with ⟨rfl, _⟩ | ⟨g, o, cap, cur, rfl, hh, _⟩
  · cases hp
  · cases hp
    rw [hh] at hb
    injection hb with hb
    injection hb with _ hb _
    exact hne hb
theorem RowO.ty {w : World} {e e' : TypeId} {size size' n n' b : Nat} {v v' : Value} {xs xs' : List Value} (h : RowO w e size v n xs) (h' : RowO w e' size' v' n' xs') (hne : e ≠ e') (hb : v.ownBlock = some b) : v'.ownBlock ≠ some b := by
  obtain ⟨_, h2⟩ := h
  rcases h2 with ⟨rfl, _⟩ | ⟨g, o, cap, cur, rfl, hh, _⟩
  · cases hb
  · cases hb
    exact h'.ne hh (fun e => hne e.symm)
theorem RowO.far {E : Nat → Prop} {w x : World} (h : Far E w x) {e : TypeId} {size n : Nat} {v : Value} {xs : List Value} (hv : RowO w e size v n xs) (hE : ∀ g, v.ownBlock = some g → ¬ E g) : RowO x e size v n xs :=
  hv.keep (fun g hg => h.rest g (hv.lt g hg) (hE g hg))
/-- The slice's shape, and its cells. -/
theorem RowO.shape {w : World} {e : TypeId} {size n : Nat} {v : Value} {xs : List Value} (h : RowO w e size v n xs) : ∃ ad cap, v = .slice ad n cap ∧ n ≤ cap ∧ cap ≤ maxLen ∧
    (0 < n → ∃ g o, ad = some ⟨g, o, none⟩ ∧ ∀ i, i < n * size → w.cell? ⟨g, o + i, none⟩ = xs[i]?) := by
  obtain ⟨h1, h2⟩ := h
  rcases h2 with ⟨rfl, rfl⟩ | ⟨g, o, cap, cur, rfl, hh, hn, hc, hs, ht⟩
  · exact ⟨none, 0, rfl, by omega, by unfold maxLen; omega, fun h => by omega⟩
  · refine ⟨_, cap, rfl, hn, hc, fun _ => ⟨g, o, rfl, fun i hi => ?_⟩⟩
    rw [blk_cell hh, ← ht, List.getElem?_take, if_pos hi, List.getElem?_drop]
    simp
theorem RowO.drop {w : World} {e : TypeId} {size n k g o cap : Nat} {xs : List Value} (h : RowO w e size (.slice (some ⟨g, o, none⟩) n cap) n xs) (hk : k ≤ n) :
    RowO w e size (.slice (some ⟨g, o + k * size, none⟩) (n - k) (cap - k)) (n - k) (xs.drop (k * size)) := by
  obtain ⟨h1, h2⟩ := h
  rcases h2 with ⟨h2, _⟩ | ⟨g', o', cap', cur, e1, hh, hn, hc, hz, ht⟩
  · cases h2
  · injection e1 with e1 _ e3
    injection e1 with e1
    injection e1 with e1 e2
    subst e1 e2 e3
    refine ⟨by rw [List.length_drop, h1, ← Nat.sub_mul], .inr ⟨g, o + k * size, cap - k, cur, rfl, hh, by omega, by omega, ?_, ?_⟩⟩
    · have : k * size + (cap - k) * size = cap * size := by rw [← Nat.add_mul]; congr 1; omega
      omega
    · rw [← ht, List.drop_take, List.drop_drop, Nat.sub_mul]
/-- A slice of nothing. -/
theorem RowO.none_left {w : World} {e : TypeId} {size n g o cap : Nat} {xs : List Value} (h : RowO w e size (.slice (some ⟨g, o, none⟩) n cap) n xs) :
    RowO w e size (.slice (some ⟨g, o, none⟩) 0 0) 0 [] := by
  obtain ⟨h1, h2⟩ := h
  rcases h2 with ⟨h2, _⟩ | ⟨g', o', cap', cur, e1, hh, hn, hc, hz, ht⟩
  · cases h2
  · injection e1 with e1 _ e3
    injection e1 with e1
    injection e1 with e1 e2
    subst e1 e2 e3
    exact ⟨by simp, .inr ⟨g, o, 0, cur, rfl, hh, by omega, by unfold maxLen; omega, by omega, by simp⟩⟩
/-- One cell of the row is written. -/
theorem RowO.set {w : World} {e : TypeId} {size n g o cap i : Nat} {xs : List Value} (h : RowO w e size (.slice (some ⟨g, o, none⟩) n cap) n xs) (hi : i < n * size) (u : Value) :
    RowO (w.setCell ⟨g, o + i, none⟩ u) e size (.slice (some ⟨g, o, none⟩) n cap) n (xs.set i u) := by
  obtain ⟨h1, h2⟩ := h
  rcases h2 with ⟨h2, _⟩ | ⟨g', o', cap', cur, e1, hh, hn, hc, hz, ht⟩
  · cases h2
  · injection e1 with e1 _ e3
    injection e1 with e1
    injection e1 with e1 e2
    subst e1 e2 e3
    refine ⟨by rw [List.length_set]; exact h1, .inr ⟨g, o, cap, _, rfl, blk_set hh, hn, hc, by simpa using hz, ?_⟩⟩
    rw [← ht, Array.toList_setIfInBounds]
    apply List.ext_getElem?
    intro j
    simp only [List.getElem?_take, List.getElem?_drop, List.getElem?_set, List.length_take, List.length_drop, Array.length_toList]
    by_cases hj : j < n * size
    · have hm : i < min (n * size) (cur.size - o) := by
        have : n * size ≤ cap * size := Nat.mul_le_mul_right _ hn
        omega
      by_cases hij : i = j
      · subst hij
        have : o + i < cur.size := by
          have : n * size ≤ cap * size := Nat.mul_le_mul_right _ hn
          omega
        simp [hi, hm, this]
      · simp [hj, hij]
    · have : ¬ i = j := by omega
      simp [hj, this]

theorem run_append_room_off {P : Program} (w : World) (t ty e : TypeId) (i : TypeInfo) (ht : P.underlying t = some (.slice e)) (hi : P.info? e = some i)
    (g o sLen sCap : Nat) (cur : Array Value) (hg : w.heap[g]? = some (.cells cur e (0, 0)))
    (a : Addr) (m c : Nat) (news : List Value) (hl : news.length = m * i.size) (hnews : ∀ j u, news[j]? = some u → w.cell? (a.add j) = some u) (h1 : ∀ u ∈ news, u.oneCell' = true)
    (hroom : sLen + m ≤ sCap) (hfit : o + sLen * i.size + news.length ≤ cur.size) :
    (Builtin.append_ #[t, t] ty #[.slice (some ⟨g, o, none⟩) sLen sCap, .slice (some a) m c]).run P w =
      .ok (.slice (some ⟨g, o, none⟩) (sLen + m) sCap) (w.setRow g (cur.toList.take (o + sLen * i.size) ++ news ++ cur.toList.drop (o + sLen * i.size + news.length)).toArray) := by
  have hf := run_firstCells_some (P := P) w i.size m a m c news hl hnews
  have hst := run_storeCells_at P g (o + sLen * i.size) e news 0 cur w hg (by simpa using hfit) h1
  simp only [Nat.add_zero] at hst
  simp [Builtin.append_, run_underlying ht, sizeOf, typeInfo, hi, Builtin.lenOf, hroom, hf, Addr.add_lit, hst]

/-- append of elements to a row that begins anywhere. -/
theorem run_append_o {P : Program} (w : World) (t ty e : TypeId) (i : TypeInfo) (z : Value) (size bytes : Nat) (ht : P.underlying t = some (.slice e)) (hi : P.info? e = some i) (hz : i.zero = some z) (hsize : i.size = size) (hby : i.bytes = bytes)
    (hzs : z.cells.size = size) (v : Value) (n : Nat) (xs : List Value) (hown : RowO w e size v n xs) (ad : Addr) (m c : Nat) (news : List Value) (hl : news.length = m * size) (hnews : ∀ j u, news[j]? = some u → w.cell? (ad.add j) = some u)
    (h1 : ∀ u ∈ news, u.oneCell' = true) (hm : 0 < m) (hb : (n + m) * bytes ≤ 140737488355328) (h63 : n + m ≤ 140737488355328) :
    ∃ v' w', (Builtin.append_ #[t, t] ty #[v, .slice (some ad) m c]).run P w = .ok v' w' ∧ RowO w' e size v' (n + m) (xs ++ news) ∧ App w w' v v' := by
  subst hsize hby
  have hmx : n + m ≤ maxLen := by unfold maxLen; omega
  have hlen : (xs ++ news).length = (n + m) * i.size := by rw [List.length_append, hown.1, hl, Nat.add_mul]
  have grown : ∀ (old : Nat) (row : Option Nat), RowO (w.drew.alloc (.cells (xs.toArray ++ news.toArray ++ Builtin.zeroCells z.cells (grownCap w (n + m) old e - (n + m))) e)) e i.size
        (.slice (some ⟨w.heap.size, 0, none⟩) (n + m) (grownCap w (n + m) old e)) (n + m) (xs ++ news) ∧
      w.grownBy (w.drew.alloc (.cells (xs.toArray ++ news.toArray ++ Builtin.zeroCells z.cells (grownCap w (n + m) old e - (n + m))) e)) row := by
    intro old row
    have hge := grownCap_ge w (n + m) old e
    have hcm : grownCap w (n + m) old e ≤ maxLen := grownCap_le_maxLen w (n + m) old e hmx
    refine ⟨⟨hlen, .inr ⟨w.heap.size, 0, _, _, rfl, heap_alloc_new w.drew _, hge, hcm, ?_, ?_⟩⟩, ⟨rfl, rfl, rfl, by simp, fun k hk _ => Below.heap_alloc w.drew _ k hk⟩⟩
    · simp only [Array.size_append, List.size_toArray, size_zeroCells, hzs, hown.1, hl, ← Nat.add_mul, Nat.zero_add]
      exact Nat.mul_le_mul_right _ (by omega)
    · simp only [Array.toList_append, List.append_assoc, List.drop_zero]
      rw [← List.append_assoc, ← hlen]
      exact List.take_left
  rcases hown.2 with ⟨rfl, rfl⟩ | ⟨g, o, cap, cur, rfl, hg, hnc, hcm, hcs, htake⟩
  · have hx : xs = [] := List.eq_nil_of_length_eq_zero (by simpa using hown.1)
    subst hx
    have hr := run_append_nil (P := P) w t ty e i z ht hi hz ad m c news hl hnews (by omega) (by omega) (by simp only [Nat.zero_add] at hb; omega)
    have hgr := grown 0 none
    simp only [Nat.zero_add, List.nil_append, Array.empty_append] at hgr ⊢
    exact ⟨_, _, hr, hgr.1, ⟨hgr.2, .inr ⟨hgr.2, w.heap.size, rfl, Nat.le_refl _⟩⟩⟩
  · by_cases hroom : n + m ≤ cap
    · have hmul : (n + m) * i.size ≤ cap * i.size := Nat.mul_le_mul_right _ hroom
      rw [Nat.add_mul] at hmul
      have hfit : o + n * i.size + news.length ≤ cur.size := by rw [hl]; omega
      have hr := run_append_room_off (P := P) w t ty e i ht hi g o n cap cur hg ad m c news hl hnews h1 hroom hfit
      refine ⟨_, _, hr, ⟨hlen, .inr ⟨g, o, cap, _, rfl, setRow_heap w g cur _ e _ hg, hroom, hcm, ?_, ?_⟩⟩, ⟨⟨rfl, rfl, rfl, by simp, fun k _ hk => setRow_other w g k _ (fun e => hk (by simp [Value.ownBlock, e]))⟩, .inl rfl⟩⟩
      · simp only [List.size_toArray, List.length_append, List.length_take, List.length_drop, Array.length_toList]
        omega
      · have hz0 : (cur.toList.take (o + n * i.size) ++ news ++ cur.toList.drop (o + n * i.size + news.length)).drop o = xs ++ (news ++ cur.toList.drop (o + n * i.size + news.length)) := by
          rw [List.append_assoc, List.drop_append_of_le_length (by simp; omega), List.drop_take]
          congr 1
          rw [← htake]
          congr 1
          omega
        simp only
        rw [hz0, ← List.append_assoc, ← hlen]
        exact List.take_left
    · have hgo : grownCap w (n + m) cap e = grownCap w (n + m) cap e := rfl
      have holds : ∀ j u, xs[j]? = some u → w.cell? ((⟨g, o, none⟩ : Addr).add j) = some u := by
        intro j u hj
        have hjl : j < n * i.size := by
          have := (List.getElem?_eq_some_iff.1 hj).1
          rw [hown.1] at this; exact this
        obtain ⟨ad', cap', e1, _, _, hc⟩ := hown.shape
        have hn0 : 0 < n := by
          rcases Nat.eq_zero_or_pos n with h | h
          · subst h; simp at hjl
          · exact h
        obtain ⟨g', o', e2, hc⟩ := hc hn0
        injection e1 with e1
        rw [e2] at e1
        injection e1 with e1
        injection e1 with e1 e3
        subst e1 e3
        have := hc j hjl
        rw [hj] at this
        unfold Addr.add
        split
        · rename_i h0; subst h0; simpa using this
        · exact this
      have hr := run_append_grow (P := P) w t ty e i z ht hi hz ⟨g, o, none⟩ n cap xs hown.1 holds ad m c news hl hnews (by omega) (by unfold maxLen at hmx; omega) (growslice_fits (by omega) hb)
      have hgr := grown cap (Value.ownBlock (.slice (some ⟨g, o, none⟩) n cap))
      have hgr2 := grown cap none
      exact ⟨_, _, hr, hgr.1, ⟨hgr.2, .inr ⟨hgr2.2, w.heap.size, rfl, Nat.le_refl _⟩⟩⟩
end Go.Proofs.YtamafdcnbcoegaaGreat
namespace Go.Proofs.YtamafdcnbcoegaaGreat
open Go.RowKit

/-- Bytes laid over a list from a place on. -/
def lay (L : List UInt8) (off : Nat) (l : List UInt8) : List UInt8 := L.take off ++ (l ++ L.drop (off + l.length))
theorem length_lay {L l : List UInt8} {off : Nat} (h : off + l.length ≤ L.length) : (lay L off l).length = L.length := by
  simp [lay]; omega
theorem bv_lay (L : List UInt8) (off : Nat) (l : List UInt8) : bv (lay L off l) = (bv L).take off ++ (bv l ++ (bv L).drop (off + (bv l).length)) := by
  simp [lay, bv, List.map_take, List.map_drop]
theorem size5 : (Tryz.prog.info? 5).map (·.size) = some 1 := by kernel_rfl
theorem size64 : (Tryz.prog.info? 207).map (·.size) = some 64 := by kernel_rfl

theorem add_mk (b o j : Nat) : (⟨b, o, none⟩ : Addr).add j = ⟨b, o + j, none⟩ := by
  unfold Addr.add
  split
  · rename_i h; subst h; rfl
  · rfl

/-- copy of bytes into a block. -/
theorem oper_copy_bytes {o : Oper} {a : Act} {w : World} {K : Act → World → Prop} {Q : Exit → Act → World → Prop} (d s : Operand)
    (ho : o.op = .call { callee := .builtin .copy, args := #[d, s], argTypes := #[44, 44] }) (g off n cap : Nat) (L l : List UInt8) (t : TypeId) (v : Value)
    (hg : w.heap[g]? = some (.cells (bv L).toArray t (0, 0))) (hd : a.eval d = .slice (some ⟨g, off, none⟩) n cap) (hat : BytesAt w v l) (hs : a.eval s = v) (hl : l.length ≤ n) (hfit : off + n ≤ L.length)
    (h : ∀ w', w'.heap[g]? = some (.cells (bv (lay L off l)).toArray t (0, 0)) → Far (fun k => k = g) w w' → K (a.put o.dst (.int .i64 l.length)) w') : o.wp Tryz.prog a w K Q := by
  obtain ⟨ad, cap', rfl, hc1, hc2, hc3⟩ := hat
  by_cases h0 : l.length = 0
  · obtain rfl : l = [] := List.eq_nil_of_length_eq_zero h0
    have hrun := run_copy_none (P := Tryz.prog) w 44 44 o.type 5 (some ⟨g, off, none⟩) ad n cap 0 cap' Tryz.underlying44 size5 (by simp)
    unfold Oper.wp
    simp [execOp, ho, resolve, invoke, builtin, hd, hs, hrun, Result.andThen]
    exact h w (by rw [bv_lay]; simpa [bv] using hg) (Far.refl _ _)
  · obtain ⟨b, o', rfl, hc⟩ := hc3 (by omega)
    have hrun := run_copy_row (P := Tryz.prog) w 44 44 o.type 5 g off n cap ⟨b, o', none⟩ l.length cap' (bv L).toArray t (bv l) Tryz.underlying44 size5 hg (by rw [bv_length]; exact (Nat.min_eq_left hl).symm) (by
      intro j u hj
      have hjl : j < l.length := by
        have := (List.getElem?_eq_some_iff.1 hj).1
        rw [bv_length] at this; exact this
      rw [bv_get hjl] at hj
      cases hj
      rw [add_mk]
      exact hc j hjl) (by rw [bv_length, List.size_toArray, bv_length]; omega) (bv_oneCell l)
    unfold Oper.wp
    simp [execOp, ho, resolve, invoke, builtin, hd, hs, hrun, Result.andThen]
    rw [bv_length]
    refine h _ ?_ ⟨rfl, rfl, rfl, by simp, fun k _ hk => setRow_other w g k _ hk⟩
    rw [bv_lay]
    have := setRow_heap w g (bv L).toArray ((bv L).take off ++ (bv l ++ (bv L).drop (off + (bv l).length))).toArray t (0, 0) hg
    rw [bv_length] at this ⊢
    simpa using this
theorem wpList_copy_bytes {ops : Array Oper} {rest : List Oper} {o : Oper} {a : Act} {w : World} {Q : Exit → Act → World → Prop} (hgd : o.guard = none) (d s : Operand)
    (ho : o.op = .call { callee := .builtin .copy, args := #[d, s], argTypes := #[44, 44] }) (g off n cap : Nat) (L l : List UInt8) (t : TypeId) (v : Value)
    (hg : w.heap[g]? = some (.cells (bv L).toArray t (0, 0))) (hd : a.eval d = .slice (some ⟨g, off, none⟩) n cap) (hat : BytesAt w v l) (hs : a.eval s = v) (hl : l.length ≤ n) (hfit : off + n ≤ L.length)
    (h : ∀ w', w'.heap[g]? = some (.cells (bv (lay L off l)).toArray t (0, 0)) → Far (fun k => k = g) w w' → wpList Tryz.prog ops Q rest (a.put o.dst (.int .i64 l.length)) w') : wpList Tryz.prog ops Q (o :: rest) a w :=
  wpList_plain hgd fun _ hK => oper_copy_bytes d s ho g off n cap L l t v hg hd hat hs hl hfit (fun w' h1 h2 => hK _ _ (h w' h1 h2))

/-- A whole sector out of its block. -/
theorem wpList_load_sec {ops : Array Oper} {rest : List Oper} {o : Oper} {a : Act} {w : World} {Q : Exit → Act → World → Prop} (hgd : o.guard = none) (x : Operand) (ho : o.op = .load 207 x)
    (g : Nat) (hx : a.eval x = .pointer (some ⟨g, 0, none⟩)) (t : TypeId) (L : List UInt8) (hL : L.length = 64) (hg : w.heap[g]? = some (.cells (bv L).toArray t (0, 0)))
    (h : wpList Tryz.prog ops Q rest (a.put o.dst (.agg (bv L).toArray)) w) : wpList Tryz.prog ops Q (o :: rest) a w :=
  wpList_load_row hgd 207 x ho g hx t _ (0, 0) _ hg Tryz.underlying207 rfl (by rw [size64]; simp [bv, hL]) h
theorem oper_load_sec {o : Oper} {a : Act} {w : World} {K : Act → World → Prop} {Q : Exit → Act → World → Prop} (x : Operand) (ho : o.op = .load 207 x)
    (g : Nat) (hx : a.eval x = .pointer (some ⟨g, 0, none⟩)) (t : TypeId) (L : List UInt8) (hL : L.length = 64) (hg : w.heap[g]? = some (.cells (bv L).toArray t (0, 0)))
    (h : K (a.put o.dst (.agg (bv L).toArray)) w) : o.wp Tryz.prog a w K Q :=
  wp_load_row 207 x ho g hx t _ (0, 0) _ hg Tryz.underlying207 rfl (by rw [size64]; simp [bv, hL]) h
theorem bv_all (l : List UInt8) : (bv l).toArray.all (·.oneCell') = true := by
  rw [Array.all_eq_true_iff_forall_mem]
  intro v hv
  exact bv_oneCell l v (by simpa using hv)
/-- A whole sector into its block. -/
theorem wpList_store_sec {ops : Array Oper} {rest : List Oper} {o : Oper} {a : Act} {w : World} {Q : Exit → Act → World → Prop} (hgd : o.guard = none) (x y : Operand) (ho : o.op = .store 207 x y)
    (g : Nat) (hx : a.eval x = .pointer (some ⟨g, 0, none⟩)) (L : List UInt8) (hL : L.length = 64) (hy : a.eval y = .agg (bv L).toArray) (t : TypeId) (old : Array Value) (hold : old.size = 64) (hg : w.heap[g]? = some (.cells old t (0, 0)))
    (h : ∀ w', w'.heap[g]? = some (.cells (bv L).toArray t (0, 0)) → Far (fun k => k = g) w w' → wpList Tryz.prog ops Q rest (a.put o.dst undef) w') : wpList Tryz.prog ops Q (o :: rest) a w :=
  wpList_store_row hgd 207 x y ho g (bv L).toArray hx hy t old hg (by rw [size64]; simp [bv, hL]) (by rw [hold]; simp [bv, hL]) (bv_all L)
    (h _ (setRow_heap w g old _ t (0, 0) hg) ⟨rfl, rfl, rfl, by simp, fun k _ hk => setRow_other w g k _ hk⟩)
theorem oper_store_sec {o : Oper} {a : Act} {w : World} {K : Act → World → Prop} {Q : Exit → Act → World → Prop} (x y : Operand) (ho : o.op = .store 207 x y)
    (g : Nat) (hx : a.eval x = .pointer (some ⟨g, 0, none⟩)) (L : List UInt8) (hL : L.length = 64) (hy : a.eval y = .agg (bv L).toArray) (t : TypeId) (old : Array Value) (hold : old.size = 64) (hg : w.heap[g]? = some (.cells old t (0, 0)))
    (h : ∀ w', w'.heap[g]? = some (.cells (bv L).toArray t (0, 0)) → Far (fun k => k = g) w w' → K (a.put o.dst undef) w') : o.wp Tryz.prog a w K Q :=
  wp_store_row 207 x y ho g (bv L).toArray hx hy t old hg (by rw [size64]; simp [bv, hL]) (by rw [hold]; simp [bv, hL]) (bv_all L)
    (h _ (setRow_heap w g old _ t (0, 0) hg) ⟨rfl, rfl, rfl, by simp, fun k _ hk => setRow_other w g k _ hk⟩)
/-- What a call hands back that is a sector. -/
theorem results_sec {fn : Func} {p : Tmp} (h : fn.results = #[.cell p 207]) (tmps : Array Value) (w : World) (g : Nat) (t : TypeId) (L : List UInt8) (hL : L.length = 64)
    (hp : tmps.getD p undef = .pointer (some ⟨g, 0, none⟩)) (hg : w.heap[g]? = some (.cells (bv L).toArray t (0, 0))) : (results fn tmps).run Tryz.prog w = .ok (.agg (bv L).toArray) w :=
  results_cell_row h tmps w g t _ (0, 0) _ hp hg Tryz.underlying207 rfl (by rw [size64]; simp [bv, hL])
end Go.Proofs.YtamafdcnbcoegaaGreat
namespace Go.Proofs.YtamafdcnbcoegaaGreat
open Go.RowKit

set_option maxRecDepth 100000 in
set_option maxHeartbeats 1000000 in
theorem stampBytes_any (o c : Nat) (ho : o < 4294967296) (hc : c < 18446744073709551616) (w : World) :
    Calls Tryz.prog 216 #[.agg #[.int .u32 o, .int .u64 c]] w fun r w' => ∃ v, r = .returned v ∧ Owns (w.heap.size + 1) w' v (Mod.stampB o c) ∧ Below w.heap.size w w' := by
  go_enter Tryz.func216, Tryz.ntmps216
  go_upto_region 1 with fail
  refine wp_world (fun x => x.heap[w.heap.size]? = some (.cells #[.int .u32 o, .int .u64 c] 201 (0, 0)) ∧ Below w.heap.size w x) ?_ ?_
  · exact ⟨heap_alloc_new w _, (Below.refl _ _).alloc (Nat.le_refl _) _⟩
  rintro x ⟨hb0, hB⟩
  have hz := lt_of_block hb0
  have c0 : x.cell? ⟨w.heap.size, 0, none⟩ = some (.int .u32 o) := blk_cell (i := 0) hb0
  have HB0 := hide hb0
  have HB := hide hB
  clear hb0 hB
  have hA := fun (v : Value) (l : List UInt8) (n : Int) (y : World) (h1 : l.length ≤ 1000) (h2 : w.heap.size + 1 ≤ y.heap.size) (h3 : 0 ≤ n) (h4 : Owns (w.heap.size + 1) y v l) => hide (appendNumber_any (w.heap.size + 1) n v l y h1 h2 h3 h4)
  have hbl := fun (v : Value) (l : List UInt8) (y z : World) (h2 : w.heap.size + 1 ≤ y.heap.size) (h4 : Owns (w.heap.size + 1) y v l) (hg : y.grownBy z v.ownBlock) => below_grown_new (B := w.heap.size + 1) hg h2 (fun g hg => (h4.lt g hg).1)
  go_upto_region 2 with (go_at_call 135; refine (unhide (hA (.slice none 0 0) [] (o : Int) x (by simp) (by omega) (by omega) (owns_nil _ _))).mono ?_; rintro r y ⟨v1, rfl, hown, hg⟩)
  have b1 := hbl _ _ x y (by omega) (owns_nil _ _) hg
  have hby := (b1.block _ (Nat.lt_succ_self _)).trans (unhide HB0)
  have c1 : y.cell? ⟨w.heap.size, 1, none⟩ = some (.int .u64 c) := blk_cell (i := 1) hby
  have hzy := b1.size
  have HB1 := hide ((unhide HB).trans (b1.mono (by omega)))
  have O1 := hide hown
  have HBY := hide hby
  clear hown hg b1 hby c0 HB0 HB
  have hwc : IntKind.u32.wrap (c : Int) = ((c % 4294967296 : Nat) : Int) := by rw [IntKind.wrap_u32]; omega
  go_upto_region 3 with (go_at_call 135; refine (unhide (hA v1 _ ((c % 4294967296 : Nat) : Int) y (by simp [Wire.length_le4]) (by omega) (by omega) (unhide O1))).mono ?_; rintro r z ⟨v2, rfl, hown, hg⟩)
  have b1 := hbl _ _ y z (by omega) (unhide O1) hg
  have hbz := (b1.block _ (Nat.lt_succ_self _)).trans (unhide HBY)
  have c2 : z.cell? ⟨w.heap.size, 1, none⟩ = some (.int .u64 c) := blk_cell (i := 1) hbz
  have hzz := b1.size
  have HB2 := hide ((unhide HB1).trans (b1.mono (by omega)))
  have O2 := hide hown
  clear hown hg b1 hbz c1 HBY HB1 O1 hwc
  go_wp2_with (go_at_call 135; refine (unhide (hA v2 _ ((c / 4294967296 : Nat) : Int) z (by simp [Wire.length_le4]) (by omega) (by omega) (unhide O2))).mono ?_; rintro r u ⟨v3, rfl, hown, hg⟩)
  have b1 := hbl _ _ z u (by omega) (unhide O2) hg
  go_ret
  exact ⟨v3, rfl, by simpa [Mod.stampB] using hown, (unhide HB2).trans (b1.mono (by omega))⟩
end Go.Proofs.YtamafdcnbcoegaaGreat
namespace Go.Proofs.YtamafdcnbcoegaaGreat
open Go.RowKit

theorem bv_at {l : List UInt8} {i : Nat} (h : i < l.length) : (bv l).toArray[i]? = some (.int .u8 (l.getD i 0).toNat) := by
  rw [List.getElem?_toArray]; exact bv_get h
theorem eq_items (S T : List UInt8) (w : World) : ∀ (is : List Nat), (∀ i ∈ is, i < S.length ∧ i < T.length) →
    (Op.eqItems 9999 5 1 (bv S).toArray (bv T).toArray is).run Tryz.prog w = .ok (is.all fun i => S.getD i 0 == T.getD i 0) w
  | [], _ => by simp [Op.eqItems]
  | i :: is, h => by
    have h0 := h i (.head _)
    have p1 := run_part_plain (P := Tryz.prog) w (e := 5) (by kernel_rfl) (xs := (bv S).toArray) (off := i) (bv_at h0.1)
    have p2 := run_part_plain (P := Tryz.prog) w (e := 5) (by kernel_rfl) (xs := (bv T).toArray) (off := i) (bv_at h0.2)
    have p3 := run_equalIn_int (P := Tryz.prog) w 9998 5 .u8 .u8 ((S.getD i 0).toNat : Int) ((T.getD i 0).toNat : Int) Tryz.underlying5
    have ih := eq_items S T w is (fun j hj => h j (.tail _ hj))
    simp only [Op.eqItems, Nat.mul_one, Sem.run_bind, p1, p2, p3, Result.andThen_ok, List.all_cons]
    have e : (((S.getD i 0).toNat : Int) == ((T.getD i 0).toNat : Int)) = (S.getD i 0 == T.getD i 0) := by
      rw [Bool.eq_iff_iff, beq_iff_eq, beq_iff_eq]
      constructor
      · intro e
        exact UInt8.toNat_inj.1 (by omega)
      · intro e
        rw [e]
    rw [e]
    cases hc : (S.getD i 0 == T.getD i 0)
    · simp
    · simpa using ih
theorem all_eq {S T : List UInt8} {n : Nat} (hS : S.length = n) (hT : T.length = n) : ((List.range n).all fun i => S.getD i 0 == T.getD i 0) = decide (S = T) := by
  rw [Bool.eq_iff_iff, decide_eq_true_eq, List.all_eq_true]
  constructor
  · intro h
    apply List.ext_getElem (by omega)
    intro i h1 h2
    have := h i (List.mem_range.2 (by omega))
    simpa [h1, h2] using this
  · rintro rfl i _
    simp
set_option maxRecDepth 100000 in
/-- Two sectors compared. -/
theorem eq_sec {S T : List UInt8} (hS : S.length = 64) (hT : T.length = 64) (w : World) : (Op.equalIn 10000 207 (.agg (bv S).toArray) (.agg (bv T).toArray)).run Tryz.prog w = .ok (decide (S = T)) w := by
  obtain ⟨i, hi⟩ : ∃ i, Tryz.prog.info? 5 = some i := by
    have := size5
    cases h : Tryz.prog.info? 5 with
    | none => rw [h] at this; cases this
    | some i => exact ⟨i, rfl⟩
  have hz : Tryz.prog.cellsOf 5 = 1 := by kernel_rfl
  have e := eq_items S T w (List.range 64) (fun i hi => by have := List.mem_range.1 hi; omega)
  rw [all_eq hS hT, ← hz] at e
  exact (run_equalIn_array (P := Tryz.prog) w 9999 (bv S).toArray (bv T).toArray Tryz.underlying207 hi).trans e

/-- A run of cells laid into an array. -/
theorem fold_set (off : Nat) : ∀ (l : List Value) (i : Nat) (cs : Array Value), off + i + l.length ≤ cs.size →
    (l.zipIdx i).foldl (fun cs (p : Value × Nat) => cs.setIfInBounds (off + p.2) p.1) cs = (cs.toList.take (off + i) ++ l ++ cs.toList.drop (off + i + l.length)).toArray
  | [], i, cs, _ => by simp
  | v :: l, i, cs, h => by
    rw [List.zipIdx_cons, List.foldl_cons, fold_set off l (i + 1) _ (by simp at h ⊢; omega)]
    have := list_seg_step cs.toList (off + i) v l (by simp at h ⊢; omega)
    congr 1
    rw [Array.toList_setIfInBounds]
    have e1 : off + (i + 1) = off + i + 1 := by omega
    rw [e1, this, List.length_cons]
def zeros : List UInt8 := List.replicate 64 0
theorem length_zeros : zeros.length = 64 := by simp [zeros]
theorem built_eq (parts : List (Nat × Value)) : Tryz.prog.built 261 parts = Instr.fill (fun x => (#[(0, 1), (1, 64)] : Array (Nat × Nat))[x]?) (Value.int .i64 0 :: bv zeros).toArray parts := by kernel_rfl
theorem built_write (k : Int) (S : List UInt8) (hS : S.length = 64) : Tryz.prog.built 261 [(0, .int .i64 k), (1, .agg (bv S).toArray)] = some (.int .i64 k :: bv S).toArray := by
  rw [built_eq]
  have hz : (bv zeros).length = 64 := by rw [bv_length, length_zeros]
  have hb : (bv S).length = 64 := by rw [bv_length, hS]
  have e2 := fold_set 1 (bv S) 0 (Value.int .i64 k :: bv zeros).toArray (by simp [hz, hb])
  generalize hZ : bv zeros = Z at *
  generalize hX : bv S = X at *
  have hX2 : X.toArray.size = 64 := by simpa using hb
  simp only [Instr.fill, Value.cells]
  simp [hz, hb]
  rw [e2]
  simp [hz, hb]
end Go.Proofs.YtamafdcnbcoegaaGreat
namespace Go.Proofs.YtamafdcnbcoegaaGreat
open Go.RowKit

theorem lay_seal (o c : Nat) (ins : List UInt8) (h : ins.length ≤ 40) : lay (lay (lay (List.replicate 64 0) 0 (Mod.stampB o c)) 12 ins) 52 (Mod.stampB o c) = Mod.sealB o c ins := by
  have e1 : lay (List.replicate 64 (0 : UInt8)) 0 (Mod.stampB o c) = Mod.stampB o c ++ List.replicate 52 0 := by
    simp [lay, Mod.length_stampB]
  rw [e1]
  have e2 : lay (Mod.stampB o c ++ List.replicate 52 0) 12 ins = Mod.stampB o c ++ ins ++ List.replicate (52 - ins.length) 0 := by
    unfold lay
    rw [List.take_left' (Mod.length_stampB o c), List.drop_append, List.drop_eq_nil_of_le (by rw [Mod.length_stampB]; omega), Mod.length_stampB, List.drop_replicate, List.nil_append, List.append_assoc]
    congr 3
    omega
  rw [e2]
  unfold lay Mod.sealB
  have hl : (Mod.stampB o c ++ ins).length = 12 + ins.length := by rw [List.length_append, Mod.length_stampB]
  rw [List.take_append, List.take_of_length_le (by omega), List.take_replicate, List.drop_append, List.drop_eq_nil_of_le (by rw [hl, Mod.length_stampB]; omega), List.drop_replicate, hl, Mod.length_stampB]
  have e3 : min (52 - (12 + ins.length)) (52 - ins.length) = 40 - ins.length := by omega
  have e4 : 52 - ins.length - (52 + 12 - (12 + ins.length)) = 0 := by omega
  rw [e3, e4]
  simp
theorem alloc3 (w : World) (A B C : Obj) : (((w.alloc A).alloc B).alloc C).heap[w.heap.size]? = some A ∧ (((w.alloc A).alloc B).alloc C).heap[w.heap.size + 1]? = some B ∧ (((w.alloc A).alloc B).alloc C).heap[w.heap.size + 2]? = some C ∧ Below w.heap.size w (((w.alloc A).alloc B).alloc C) := by
  have h1 := heap_alloc_new (w.alloc A) B
  have h2 := heap_alloc_new ((w.alloc A).alloc B) C
  have e1 : (w.alloc A).heap.size = w.heap.size + 1 := by simp
  have e2 : ((w.alloc A).alloc B).heap.size = w.heap.size + 2 := by simp
  rw [e1] at h1
  rw [e2] at h2
  refine ⟨?_, ?_, h2, (((Below.refl _ _).alloc (Nat.le_refl _) _).alloc (by omega) _).alloc (by omega) _⟩
  · rw [heap_alloc_old _ _ (by omega), heap_alloc_old _ _ (by omega)]
    exact heap_alloc_new w A
  · rw [heap_alloc_old _ _ (by omega)]
    exact h1
theorem cells_eq {o : Option Obj} {c c' : Array Value} {t : TypeId} {fr : Nat × Nat} (h : o = some (.cells c t fr)) (e : c = c') : o = some (.cells c' t fr) := by rw [← e]; exact h
def OwnsW (B : Nat) (l : List UInt8) (v : Value) (w : World) : Prop := Owns B w v l ∧ ∀ g, v.ownBlock = some g → g < w.heap.size
theorem stable_ownsW (B : Nat) (l : List UInt8) : Stable (OwnsW B l) := fun _ _ _ h hb => ⟨h.1.below hb h.2, fun g hg => Nat.lt_of_lt_of_le (h.2 g hg) hb.size⟩

set_option maxRecDepth 100000 in
set_option maxHeartbeats 1000000 in
theorem seal_any (o c : Nat) (ins : List UInt8) (v : Value) (w : World) (ho : o < 4294967296) (hc : c < 18446744073709551616) (hi : ins.length ≤ 40) (hat : BytesAt w v ins) :
    Calls Tryz.prog 184 #[.agg #[.int .u32 o, .int .u64 c], v] w fun r w' => r = .returned (.agg (bv (Mod.sealB o c ins)).toArray) ∧ Below w.heap.size w w' := by
  have HS := fun y => hide (stampBytes_any o c ho hc y)
  go_enter Tryz.func184, Tryz.ntmps184
  go_upto_region 2 with fail
  refine wp_world (fun x => x.heap[w.heap.size]? = some (.cells #[.int .u32 o, .int .u64 c] 201 (0, 0)) ∧ x.heap[w.heap.size + 1]? = some (.cells (bv zeros).toArray 207 (0, 0)) ∧ x.heap[w.heap.size + 2]? = some (.cells (bv zeros).toArray 207 (0, 0)) ∧ Below w.heap.size w x) ?_ ?_
  · exact ⟨(alloc3 _ _ _ _).1, cells_eq (alloc3 _ _ _ _).2.1 (by kernel_rfl), cells_eq (alloc3 _ _ _ _).2.2.1 (by kernel_rfl), (alloc3 _ _ _ _).2.2.2⟩
  rintro x ⟨h0, h1, h2, hB⟩
  have H0 := hide h0
  have H1 := hide h1
  have H2 := hide h2
  have HB := hide hB
  have hz := lt_of_block h2
  have c0 : x.cell? ⟨w.heap.size, 0, none⟩ = some (.int .u32 o) := blk_cell (i := 0) h0
  have c1 : x.cell? ⟨w.heap.size, 1, none⟩ = some (.int .u64 c) := blk_cell (i := 1) h0
  have HAT := hide hat
  clear h0 h1 h2 hB hat
  refine wp_region_last (by kernel_rfl)
    [fun v _ => v = .slice (some ⟨w.heap.size + 2, 0, none⟩) 64 64, fun v _ => v = .agg #[.int .u32 o, .int .u64 c], OwnsW (w.heap.size + 3) (Mod.stampB o c), fun _ _ => True]
    [[(5, none)], [(2, none)], [(7, some 1)], [(6, some 0), (8, some 2)]] [some 6, some 7, some 8, some 9] [false, false, false, false, false, false, true, true, true, true, false, false, false, false, false, false, false, false]
    3 _ rfl rfl (by kernel_rfl) (by kernel_rfl) (by kernel_rfl) (by kernel_rfl) (by kernel_rfl) (by kernel_rfl) ?_ ?_ ?_
  · repeat' (first | exact stable_eq _ | exact stable_ownsW _ _ | exact stable_true | exact trivial | apply And.intro)
  · refine ⟨?_, ?_, ?_, trivial⟩
    all_goals
      intro a y hb hf
      have y0 := (hb.cell (p := ⟨w.heap.size, 0, none⟩) (by show w.heap.size < _; omega)).trans c0
      have y1 := (hb.cell (p := ⟨w.heap.size, 1, none⟩) (by show w.heap.size < _; omega)).trans c1
      have hzy := hb.size
      clear hb
      simp only [PlanFacts, List.getD_cons_zero, List.getD_cons_succ, Array.getD_eq_getD_getElem?] at hf
      try simp at hf
      try go_simp
      try exact Below.refl _ _
    · refine (unhide (HS _)).mono ?_
      rintro r w1 ⟨v1, rfl, hown, hb1⟩
      exact ⟨v1, rfl, hb1, hown.mono (by omega), fun g hg => (hown.lt g hg).2⟩
  · intro f y hb hwd
    simp only [AllWords, List.take] at hwd
    have hf6 := hwd.1
    have hf8 := hwd.2.2.1
    simp only [mergeT, hf6]
    have g0 := (hb.block _ (by show w.heap.size < _; omega)).trans (unhide H0)
    have g1 := (hb.block _ (by show w.heap.size + 1 < _; omega)).trans (unhide H1)
    have g2 := (hb.block _ (by show w.heap.size + 2 < _; omega)).trans (unhide H2)
    have HBY := hide ((unhide HB).trans (hb.mono (by have := (unhide HB).size; omega)))
    generalize f 8 = v8 at *
    generalize f 7 = v7 at *
    have hzy := hb.size
    refine oper_copy_bytes (.tmp 6) (.tmp 8) rfl (w.heap.size + 2) 0 64 64 zeros (Mod.stampB o c) 207 v8 g2 rfl hf8.1.at rfl (by rw [Mod.length_stampB]; omega) (by rw [length_zeros]; omega) ?_
    intro z hz2 hF
    have G0 := hide (hF.blk g0 (by omega))
    have G1 := hide (hF.blk g1 (by omega))
    have G2 := hide hz2
    have HBZ := hide ((unhide HBY).trans (hF.below (by omega) (fun k hk e => by omega)))
    have hzz := hF.size
    clear hb hf6 hf8 g0 g1 g2 hF hz2 HBY H0 H1 H2 HB c0 c1
    clear hwd
    have c0 : z.cell? ⟨w.heap.size, 0, none⟩ = some (.int .u32 o) := blk_cell (i := 0) (unhide G0)
    have c1 : z.cell? ⟨w.heap.size, 1, none⟩ = some (.int .u64 c) := blk_cell (i := 1) (unhide G0)
    have hL1 : (lay zeros 0 (Mod.stampB o c)).length = 64 := by rw [length_lay (by rw [Mod.length_stampB, length_zeros]; omega), length_zeros]
    have HL1 := hide hL1
    clear hL1
    go_simp
    go_upto_region 4 with (refine wpList_copy_bytes rfl (.tmp 10) (.tmp 11) rfl (w.heap.size + 2) 12 40 52 (lay zeros 0 (Mod.stampB o c)) ins 207 v (unhide G2) rfl ((unhide HAT).below (unhide HBZ)) rfl hi (by rw [unhide HL1]; omega) ?_; intro u hu hF; go_simp)
    have hL2 : (lay (lay zeros 0 (Mod.stampB o c)) 12 ins).length = 64 := by rw [length_lay (by rw [unhide HL1]; omega), unhide HL1]
    have HL2 := hide hL2
    have HBU := hide ((unhide HBZ).trans (hF.below (by omega) (fun k hk e => by omega)))
    have g0 := hF.blk (unhide G0) (by omega)
    have G1 := hide (hF.blk (unhide G1) (by omega))
    have G2 := hide hu
    have hzu := hF.size
    have c0 : u.cell? ⟨w.heap.size, 0, none⟩ = some (.int .u32 o) := blk_cell (i := 0) g0
    have c1 : u.cell? ⟨w.heap.size, 1, none⟩ = some (.int .u64 c) := blk_cell (i := 1) g0
    clear hL2 hu hF g0 HBZ G0 HL1
    refine wp_region_last (by kernel_rfl)
      [fun v _ => v = .slice (some ⟨w.heap.size + 2, 52, none⟩) 12 12, fun v _ => v = .agg #[.int .u32 o, .int .u64 c], OwnsW (w.heap.size + 3) (Mod.stampB o c), fun _ _ => True]
      [[(5, none)], [(2, none)], [(14, some 1)], [(13, some 0), (15, some 2)]] [some 13, some 14, some 15, some 16] [false, false, false, false, false, false, false, false, false, false, false, false, false, true, true, true, true, false]
      3 _ rfl rfl (by kernel_rfl) (by kernel_rfl) (by kernel_rfl) (by kernel_rfl) (by kernel_rfl) (by kernel_rfl) ?_ ?_ ?_
    · repeat' (first | exact stable_eq _ | exact stable_ownsW _ _ | exact stable_true | exact trivial | apply And.intro)
    · refine ⟨?_, ?_, ?_, trivial⟩
      all_goals
        intro a y hb hf
        have y0 := (hb.cell (p := ⟨w.heap.size, 0, none⟩) (by show w.heap.size < _; omega)).trans c0
        have y1 := (hb.cell (p := ⟨w.heap.size, 1, none⟩) (by show w.heap.size < _; omega)).trans c1
        have hzy := hb.size
        clear hb
        simp only [PlanFacts, List.getD_cons_zero, List.getD_cons_succ, Array.getD_eq_getD_getElem?] at hf
        try simp at hf
        try go_simp
        try exact Below.refl _ _
      · refine (unhide (HS _)).mono ?_
        rintro r w1 ⟨v1, rfl, hown, hb1⟩
        exact ⟨v1, rfl, hb1, hown.mono (by omega), fun g hg => (hown.lt g hg).2⟩
    · intro f y hb hwd
      simp only [AllWords, List.take] at hwd
      have hf13 := hwd.1
      have hf15 := hwd.2.2.1

      simp only [mergeT, hf13]
      have g1 := (hb.block _ (by show w.heap.size + 1 < _; omega)).trans (unhide G1)
      have g2 := (hb.block _ (by show w.heap.size + 2 < _; omega)).trans (unhide G2)
      have HBY := hide ((unhide HBU).trans (hb.mono (by have := (unhide HBU).size; omega)))
      generalize f 15 = v15 at *
      generalize f 14 = v14 at *
      have hzy := hb.size
      refine oper_copy_bytes (.tmp 13) (.tmp 15) rfl (w.heap.size + 2) 52 12 12 _ (Mod.stampB o c) 207 v15 g2 rfl hf15.1.at rfl (by rw [Mod.length_stampB]; omega) (by rw [unhide HL2]; omega) ?_
      intro z3 hz2 hF
      have hL3 : (lay (lay (lay zeros 0 (Mod.stampB o c)) 12 ins) 52 (Mod.stampB o c)).length = 64 := by rw [length_lay (by rw [unhide HL2, Mod.length_stampB]; omega), unhide HL2]
      have g1 := hF.blk g1 (by omega)
      have HB3 := hide ((unhide HBY).trans (hF.below (by omega) (fun k hk e => by omega)))
      have hz3 := hF.size
      rw [show lay (lay (lay zeros 0 (Mod.stampB o c)) 12 ins) 52 (Mod.stampB o c) = Mod.sealB o c ins from lay_seal o c ins hi] at hz2 hL3
      have G1 := hide g1
      have G2 := hide hz2
      clear hb hf13 hf15 g1 g2 hF hz2 HBY HBU c0 c1
      clear hwd
      go_simp
      go_wp2_with (first
        | (refine wpList_load_sec rfl (.tmp 5) rfl (w.heap.size + 2) rfl 207 (Mod.sealB o c ins) hL3 (unhide G2) ?_)
        | (refine wpList_store_sec rfl (.tmp 4) (.tmp 17) rfl (w.heap.size + 1) rfl (Mod.sealB o c ins) hL3 rfl 207 _ (by simp [bv_length, length_zeros]) (unhide G1) ?_; intro z4 hz4 hF4; go_simp))
      exact bodyPost_ret (results_sec Tryz.results184 _ _ (w.heap.size + 1) _ _ hL3 rfl hz4) rfl ⟨rfl, (unhide HB3).trans (hF4.below (by omega) (fun k hk e => by omega))⟩
end Go.Proofs.YtamafdcnbcoegaaGreat
