/-
  Walks of courierlaw's holds: longer.
-/
import Derived.Test.YtamafdcnbcoegaaGreatH3
import Derived.Deep.RegionHeld3
namespace Go.Proofs.YtamafdcnbcoegaaGreat
open Go.RowKit

theorem info9 : (Tryz.prog.info? 9).map (fun i => (i.zero, i.size, i.bytes)) = some (some (.string ⟨#[]⟩), 1, 16) := by kernel_rfl
theorem info28 : (Tryz.prog.info? 44).map (fun i => (i.zero, i.size, i.bytes)) = some (some (.slice none 0 0), 1, 24) := by kernel_rfl
theorem info49 : (Tryz.prog.info? 108).map (fun i => (i.zero, i.size, i.bytes)) = some (some (.pointer none), 1, 8) := by kernel_rfl

/-- append of one element that lies in a block of its own. -/
theorem wp_app1 {o : Oper} {a : Act} {K : Act → World → Prop} {Q : Exit → Act → World → Prop} {w : World} (s x : Operand) (t : TypeId) (ho : o.op = .call { callee := .builtin .append, args := #[s, x], argTypes := #[t, t] })
    (e : TypeId) (z : Value) (bytes : Nat) (ht : Tryz.prog.underlying t = some (.slice e)) (hinfo : (Tryz.prog.info? e).map (fun i => (i.zero, i.size, i.bytes)) = some (some z, 1, bytes)) (hzs : z.cells.size = 1)
    (v : Value) (xs : List Value) (hown : w.ownsRow 0 e 1 v xs.length xs) (hs : a.eval s = v) (ad : Addr) (u : Value) (hx : a.eval x = .slice (some ad) 1 1) (hu : w.cell? ad = some u) (h1 : u.oneCell' = true)
    (hb : (xs.length + 1) * bytes ≤ 140737488355328) (hl : xs.length + 1 ≤ 140737488355328)
    (h : ∀ v' w', w'.ownsRow 0 e 1 v' (xs ++ [u]).length (xs ++ [u]) → w'.ownsRow 0 e 1 v xs.length xs → App w w' v v' → K (a.put o.dst v') w') : o.wp Tryz.prog a w K Q := by
  obtain ⟨i0, hi, hz0, hz1, hz2⟩ := info_parts hinfo
  obtain ⟨v', w', hr, h2, h3, h4⟩ := run_app_one (P := Tryz.prog) w t o.type e i0 z bytes ht hi hz0 hz1 hz2 hzs v xs hown ad u hu h1 hb hl
  unfold Oper.wp execOp
  simp only [ho, resolve, invoke, builtin, Sem.run_bind, Sem.run_pure, Result.andThen_ok, List.map_toArray, List.map_cons, List.map_nil, hs, hx, hr]
  exact h v' w' h2 h3 h4
theorem wpList_app1 {ops : Array Oper} {rest : List Oper} {o : Oper} {a : Act} {Q : Exit → Act → World → Prop} {w : World} (hgd : o.guard = none) (s x : Operand) (t : TypeId) (ho : o.op = .call { callee := .builtin .append, args := #[s, x], argTypes := #[t, t] })
    (e : TypeId) (z : Value) (bytes : Nat) (ht : Tryz.prog.underlying t = some (.slice e)) (hinfo : (Tryz.prog.info? e).map (fun i => (i.zero, i.size, i.bytes)) = some (some z, 1, bytes)) (hzs : z.cells.size = 1)
    (v : Value) (xs : List Value) (hown : w.ownsRow 0 e 1 v xs.length xs) (hs : a.eval s = v) (ad : Addr) (u : Value) (hx : a.eval x = .slice (some ad) 1 1) (hu : w.cell? ad = some u) (h1 : u.oneCell' = true)
    (hb : (xs.length + 1) * bytes ≤ 140737488355328) (hl : xs.length + 1 ≤ 140737488355328)
    (h : ∀ v' w', w'.ownsRow 0 e 1 v' (xs ++ [u]).length (xs ++ [u]) → w'.ownsRow 0 e 1 v xs.length xs → App w w' v v' → wpList Tryz.prog ops Q rest (a.put o.dst v') w') : wpList Tryz.prog ops Q (o :: rest) a w :=
  wpList_plain hgd fun _ hK => wp_app1 s x t ho e z bytes ht hinfo hzs v xs hown hs ad u hx hu h1 hb hl fun v' w' h2 h3 h4 => hK _ _ (h v' w' h2 h3 h4)
theorem step_app1 {ops : Array Oper} {o : Oper} {a : Act} {K : Act → World → Prop} {Q : Exit → Act → World → Prop} {E : Prop} {w : World} (hgd : o.guard = none) (s x : Operand) (t : TypeId) (ho : o.op = .call { callee := .builtin .append, args := #[s, x], argTypes := #[t, t] })
    (e : TypeId) (z : Value) (bytes : Nat) (ht : Tryz.prog.underlying t = some (.slice e)) (hinfo : (Tryz.prog.info? e).map (fun i => (i.zero, i.size, i.bytes)) = some (some z, 1, bytes)) (hzs : z.cells.size = 1)
    (v : Value) (xs : List Value) (hown : w.ownsRow 0 e 1 v xs.length xs) (hs : a.eval s = v) (ad : Addr) (u : Value) (hx : a.eval x = .slice (some ad) 1 1) (hu : w.cell? ad = some u) (h1 : u.oneCell' = true)
    (hb : (xs.length + 1) * bytes ≤ 140737488355328) (hl : xs.length + 1 ≤ 140737488355328)
    (h : ∀ v' w', w'.ownsRow 0 e 1 v' (xs ++ [u]).length (xs ++ [u]) → w'.ownsRow 0 e 1 v xs.length xs → App w w' v v' → K (a.put o.dst v') w') : if Region.wanted o (yielded ops a.tmps) = true then o.wp Tryz.prog a w K Q else E := by
  rw [if_pos (by simp [Region.wanted, hgd])]
  exact wp_app1 s x t ho e z bytes ht hinfo hzs v xs hown hs ad u hx hu h1 hb hl h

theorem own_ne {w : World} {e e' : TypeId} {v : Value} {n p : Nat} {xs : List Value} {c : Array Value} {fr : Nat × Nat} (h : w.ownsRow 0 e 1 v n xs) (hb : w.heap[p]? = some (.cells c e' fr)) (hne : e ≠ e') : v.ownBlock ≠ some p := by
  intro hp
  obtain ⟨_, h2⟩ := h
  rcases h2 with ⟨rfl, _⟩ | ⟨g, cap, cur, rfl, _, hh, _⟩
  · cases hp
  · cases hp
    rw [hh] at hb
    injection hb with hb
    injection hb with _ hb _
    exact hne hb
theorem own_shape {w : World} {e : TypeId} {v : Value} {n : Nat} {xs : List Value} (h : w.ownsRow 0 e 1 v n xs) (hn : 0 < n) : ∃ g cap, v = .slice (some ⟨g, 0, none⟩) n cap := by
  obtain ⟨_, h2⟩ := h
  rcases h2 with ⟨_, h2⟩ | ⟨g, cap, cur, e, _⟩
  · omega
  · exact ⟨g, cap, e⟩
theorem app_blk {x W w1 : World} {v v' : Value} {k : Nat} {O : Obj} (h : App W w1 v v') (hW : ∀ k, k < x.heap.size → W.heap[k]? = x.heap[k]?) (hs : x.heap.size ≤ W.heap.size) (hk : x.heap[k]? = some O) (hne : v.ownBlock ≠ some k) : w1.heap[k]? = some O := by
  have hlt := lt_of_block hk
  rw [h.grown.block k (by omega) (fun e => hne e.symm), hW k hlt]; exact hk

theorem own_app {x W w1 : World} {r r' v : Value} {er e : TypeId} {nr n : Nat} {rs xs : List Value} (h : App W w1 r r') (hW : ∀ k, k < x.heap.size → W.heap[k]? = x.heap[k]?) (hs : x.heap.size ≤ W.heap.size)
    (hr : x.ownsRow 0 er 1 r nr rs) (hv : x.ownsRow 0 e 1 v n xs) (hne : er ≠ e) : w1.ownsRow 0 e 1 v n xs := by
  refine ownsRow_keep hv (fun g hg => ?_)
  have hlt := (World.ownsRow.lt hv g hg).2
  obtain ⟨_, h2⟩ := id hv
  rcases h2 with ⟨rfl, _⟩ | ⟨g', cap, cur, rfl, _, hh, _⟩
  · cases hg
  · cases hg
    have hlt' : g' < x.heap.size := lt_of_block hh
    rw [h.grown.block g' (by omega) (fun e1 => own_ne hr hh hne e1.symm), hW g' hlt']
theorem blk_set {w : World} {q j : Nat} {c : Array Value} {e : TypeId} {fr : Nat × Nat} {v : Value} (h : w.heap[q]? = some (.cells c e fr)) : (w.setCell ⟨q, j, none⟩ v).heap[q]? = some (.cells (c.setIfInBounds j v) e fr) := by
  simp [World.setCell, Array.getElem?_modify, h]
theorem blk_set_ne {w : World} {q j k : Nat} {v : Value} (h : k ≠ q) : (w.setCell ⟨q, j, none⟩ v).heap[k]? = w.heap[k]? := Below.heap_setCell w ⟨q, j, none⟩ v k h
theorem own_set {w : World} {q j : Nat} {c : Array Value} {e e' : TypeId} {fr : Nat × Nat} {u v : Value} {n : Nat} {xs : List Value} (h : w.ownsRow 0 e 1 v n xs) (hq : w.heap[q]? = some (.cells c e' fr)) (hne : e ≠ e') :
    (w.setCell ⟨q, j, none⟩ u).ownsRow 0 e 1 v n xs := ownsRow_keep h (fun g hg => blk_set_ne (fun e1 => own_ne h hq hne (by rw [hg, e1])))

/-- Where a row lies that came of another: nowhere, in its block, or in a new one. -/
def Loc (w : World) (v v2 : Value) : Prop := v2.ownBlock = none ∨ v2.ownBlock = v.ownBlock ∨ ∃ g, v2.ownBlock = some g ∧ w.heap.size ≤ g
/-- Between the steps of longer: the elder hold and the new one, their lists, and that all else is as it was. -/
structure Mid (w X : World) (p q : Nat) (cp cq : Array Value) (tv : Value) (ts : List Value) (bv' : Value) (l : List UInt8) (fv : Value) (fs : List Value) (tv2 : Value) (ts2 : List Value) (bv2 : Value) (l2 : List UInt8) (fv2 : Value) (fs2 : List Value) : Prop where
  qnew : w.heap.size ≤ q
  pb : X.heap[p]? = some (.cells cp 110 (0, 0))
  qb : X.heap[q]? = some (.cells cq 110 (0, 0))
  t : X.ownsRow 0 9 1 tv ts.length ts
  b : X.ownsRow 0 5 1 bv' (bv l).length (bv l)
  f : X.ownsRow 0 44 1 fv fs.length fs
  t2 : X.ownsRow 0 9 1 tv2 ts2.length ts2
  b2 : X.ownsRow 0 5 1 bv2 (bv l2).length (bv l2)
  f2 : X.ownsRow 0 44 1 fv2 fs2.length fs2
  lt : Loc w tv tv2
  lb : Loc w bv' bv2
  lf : Loc w fv fv2
  os : X.os = w.os
  tape : X.tape = w.tape
  output : X.output = w.output
  size : w.heap.size ≤ X.heap.size
  rest : ∀ k, k < w.heap.size → tv.ownBlock ≠ some k → bv'.ownBlock ≠ some k → fv.ownBlock ≠ some k → X.heap[k]? = w.heap[k]?

theorem Mid.below {w X X' : World} {p q : Nat} {cp cq : Array Value} {tv bv' fv tv2 bv2 fv2 : Value} {ts fs ts2 fs2 : List Value} {l l2 : List UInt8} (M : Mid w X p q cp cq tv ts bv' l fv fs tv2 ts2 bv2 l2 fv2 fs2) (h : Below X.heap.size X X') :
    Mid w X' p q cp cq tv ts bv' l fv fs tv2 ts2 bv2 l2 fv2 fs2 := by
  have hk : ∀ {e : TypeId} {v : Value} {n : Nat} {xs : List Value}, X.ownsRow 0 e 1 v n xs → X'.ownsRow 0 e 1 v n xs := fun r => ownsRow_keep r (fun g hg => h.block g (World.ownsRow.lt r g hg).2)
  exact ⟨M.qnew, (h.block p (lt_of_block M.pb)).trans M.pb, (h.block q (lt_of_block M.qb)).trans M.qb, hk M.t, hk M.b, hk M.f, hk M.t2, hk M.b2, hk M.f2, M.lt, M.lb, M.lf, h.os.trans M.os, h.tape.trans M.tape, h.output.trans M.output,
    Nat.le_trans M.size h.size, fun k hk0 h1 h2 h3 => (h.block k (Nat.lt_of_lt_of_le hk0 M.size)).trans (M.rest k hk0 h1 h2 h3)⟩
theorem Mid.set {w X : World} {p q j : Nat} {cp cq : Array Value} {tv bv' fv tv2 bv2 fv2 : Value} {ts fs ts2 fs2 : List Value} {l l2 : List UInt8} (M : Mid w X p q cp cq tv ts bv' l fv fs tv2 ts2 bv2 l2 fv2 fs2) (hpq : p ≠ q) (v : Value) :
    Mid w (X.setCell ⟨q, j, none⟩ v) p q cp (cq.setIfInBounds j v) tv ts bv' l fv fs tv2 ts2 bv2 l2 fv2 fs2 :=
  ⟨M.qnew, (blk_set_ne hpq).trans M.pb, blk_set M.qb, own_set M.t M.qb (by decide), own_set M.b M.qb (by decide), own_set M.f M.qb (by decide), own_set M.t2 M.qb (by decide), own_set M.b2 M.qb (by decide), own_set M.f2 M.qb (by decide), M.lt, M.lb, M.lf, M.os, M.tape, M.output,
    by rw [World.size_setCell]; exact M.size, fun k hk0 h1 h2 h3 => (blk_set_ne (by have := M.qnew; omega)).trans (M.rest k hk0 h1 h2 h3)⟩
theorem loc_app {w Y W : World} {v v1 : Value} (hs : w.heap.size ≤ Y.heap.size) (ha : App Y W v v1) : Loc w v v1 := by
  rcases ha.where_ with h | ⟨_, g, h, hg⟩
  · exact .inr (.inl h)
  · exact .inr (.inr ⟨g, h, Nat.le_trans hs hg⟩)
theorem below_ad {B : Nat} {w x : World} {O : Obj} (h : Below B w x) (hB : B ≤ x.heap.size) : Below B w (x.alloc O).drew :=
  h.trans ⟨rfl, rfl, rfl, by simp, fun k hk => Below.heap_alloc x O k (Nat.lt_of_lt_of_le hk hB)⟩
theorem loc_nil (w : World) (v : Value) : Loc w v (.slice none 0 0) := .inl rfl
theorem mid_text {w Y W : World} {p q : Nat} {cp cq : Array Value} {tv bv' fv v1 : Value} {ts fs ts2 : List Value} {l : List UInt8} (hY : Below w.heap.size w Y) (ha : App Y W tv v1) (hq : w.heap.size ≤ q)
    (hp1 : W.heap[p]? = some (.cells cp 110 (0, 0))) (hq1 : W.heap[q]? = some (.cells cq 110 (0, 0))) (ht : w.ownsRow 0 9 1 tv ts.length ts) (hb : w.ownsRow 0 5 1 bv' (bv l).length (bv l)) (hf : w.ownsRow 0 44 1 fv fs.length fs)
    (ho : W.ownsRow 0 9 1 v1 ts2.length ts2) (ho' : W.ownsRow 0 9 1 tv ts.length ts) : Mid w W p q cp cq tv ts bv' l fv fs v1 ts2 (.slice none 0 0) [] (.slice none 0 0) [] :=
  ⟨hq, hp1, hq1, ho', own_app ha (fun k hk => hY.block k hk) hY.size ht hb (by decide), own_app ha (fun k hk => hY.block k hk) hY.size ht hf (by decide), ho, World.ownsRow_nil _ _ _ _, World.ownsRow_nil _ _ _ _, loc_app hY.size ha, loc_nil _ _, loc_nil _ _,
    ha.grown.os.trans hY.os, ha.grown.tape.trans hY.tape, ha.grown.output.trans hY.output, Nat.le_trans hY.size ha.grown.size,
    fun k hk h1 _ _ => (ha.grown.block k (Nat.lt_of_lt_of_le hk hY.size) (fun e => h1 e.symm)).trans (hY.block k hk)⟩
theorem Mid.bytes {w X W : World} {p q : Nat} {cp cq : Array Value} {tv bv' fv tv2 bv2 fv2 v1 : Value} {ts fs ts2 fs2 : List Value} {l l2 l3 : List UInt8} (M : Mid w X p q cp cq tv ts bv' l fv fs tv2 ts2 bv2 l2 fv2 fs2) (ha : App X W bv' v1)
    (ho : W.ownsRow 0 5 1 v1 (bv l3).length (bv l3)) (ho' : W.ownsRow 0 5 1 bv' (bv l).length (bv l)) : Mid w W p q cp cq tv ts bv' l fv fs tv2 ts2 v1 l3 fv2 fs2 :=
  ⟨M.qnew, app_blk ha (fun _ _ => rfl) (Nat.le_refl _) M.pb (own_ne M.b M.pb (by decide)), app_blk ha (fun _ _ => rfl) (Nat.le_refl _) M.qb (own_ne M.b M.qb (by decide)),
    own_app ha (fun _ _ => rfl) (Nat.le_refl _) M.b M.t (by decide), ho', own_app ha (fun _ _ => rfl) (Nat.le_refl _) M.b M.f (by decide), own_app ha (fun _ _ => rfl) (Nat.le_refl _) M.b M.t2 (by decide), ho, own_app ha (fun _ _ => rfl) (Nat.le_refl _) M.b M.f2 (by decide),
    M.lt, loc_app M.size ha, M.lf, ha.grown.os.trans M.os, ha.grown.tape.trans M.tape, ha.grown.output.trans M.output, Nat.le_trans M.size ha.grown.size,
    fun k hk h1 h2 h3 => (ha.grown.block k (Nat.lt_of_lt_of_le hk M.size) (fun e => h2 e.symm)).trans (M.rest k hk h1 h2 h3)⟩
theorem Mid.frames {w X W : World} {p q : Nat} {cp cq : Array Value} {tv bv' fv tv2 bv2 fv2 v1 : Value} {ts fs ts2 fs2 fs3 : List Value} {l l2 : List UInt8} (M : Mid w X p q cp cq tv ts bv' l fv fs tv2 ts2 bv2 l2 fv2 fs2) (ha : App X W fv v1)
    (ho : W.ownsRow 0 44 1 v1 fs3.length fs3) (ho' : W.ownsRow 0 44 1 fv fs.length fs) : Mid w W p q cp cq tv ts bv' l fv fs tv2 ts2 bv2 l2 v1 fs3 :=
  ⟨M.qnew, app_blk ha (fun _ _ => rfl) (Nat.le_refl _) M.pb (own_ne M.f M.pb (by decide)), app_blk ha (fun _ _ => rfl) (Nat.le_refl _) M.qb (own_ne M.f M.qb (by decide)),
    own_app ha (fun _ _ => rfl) (Nat.le_refl _) M.f M.t (by decide), own_app ha (fun _ _ => rfl) (Nat.le_refl _) M.f M.b (by decide), ho', own_app ha (fun _ _ => rfl) (Nat.le_refl _) M.f M.t2 (by decide), own_app ha (fun _ _ => rfl) (Nat.le_refl _) M.f M.b2 (by decide), ho,
    M.lt, M.lb, loc_app M.size ha, ha.grown.os.trans M.os, ha.grown.tape.trans M.tape, ha.grown.output.trans M.output, Nat.le_trans M.size ha.grown.size,
    fun k hk h1 h2 h3 => (ha.grown.block k (Nat.lt_of_lt_of_le hk M.size) (fun e => h3 e.symm)).trans (M.rest k hk h1 h2 h3)⟩

/-- Bytes in a new block. -/
def NewBytes (B : Nat) (w : World) (v : Value) (l : List UInt8) : Prop :=
  ∃ g cap C fr, v = .slice (some ⟨g, 0, none⟩) l.length cap ∧ B ≤ g ∧ l.length ≤ cap ∧ l.length ≤ 9223372036854775807 ∧ w.heap[g]? = some (.cells C 5 fr) ∧ ∀ i, i < l.length → C[i]? = some (.int .u8 (l.getD i 0).toNat)
theorem NewBytes.keep {B : Nat} {w w' : World} {v : Value} {l : List UInt8} (h : NewBytes B w v l) (hk : ∀ g O, w.heap[g]? = some O → B ≤ g → (∃ C fr, O = .cells C 5 fr) → w'.heap[g]? = some O) : NewBytes B w' v l := by
  obtain ⟨g, cap, C, fr, e, h1, h2, h3, h4, h5⟩ := h
  exact ⟨g, cap, C, fr, e, h1, h2, h3, hk g _ h4 h1 ⟨C, fr, rfl⟩, h5⟩
theorem NewBytes.mono {B B' : Nat} {w : World} {v : Value} {l : List UInt8} (h : NewBytes B w v l) (hB : B' ≤ B) : NewBytes B' w v l := by
  obtain ⟨g, cap, C, fr, e, h1, h2⟩ := h
  exact ⟨g, cap, C, fr, e, Nat.le_trans hB h1, h2⟩
theorem NewBytes.set {B : Nat} {w : World} {u v : Value} {l : List UInt8} {q j : Nat} {cq : Array Value} (h : NewBytes B w u l) (hq : w.heap[q]? = some (.cells cq 110 (0, 0))) : NewBytes B (w.setCell ⟨q, j, none⟩ v) u l := by
  refine h.keep (fun g O hg _ hO => ?_)
  obtain ⟨C, fr, rfl⟩ := hO
  have hne : g ≠ q := by
    rintro rfl
    rw [hg] at hq
    injection hq with hq
    injection hq with _ hq _
    exact absurd hq (by decide)
  exact (blk_set_ne hne).trans hg
theorem NewBytes.app {B : Nat} {x W w1 : World} {u r r' : Value} {l : List UInt8} {nr : Nat} {rs : List Value} (h : NewBytes B x u l) (ha : App W w1 r r') (hW : ∀ k, k < x.heap.size → W.heap[k]? = x.heap[k]?) (hs : x.heap.size ≤ W.heap.size) (hr : x.ownsRow 0 44 1 r nr rs) : NewBytes B w1 u l := by
  refine h.keep (fun g O hg _ hO => ?_)
  obtain ⟨C, fr, rfl⟩ := hO
  exact app_blk ha hW hs hg (own_ne hr hg (by decide))
theorem conv_new_bytes (w : World) (s : ByteArray) (hs : s.size ≤ 140737488355328) :
    ∃ g cap w', (convert 9 44 (.string s)).run Tryz.prog w = .ok (.slice (some ⟨g, 0, none⟩) s.size cap) w' ∧ NewBytes w.heap.size w' (.slice (some ⟨g, 0, none⟩) s.size cap) s.data.toList ∧ Below w.heap.size w w' := by
  refine ⟨_, _, _, run_bytes_of_string w 9 44 5 s Tryz.underlying9 Tryz.underlying44 Tryz.underlying5, ?_, ?_⟩
  · have hl : s.data.toList.length = s.size := by simp
    refine ⟨w.heap.size, _, bytesRow s (grownCap w s.size 0 5), ((bytesRow s (grownCap w s.size 0 5)).size, (bytesRow s (grownCap w s.size 0 5)).size + 1), by rw [hl], Nat.le_refl _, by rw [hl]; exact grownCap_ge w s.size 0 5, by omega, ?_, fun i hi => ?_⟩
    · show (w.heap.push _)[w.heap.size]? = _
      simp
    rw [hl] at hi
    have hi2 : i < s.data.size := hi
    unfold bytesRow
    rw [Array.getElem?_append_left (by simpa using hi2)]
    have he : s.data[i]? = some s.data[i] := Array.getElem?_eq_getElem hi2
    simp [he]
  · exact ((Below.refl _ _).drew).alloc (Nat.le_refl _) _
theorem ba_app (l : List UInt8) (x : Int) : (⟨l.toArray⟩ : ByteArray) ++ s1 x = ⟨(l ++ [UInt8.ofNat (x.toNat % 256)]).toArray⟩ := by
  apply ByteArray.ext
  simp [s1]

/-- A hold that has just been made. -/
def NewHold (m : Int) (t : ByteArray) (B : Nat) (v : Value) (w : World) : Prop := ∃ q, v = .pointer (some ⟨q, 0, none⟩) ∧ B ≤ q ∧ w.heap[q]? = some (.cells #[.slice none 0 0, .slice none 0 0, .slice none 0 0, .int .i64 m, .string t, .string ⟨#[]⟩] 110 (0, 0))
theorem stable_newHold (m : Int) (t : ByteArray) (B : Nat) : Stable (NewHold m t B) := by
  rintro v w w' ⟨q, rfl, hB, h⟩ hb
  exact ⟨q, rfl, hB, by rw [hb.block q (lt_of_block h)]; exact h⟩

set_option maxRecDepth 100000 in
set_option maxHeartbeats 4000000 in
theorem longer_any (p : Nat) (w : World) (tv bv' fv : Value) (nt : Nat) (l : List UInt8) (fs : List Value) (m : Int) (t : ByteArray)
    (hblk : w.heap[p]? = some (.cells #[tv, bv', fv, .int .i64 m, .string t, .string ⟨l.toArray⟩] 110 (0, 0)))
    (ht : w.ownsRow 0 9 1 tv nt (List.replicate nt (.string t))) (hbb : w.ownsRow 0 5 1 bv' l.length (bv l)) (hf : w.ownsRow 0 44 1 fv fs.length fs)
    (z1 : nt ≤ 1000) (z2 : l.length ≤ 140737488354000) (z3 : fs.length ≤ 1000) (z4 : t.size ≤ 3) :
    Calls Tryz.prog 116 #[.pointer (some ⟨p, 0, none⟩)] w fun r w' => ∃ (q : Nat) (tv2 bv2 fv2 v6 : Value) (b : UInt8), r = .returned (ptrTo q) ∧
      Mid w w' p q #[tv, bv', fv, .int .i64 m, .string t, .string ⟨l.toArray⟩] #[tv2, bv2, fv2, .int .i64 m, .string t, .string ⟨(l ++ [b]).toArray⟩] tv (List.replicate nt (.string t)) bv' l fv fs tv2 (List.replicate nt (.string t) ++ [.string t]) bv2 (l ++ [b]) fv2 (fs ++ [v6]) ∧
      ∃ B, w.heap.size ≤ B ∧ (∀ g, bv2.ownBlock = some g → g < B) ∧ NewBytes B w' v6 t.data.toList := by
  have c0 := blk_cell (i := 0) hblk
  have c1 := blk_cell (i := 1) hblk
  have c2 := blk_cell (i := 2) hblk
  have c3 := blk_cell (i := 3) hblk
  have c4 := blk_cell (i := 4) hblk
  have c5 := blk_cell (i := 5) hblk
  simp at c0 c1 c2 c3 c4 c5
  have hpl := lt_of_block hblk
  have HB := hide hblk
  have HT := hide ht
  have HBB := hide hbb
  have HF := hide hf
  clear hblk ht hbb hf
  go_enter Tryz.func116, Tryz.ntmps116
  go_upto_region 1 with fail
  refine wp_region_frame (by kernel_rfl)
    [fun v _ => v = ptrTo p, fun v _ => v = ptrTo p, fun v _ => v = .pointer (some ⟨p, 3, none⟩), fun v _ => v = .int .i64 m, fun v _ => v = ptrTo p, fun v _ => v = ptrTo p, fun v _ => v = .pointer (some ⟨p, 4, none⟩), fun v _ => v = .string t,
     fun v _ => v = .agg #[.slice none 0 0, .slice none 0 0, .slice none 0 0, .int .i64 m, .string t, .string ⟨#[]⟩], NewHold m t w.heap.size, NewHold m t w.heap.size]
    [[(0, none)], [(6, some 0)], [(7, some 1)], [(8, some 2)], [(0, none)], [(10, some 4)], [(11, some 5)], [(12, some 6)], [(9, some 3), (13, some 7)], [(14, some 8)], [(15, some 9)]] [some 6, some 7, some 8, some 9, some 10, some 11, some 12, some 13, some 14, some 15, some 3] [false, false, false, true, false, false, true, true, true, true, true, true, true, true, true, true, false, false, false, false, false, false, false, false, false, false, false, false, false, false, false, false, false, false, false, false, false, false, false, false, false, false, false, false, false, false, false, false, false, false, false, false, false, false, false, false, false, false, false, false, false, false, false, false, false, false, false, false, false, false, false, false, false, false, false, false]
    (by kernel_rfl) (by kernel_rfl) (by kernel_rfl) (by kernel_rfl) ?_ ?_ ?_
  · repeat' (first | exact stable_eq _ | exact stable_newHold _ _ _ | exact trivial | apply And.intro)
  · refine ⟨?_, ?_, ?_, ?_, ?_, ?_, ?_, ?_, ?_, ?_, ?_, trivial⟩
    all_goals
      intro a x hb hf
      have zx := hb.size
      have y3 : x.cell? ⟨p, 3, none⟩ = some (.int .i64 m) := (hb.cell (p := ⟨p, 3, none⟩) hpl).trans c3
      have y4 : x.cell? ⟨p, 4, none⟩ = some (.string t) := (hb.cell (p := ⟨p, 4, none⟩) hpl).trans c4
      clear hb
      simp only [PlanFacts, List.getD_cons_zero, List.getD_cons_succ, Array.getD_eq_getD_getElem?, ptrTo] at hf
      try simp at hf
      try go_simp
      try exact Below.refl _ _
    all_goals first
      | exact ⟨rfl, Below.refl _ _⟩
      | exact ⟨_, rfl, Below.refl _ _, hf⟩
      | exact ⟨_, rfl, (Below.refl _ _).alloc (Nat.le_refl _) _, _, rfl, zx, by show (x.heap.push _)[x.heap.size]? = _; simp⟩
  · intro f x hb hwd
    simp only [AllWords] at hwd
    obtain ⟨_, _, _, _, _, _, _, _, _, _, ⟨q, hf3, hq, hqb⟩, _⟩ := hwd
    have HBx := hide ((hb.block p hpl).trans (unhide HB))
    have hkeep : ∀ (v : Value) (e : TypeId) (n : Nat) (xs : List Value), w.ownsRow 0 e 1 v n xs → x.ownsRow 0 e 1 v n xs := fun v e n xs h => ownsRow_keep h (fun g hg => hb.block g (World.ownsRow.lt h g hg).2)
    have HTx : Hid (x.ownsRow 0 9 1 tv (List.replicate nt (Value.string t)).length (List.replicate nt (Value.string t))) := by
      have := hkeep _ _ _ _ (unhide HT)
      rw [List.length_replicate]; exact this
    have HBBx := hide (hkeep _ _ _ _ (unhide HBB))
    have HFx := hide (hkeep _ _ _ _ (unhide HF))
    have BX := hide hb
    have y0 := (hb.cell (p := ⟨p, 0, none⟩) hpl).trans c0
    have y4 := (hb.cell (p := ⟨p, 4, none⟩) hpl).trans c4
    have hqp : ¬ q = p := by omega
    have q0 := blk_cell (i := 0) hqb
    have qf0 := blk_free (i := 0) hqb
    simp at q0
    have HQ := hide hqb
    clear hb hkeep c0 c1 c2 c3 c4 c5 hqb
    simp only [mergeT, hf3]
    go_upto_region 2 with fail
    go_region_held3 (fun w' => w'.cell? ⟨p, 0, none⟩ = some tv ∧ w'.cell? ⟨p, 4, none⟩ = some (.string t))
      (go_keep)
      ((refine step_app1 rfl (.tmp 20) (.tmp 25) 45 rfl 9 (.string ⟨#[]⟩) 16 Tryz.underlying45 info9 rfl tv (List.replicate nt (.string t)) (World.ownsRow.alloc (unhide HTx) _) rfl ⟨x.heap.size, 0, none⟩ (.string t) rfl (by simp) rfl (by rw [List.length_replicate]; omega) (by rw [List.length_replicate]; omega) ?_; intro v1 w1 hown1 hold1 happ1; obtain ⟨g1, cap1, hv1⟩ := own_shape hown1 (by simp); rw [show (List.replicate nt (Value.string t) ++ [Value.string t]).length = nt + 1 by simp] at hv1; subst hv1; have hp1 := app_blk happ1 (fun k hk => Below.heap_alloc _ _ _ hk) (by simp) (unhide HBx) (own_ne (unhide HTx) (unhide HBx) (by decide)); have hq1 := app_blk happ1 (fun k hk => Below.heap_alloc _ _ _ hk) (by simp) (unhide HQ) (own_ne (unhide HTx) (unhide HQ) (by decide)); have yy0 := blk_cell (i := 0) hp1; have yy4 := blk_cell (i := 4) hp1; have qq0 := blk_cell (i := 0) hq1; have qqf := blk_free (i := 0) hq1; simp at yy0 yy4 qq0; have HP1 := hide hp1; have HQ1 := hide hq1; have HO1 := hide hown1; have HO1' := hide hold1; have HA1 := hide happ1; clear hp1 hq1 hown1 hold1 happ1))
    go_upto_region 3 with fail
    refine wp_world (fun X => Mid w X p q #[tv, bv', fv, .int .i64 m, .string t, .string ⟨l.toArray⟩] #[.slice (some ⟨g1, 0, none⟩) (nt + 1) cap1, .slice none 0 0, .slice none 0 0, .int .i64 m, .string t, .string ⟨#[]⟩]
      tv (List.replicate nt (.string t)) bv' l fv fs (.slice (some ⟨g1, 0, none⟩) (nt + 1) cap1) (List.replicate nt (.string t) ++ [.string t]) (.slice none 0 0) [] (.slice none 0 0) []) ?_ ?_
    · exact (mid_text (below_ad (unhide BX) (unhide BX).size) (unhide HA1) hq (unhide HP1) (unhide HQ1) (by rw [List.length_replicate]; exact unhide HT) (by rw [bv_length]; exact unhide HBB) (unhide HF) (unhide HO1) (unhide HO1')).set (j := 0) (fun e => hqp e.symm) _
    · intro X M
      have hpq : p ≠ q := fun e => hqp e.symm
      clear HA1 HO1 HO1' HP1 HQ1 HTx HBBx HFx HBx HQ BX y0 y4 yy0 yy4 qq0 qqf q0 qf0 HB HT HBB HF
      generalize hcq : (#[.slice (some ⟨g1, 0, none⟩) (nt + 1) cap1, .slice none 0 0, .slice none 0 0, .int .i64 m, .string t, .string ⟨#[]⟩] : Array Value) = cq at M
      have hsz : cq.size = 6 := by rw [← hcq]; rfl
      have d1 := blk_cell (i := 1) M.pb
      have d3 := blk_cell (i := 3) M.pb
      simp at d1 d3
      obtain ⟨ba, bc, hbv, _, hbc, _⟩ := Row.shape (A := fun _ => True) ⟨M.b, fun _ _ => trivial⟩
      rw [bv_length] at hbv
      subst hbv
      have MM := hide M
      clear M
      go_quiet (first | (go_at_call 167; refine Calls.quiet_of_same (sign_any _ _ _)))
      go_upto_region 4 with fail
      refine wp_world (fun X2 => Mid w X2 p q #[tv, .slice ba l.length bc, fv, .int .i64 m, .string t, .string ⟨l.toArray⟩] cq
        tv (List.replicate nt (.string t)) (.slice ba l.length bc) l fv fs (.slice (some ⟨g1, 0, none⟩) (nt + 1) cap1) (List.replicate nt (.string t) ++ [.string t]) (.slice none 0 0) [] (.slice none 0 0) []) ?_ ?_
      · exact (unhide MM).below ⟨rfl, rfl, rfl, Nat.le_refl _, fun _ _ => rfl⟩
      clear d1 d3 MM
      generalize hsb : signV m l.length = sb
      have hsr := signV_range m l.length
      rw [hsb] at hsr
      intro X2 M2
      have d1 := blk_cell (i := 1) M2.pb
      simp at d1
      have MM := hide M2
      clear M2
      go_upto_region 5 with (at_builtin; (refine wpList_app1 rfl (.tmp 43) (.tmp 45) 44 rfl 5 (.int .u8 0) 1 Tryz.underlying44 info5 rfl (.slice ba l.length bc) (bv l) (World.ownsRow.alloc (unhide MM).b _) rfl ⟨X2.heap.size, 0, none⟩ (.int .u8 sb) rfl (by simp) rfl (by rw [bv_length]; omega) (by rw [bv_length]; omega) ?_; intro v2 w2 hown2 hold2 happ2; rw [← bv_byte hsr.1 hsr.2, ← bv_append] at hown2; obtain ⟨g2, cap2, hv2⟩ := own_shape hown2 (by rw [bv_length]; simp); rw [show (bv (l ++ [UInt8.ofNat (sb.toNat % 256)])).length = l.length + 1 by simp [bv_length]] at hv2; subst hv2; have M3 := ((unhide MM).below ((Below.refl X2.heap.size X2).alloc (Nat.le_refl _) _)).bytes happ2 hown2 hold2; have qq1 := blk_free (i := 1) M3.qb; have qc1 := blk_cell (i := 1) M3.qb; rw [← hcq] at qc1; simp at qc1; have MM3 := hide M3; clear hown2 hold2 happ2 M3))
      refine wp_world (fun X4 => Mid w X4 p q #[tv, .slice ba l.length bc, fv, .int .i64 m, .string t, .string ⟨l.toArray⟩] (cq.setIfInBounds 1 (.slice (some ⟨g2, 0, none⟩) (l.length + 1) cap2))
        tv (List.replicate nt (.string t)) (.slice ba l.length bc) l fv fs (.slice (some ⟨g1, 0, none⟩) (nt + 1) cap1) (List.replicate nt (.string t) ++ [.string t]) (.slice (some ⟨g2, 0, none⟩) (l.length + 1) cap2) (l ++ [UInt8.ofNat (sb.toNat % 256)]) (.slice none 0 0) []) ?_ ?_
      · exact (unhide MM3).set hpq _
      generalize hcq2 : cq.setIfInBounds 1 (.slice (some ⟨g2, 0, none⟩) (l.length + 1) cap2) = cq2
      have hsz2 : cq2.size = 6 := by rw [← hcq2]; simp [hsz]
      clear d1 MM MM3 qq1 qc1
      have zl : l.length + 1 ≤ 9223372036854775807 := by omega
      have zs : s1 sb = s1 sb := rfl
      have z1s := s1_size sb
      have ck := fun v w => conv_one hsr.1 hsr.2 (v := v) (w := w)
      clear zs
      intro X4 M4
      have hpl4 := lt_of_block M4.pb
      have hql4 := lt_of_block M4.qb
      have d5 := blk_cell (i := 5) M4.pb
      simp at d5
      have MM4 := hide M4
      clear M4
      refine wp_region_last (by kernel_rfl)
        [fun v _ => v = ptrTo q, fun v _ => v = ptrTo p, fun v _ => v = ptrTo p, fun v _ => v = .pointer (some ⟨p, 5, none⟩), fun v _ => v = .string ⟨l.toArray⟩, fun v _ => v = .int .u8 sb, OneB sb, fun v _ => v = .string (s1 sb), fun v _ => v = .string (⟨l.toArray⟩ ++ s1 sb), fun v _ => v = ptrTo q, fun v _ => v = .pointer (some ⟨q, 5, none⟩), fun _ _ => True]
        [[(3, none)], [(0, none)], [(50, some 1)], [(51, some 2)], [(52, some 3)], [(4, none)], [(54, some 5)], [(55, some 6)], [(53, some 4), (56, some 7)], [(49, some 0)], [(58, some 9)], [(59, some 10), (57, some 8)]] [some 49, some 50, some 51, some 52, some 53, some 54, some 55, some 56, some 57, some 58, some 59, none] [false, false, false, false, false, false, false, false, false, false, false, false, false, false, false, false, false, false, false, false, false, false, false, false, false, false, false, false, false, false, false, false, false, false, false, false, false, false, false, false, false, false, false, false, false, false, false, false, false, true, true, true, true, true, true, true, true, true, true, true, false, false, false, false, false, false, false, false, false, false, false, false, false, false, false, false]
        11 _ rfl rfl (by kernel_rfl) (by kernel_rfl) (by kernel_rfl) (by kernel_rfl) (by kernel_rfl) (by kernel_rfl) ?_ ?_ ?_
      · repeat' (first | exact stable_eq _ | exact stable_oneB _ | exact stable_true | exact trivial | apply And.intro)
      · refine ⟨?_, ?_, ?_, ?_, ?_, ?_, ?_, ?_, ?_, ?_, ?_, trivial⟩
        all_goals
          intro a x hb hf
          have y5 : x.cell? ⟨p, 5, none⟩ = some (.string ⟨l.toArray⟩) := (hb.cell (p := ⟨p, 5, none⟩) hpl4).trans d5
          clear hb
          simp only [PlanFacts, List.getD_cons_zero, List.getD_cons_succ, Array.getD_eq_getD_getElem?, ptrTo] at hf
          try simp at hf
          try go_simp
          try exact Below.refl _ _
        all_goals first
          | exact ⟨rfl, Below.refl _ _⟩
          | exact ⟨_, rfl, (Below.refl _ _).alloc (Nat.le_refl _) _, _, rfl, by simp⟩
          | (rw [if_neg (by omega)]; go_simp; exact Below.refl _ _)
      · intro f5 x5 hb hwd
        simp only [AllWords, List.take] at hwd
        obtain ⟨_, _, _, _, _, _, _, _, hf57, _, hf59, _⟩ := hwd
        have M5 := (unhide MM4).below (hb.mono (Nat.le_refl _))
        have qq5 := blk_free (i := 5) M5.qb
        have qc5 := blk_cell (i := 5) M5.qb
        rw [← hcq2, ← hcq] at qc5
        simp at qc5
        have MM5 := hide M5
        clear M5 hb
        simp only [mergeT, hf57, hf59]
        go_simp
        go_upto_region 6 with fail
        refine wp_world (fun X6 => Mid w X6 p q #[tv, .slice ba l.length bc, fv, .int .i64 m, .string t, .string ⟨l.toArray⟩] (cq2.setIfInBounds 5 (.string (⟨l.toArray⟩ ++ s1 sb)))
          tv (List.replicate nt (.string t)) (.slice ba l.length bc) l fv fs (.slice (some ⟨g1, 0, none⟩) (nt + 1) cap1) (List.replicate nt (.string t) ++ [.string t]) (.slice (some ⟨g2, 0, none⟩) (l.length + 1) cap2) (l ++ [UInt8.ofNat (sb.toNat % 256)]) (.slice none 0 0) []) ?_ ?_
        · exact (unhide MM5).set hpq _
        rw [← hcq2, ← hcq]
        clear hcq hcq2 hsz hsz2 cq cq2 qc5 qq5 MM5 MM4 d5 hpl4 hql4 hf57 hf59
        intro X6 M6
        have d4 := blk_cell (i := 4) M6.pb
        simp at d4
        obtain ⟨g6, c6, Y6, hconv, hnb, hbY⟩ := conv_new_bytes X6 t (by omega)
        have hzX := M6.size
        have M7 := M6.below (hbY.mono (Nat.le_refl _))
        have e2 := blk_cell (i := 2) M7.pb
        simp at e2
        have hqn := M6.qnew
        have HB2 := hide (fun g hg => (World.ownsRow.lt M6.b2 g hg).2)
        have MM7 := hide M7
        have HNB := hide hnb
        clear M6 M7 hnb hbY
        go_upto_region 7 with fail
        go_upto_region 8 with (at_builtin; (refine wpList_app1 rfl (.tmp 69) (.tmp 71) 38 rfl 44 (.slice none 0 0) 24 Tryz.underlying38 info28 rfl fv fs (World.ownsRow.alloc (unhide MM7).f _) rfl ⟨Y6.heap.size, 0, none⟩ (.slice (some ⟨g6, 0, none⟩) t.size c6) rfl (by simp) rfl (by omega) (by omega) ?_; intro v7 w7 hown7 hold7 happ7; obtain ⟨g7, cap7, hv7⟩ := own_shape hown7 (by simp); rw [show (fs ++ [Value.slice (some ⟨g6, 0, none⟩) t.size c6]).length = fs.length + 1 by simp] at hv7; subst hv7; have M8 := ((unhide MM7).below ((Below.refl Y6.heap.size Y6).alloc (Nat.le_refl _) _)).frames happ7 hown7 hold7; have N8 := ((unhide HNB).app happ7 (fun k hk => Below.heap_alloc _ _ _ hk) (by simp) (unhide MM7).f); have qq2 := blk_free (i := 2) M8.qb; have qc2 := blk_cell (i := 2) M8.qb; simp at qc2; have MM8 := hide M8; have HN8 := hide N8; clear hown7 hold7 happ7 M8 N8))
        go_wp2
        go_ret
        refine ⟨q, .slice (some ⟨g1, 0, none⟩) (nt + 1) cap1, .slice (some ⟨g2, 0, none⟩) (l.length + 1) cap2, .slice (some ⟨g7, 0, none⟩) (fs.length + 1) cap7, .slice (some ⟨g6, 0, none⟩) t.size c6, UInt8.ofNat (sb.toNat % 256), rfl, ?_, X6.heap.size, hzX, unhide HB2, (unhide HN8).set (unhide MM8).qb⟩
        rw [← ba_app]
        exact (unhide MM8).set (j := 2) hpq (.slice (some ⟨g7, 0, none⟩) (fs.length + 1) cap7)
end Go.Proofs.YtamafdcnbcoegaaGreat
