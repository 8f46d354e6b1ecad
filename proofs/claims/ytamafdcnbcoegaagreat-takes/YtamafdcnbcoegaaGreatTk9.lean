/-
  Part 9 of a proof: D7, S1, Shelf, S2, S3, S4, S6, D8, S9A, D9.
-/
import Derived.Maps.OwnIn
import Derived.Shelf.Small.Wraps
import Derived.Shelf.LaysM
import Derived.Shelf.Strconv.Clone
import Derived.Shelf.Slices.Reverse
import Derived.Ground.Names2Prog
import Derived.Shelf.Slices.Clone
import Derived.Shelf.Slices.SearchI
import Derived.Shelf.Slices.Delete
import Derived.Shelf.Slices.Cells
import Derived.Shelf.Slices.Empties
import Derived.Test.YtamafdcnbcoegaaGreatProg
import Derived.Shelf.Spec.SlicesInsertGrow
import Derived.Test.YtamafdcnbcoegaaGreatTk8
namespace Go.Proofs.YtamafdcnbcoegaaGreat
open Go.RowKit

/-- copy of bytes into a block of whatever cells. -/
theorem oper_copy_cur {o : Oper} {a : Act} {w : World} {K : Act → World → Prop} {Q : Exit → Act → World → Prop} (d s : Operand)
    (ho : o.op = .call { callee := .builtin .copy, args := #[d, s], argTypes := #[44, 44] }) (g off n cap m : Nat) (cur : Array Value) (cs : List Value) (t : TypeId) (b o' cap' : Nat)
    (hg : w.heap[g]? = some (.cells cur t (0, 0))) (hd : a.eval d = .slice (some ⟨g, off, none⟩) n cap) (hs : a.eval s = .slice (some ⟨b, o', none⟩) m cap') (hm : cs.length = m) (hsrc : ∀ j v, cs[j]? = some v → w.cell? ⟨b, o' + j, none⟩ = some v) (hl : m ≤ n) (hfit : off + m ≤ cur.size) (h1 : ∀ v ∈ cs, v.oneCell' = true)
    (h : ∀ w', w'.heap[g]? = some (.cells (cur.toList.take off ++ (cs ++ cur.toList.drop (off + m))).toArray t (0, 0)) → Far (fun k => k = g) w w' → K (a.put o.dst (.int .i64 m)) w') : o.wp Tryz.prog a w K Q := by
  subst hm
  have hrun := run_copy_row (P := Tryz.prog) w 44 44 o.type 5 g off n cap ⟨b, o', none⟩ cs.length cap' cur t cs Tryz.underlying44 size5 hg (Nat.min_eq_left hl).symm (by
    intro j u hj
    rw [add_mk]
    exact hsrc j u hj) hfit h1
  unfold Oper.wp
  simp [execOp, ho, resolve, invoke, builtin, hd, hs, hrun, Result.andThen]
  exact h _ (setRow_heap w g cur _ t (0, 0) hg) ⟨rfl, rfl, rfl, by simp, fun k _ hk => setRow_other w g k _ hk⟩

set_option maxRecDepth 100000 in
set_option maxHeartbeats 1000000 in
theorem apply_any (w : World) (k : Nat) (S L : List UInt8) (lv : Value) (hS : S.length = 64) (hk : 64 * k + 64 ≤ L.length) (hL : L.length ≤ 10000) (hrow : w.ownsRow 0 5 1 lv L.length (bv L)) :
    Calls Tryz.prog 193 #[.agg (.int .i64 k :: bv S).toArray, lv] w fun r w' => r = .returned (.tuple #[]) ∧ w'.ownsRow 0 5 1 lv (Mod.setSec L k S).length (bv (Mod.setSec L k S)) ∧ Far (fun j => lv.ownBlock = some j) w w' := by
  have hlen := Mod.length_setSec (l := L) (k := k) hS hk
  obtain ⟨h1, h2⟩ := hrow
  rcases h2 with ⟨_, h2⟩ | ⟨g, cap, cur, rfl, hB, hh, hn, hc, hs, ht⟩
  · omega
  have hgl := lt_of_block hh
  obtain ⟨n, hnl⟩ : ∃ n, n = L.length := ⟨_, rfl⟩
  rw [← hnl] at hk hL h1 hn ht hlen ⊢
  have i0 : (0 : Int) ≤ (k : Int) * 64 := by omega
  have i1 : (k : Int) * 64 ≤ (n : Int) := by omega
  have it : ((k : Int) * 64).toNat = k * 64 := by omega
  have i2 : (n : Int) ≤ (cap : Int) := by omega
  have hw : IntKind.i64.wrap ((k : Int) * 64) = (k : Int) * 64 := by rw [IntKind.wrap_i64]; omega
  have hne : ¬ cap = k * 64 := by omega
  have hne2 : ¬ (cap : Int) = (k : Int) * 64 := by omega
  have HNL := hide hnl
  have HLEN := hide hlen
  have HT := hide ht
  have HH := hide hh
  clear hnl hlen ht hh
  go_enter Tryz.func193, Tryz.ntmps193
  go_upto_region 1 with fail
  refine wp_world (fun x => x.heap[w.heap.size]? = some (.cells (.int .i64 k :: bv S).toArray 261 (0, 0)) ∧ Below w.heap.size w x) ⟨heap_alloc_new w _, (Below.refl _ _).alloc (Nat.le_refl _) _⟩ ?_
  rintro x ⟨h0, hB0⟩
  have c0 : x.cell? ⟨w.heap.size, 0, none⟩ = some (.int .i64 k) := by rw [blk_cell h0]; simp
  have hz := lt_of_block h0
  have H0 := hide h0
  have HB0 := hide hB0
  clear h0 hB0
  refine wp_region_last (by kernel_rfl)
    [fun v _ => v = .slice (some ⟨g, 0, none⟩) n cap, fun v _ => v = .pointer (some ⟨w.heap.size, 0, none⟩), fun v _ => v = .int .i64 k, fun v _ => v = .int .i64 ((k : Int) * 64), fun v _ => v = .slice (some ⟨g, k * 64, none⟩) (n - k * 64) (cap - k * 64), fun v _ => v = .pointer (some ⟨w.heap.size, 1, none⟩), fun v _ => v = .slice (some ⟨w.heap.size, 1, none⟩) 64 64, fun _ _ => True]
    [[(1, none)], [(2, none)], [(5, some 1)], [(6, some 2)], [(4, some 0), (7, some 3)], [(2, none)], [(9, some 5)], [(8, some 4), (10, some 6)]] [some 4, some 5, some 6, some 7, some 8, some 9, some 10, some 11] [false, false, false, false, true, true, true, true, true, true, true, true]
    7 _ rfl rfl (by kernel_rfl) (by kernel_rfl) (by kernel_rfl) (by kernel_rfl) (by kernel_rfl) (by kernel_rfl) ?_ ?_ ?_
  · repeat' (first | exact stable_eq _ | exact stable_true | exact trivial | apply And.intro)
  · refine ⟨?_, ?_, ?_, ?_, ?_, ?_, ?_, trivial⟩
    all_goals
      intro a y hb hf
      have y0 := (hb.cell (p := ⟨w.heap.size, 0, none⟩) (by show w.heap.size < _; omega)).trans c0
      have hzy := hb.size
      clear hb
      simp only [PlanFacts, List.getD_cons_zero, List.getD_cons_succ, Array.getD_eq_getD_getElem?] at hf
      try simp at hf
      try go_simp
      try exact Below.refl _ _
  · intro f y hb hwd
    simp only [AllWords, List.take] at hwd
    have hf8 := hwd.2.2.2.2.1
    have hf10 := hwd.2.2.2.2.2.2.1
    simp only [mergeT, hf8, hf10]
    have g0 := (hb.block _ (by show w.heap.size < _; omega)).trans (unhide H0)
    have gl := (hb.block g (by have := (unhide HB0).size; omega)).trans (((unhide HB0).block g hgl).trans (unhide HH))
    have HBY := hide ((unhide HB0).trans (hb.mono (by have := (unhide HB0).size; omega)))
    have hzy := hb.size
    refine oper_copy_cur (.tmp 8) (.tmp 10) rfl g (k * 64) (n - k * 64) (cap - k * 64) 64 cur (bv S) 5 w.heap.size 1 64 gl rfl rfl (by rw [bv_length, hS]) ?_ (by omega) (by omega) (bv_oneCell S) ?_
    · intro j v hj
      rw [blk_cell g0, List.getElem?_toArray, Nat.add_comm 1 j, List.getElem?_cons_succ]
      exact hj
    · intro z hz hF
      have hcells : ((cur.toList.take (k * 64) ++ (bv S ++ cur.toList.drop (k * 64 + 64))).toArray).toList.take (n * 1) = bv (Mod.setSec L k S) := by
        have hA : (cur.toList.take (k * 64)).length = k * 64 := by rw [List.length_take, Array.length_toList]; omega
        have hb2 : bv (Mod.setSec L k S) = (bv L).take (64 * k) ++ (bv S ++ (bv L).drop (64 * k + 64)) := by simp [Mod.setSec, bv, List.map_take, List.map_drop]
        rw [List.toList_toArray, hb2, ← unhide HT, Nat.mul_one, List.take_take, List.drop_take, List.take_append, List.take_append, hA, bv_length, hS, List.take_of_length_le (l := cur.toList.take (k * 64)) (by rw [hA]; omega), List.take_of_length_le (l := bv S) (by rw [bv_length, hS]; omega)]
        rw [show min (64 * k) n = k * 64 by omega, show 64 * k + 64 = k * 64 + 64 by omega, show n - k * 64 - 64 = n - (k * 64 + 64) by omega]
      have HZ := hide hz
      have HF := hide hF
      clear hb hwd hf8 hf10 g0 gl hz hF c0
      go_simp
      go_wp2
      refine bodyPost_end (results_none rfl _ _ _) rfl ?_
      refine ⟨rfl, ⟨by rw [bv_length]; omega, .inr ⟨g, cap, _, by rw [unhide HLEN], Nat.zero_le _, unhide HZ, by rw [unhide HLEN]; omega, hc, by simp [bv_length]; omega, by rw [unhide HLEN]; exact hcells⟩⟩, ?_⟩
      exact (far_below (E := fun j => (Value.slice (some ⟨g, 0, none⟩) n cap).ownBlock = some j) (unhide HBY)).trans (unhide HF) (fun j _ e => by rw [e]; rfl)

/-- A disk: what is lasting, no write that isn't. -/
structure DkAt (w : World) (p : Nat) (d : Mod.Dk) (lv uv : Value) : Prop where
  blk : w.heap[p]? = some (.cells #[lv, uv, .int .i64 d.armed, .bool d.dead] 252 (0, 0))
  row : w.ownsRow 0 5 1 lv d.bytes.length (bv d.bytes)
  un : RowO w 261 65 uv 0 []
  len : 128 ≤ d.bytes.length ∧ d.bytes.length ≤ 10000
  arm : d.armed ≤ 9223372036854775807
def DkU (p : Nat) (lv uv : Value) (k : Nat) : Prop := k = p ∨ lv.ownBlock = some k ∨ uv.ownBlock = some k
theorem DkAt.far {E : Nat → Prop} {w x : World} {p : Nat} {d : Mod.Dk} {lv uv : Value} (h : DkAt w p d lv uv) (hf : Far E w x) (hE : ∀ k, DkU p lv uv k → ¬ E k) : DkAt x p d lv uv :=
  ⟨hf.blk h.blk (hE p (.inl rfl)), ownsRow_keepB h.row (fun g hg => hf.rest g (World.ownsRow.lt h.row g hg).2 (hE g (.inr (.inl hg)))), h.un.far hf (fun g hg => hE g (.inr (.inr hg))), h.len, h.arm⟩
theorem DkAt.lt {w : World} {p : Nat} {d : Mod.Dk} {lv uv : Value} (h : DkAt w p d lv uv) : ∀ k, DkU p lv uv k → k < w.heap.size := by
  rintro k (rfl | hk | hk)
  · exact lt_of_block h.blk
  · exact (World.ownsRow.lt h.row k hk).2
  · exact h.un.lt k hk

/-- Write, on a disk that has failed. -/
theorem diskWrite_dead (w : World) (p : Nat) (lv uv : Value) (n : Int) (k : Nat) (S : List UInt8) (hb : w.heap[p]? = some (.cells #[lv, uv, .int .i64 n, .bool true] 252 (0, 0))) :
    Calls Tryz.prog 182 #[.pointer (some ⟨p, 0, none⟩), .int .i64 k, .agg (bv S).toArray] w fun r w' => r = .returned (.int .i64 3) ∧ Below w.heap.size w w' := by
  have hpl := lt_of_block hb
  have c3 : ∀ ob, (w.alloc ob).cell? ⟨p, 3, none⟩ = some (.bool true) := fun ob => (World.cell?_alloc_lt w _ ⟨p, 3, none⟩ hpl).trans (blk_cell (i := 3) hb)
  clear hb
  go_enter Tryz.func182, Tryz.ntmps182
  go_wp2
  go_ret
  exact ⟨rfl, (Below.refl _ _).alloc (Nat.le_refl _) _⟩
/-- Write, at the write at which the disk fails. -/
theorem diskWrite_fail (w : World) (p : Nat) (lv uv : Value) (k : Nat) (S : List UInt8) (hb : w.heap[p]? = some (.cells #[lv, uv, .int .i64 1, .bool false] 252 (0, 0))) :
    Calls Tryz.prog 182 #[.pointer (some ⟨p, 0, none⟩), .int .i64 k, .agg (bv S).toArray] w fun r w' => r = .returned (.int .i64 4) ∧ w'.heap[p]? = some (.cells #[lv, uv, .int .i64 1, .bool true] 252 (0, 0)) ∧ Far (fun j => j = p) w w' := by
  have hpl := lt_of_block hb
  have hb2 : ∀ ob, (w.alloc ob).heap[p]? = some (.cells #[lv, uv, .int .i64 1, .bool false] 252 (0, 0)) := fun ob => (heap_alloc_old _ _ hpl).trans hb
  have c3 : ∀ ob, (w.alloc ob).cell? ⟨p, 3, none⟩ = some (.bool false) := fun ob => blk_cell (i := 3) (hb2 ob)
  have c2 : ∀ ob, (w.alloc ob).cell? ⟨p, 2, none⟩ = some (.int .i64 1) := fun ob => blk_cell (i := 2) (hb2 ob)
  have f3 : ∀ ob, (w.alloc ob).frozen? ⟨p, 3, none⟩ = false := fun ob => blk_free (i := 3) (hb2 ob)
  clear hb2
  replace hb := hide hb
  go_enter Tryz.func182, Tryz.ntmps182
  go_wp2
  go_ret
  refine ⟨rfl, ?_, ?_⟩
  · rw [heap_alloc_old _ _ (by rw [World.size_setCell]; exact hpl)]
    have := blk_set (j := 3) (v := .bool true) (unhide hb)
    simpa using this
  · exact (far_set w p 3 _).trans (far_below ((Below.refl _ _).alloc (Nat.le_refl _) _)) (fun _ _ h => h)
end Go.Proofs.YtamafdcnbcoegaaGreat
namespace Go.Proofs.YtamafdcnbcoegaaGreat
open Go.RowKit
open Go.MapKept

/-- What a map in memory holds, by its keys. -/
def MapAt (w : World) (b : Nat) (f : Int → Option Value) : Prop :=
  ∃ es clock, w.heap[b]? = some (.map es clock) ∧ (∀ x ∈ es.toList, IsKey (.int .i64) x.key) ∧ (es.toList.map (·.key)).Nodup ∧
    ∀ (k : Int) (v : Value), f k = some v ↔ ∃ x ∈ es.toList, x.key = .int .i64 k ∧ x.val = v
theorem MapAt.keep {w w' : World} {b : Nat} {f : Int → Option Value} (h : MapAt w b f) (hk : w'.heap[b]? = w.heap[b]?) : MapAt w' b f := by
  obtain ⟨es, clock, hb, r⟩ := h
  exact ⟨es, clock, hk.trans hb, r⟩
theorem MapAt.lt {w : World} {b : Nat} {f : Int → Option Value} (h : MapAt w b f) : b < w.heap.size := by
  obtain ⟨es, clock, hb, r⟩ := h
  exact (Array.getElem?_eq_some_iff.1 hb).1
theorem MapAt.not_cells {w : World} {b : Nat} {f : Int → Option Value} {c : Array Value} {t : TypeId} {fr : Nat × Nat} (h : MapAt w b f) (hc : w.heap[b]? = some (.cells c t fr)) : False := by
  obtain ⟨es, clock, hb, r⟩ := h
  rw [hb] at hc
  cases hc
theorem mapAt_new (w : World) : MapAt (w.alloc (.map #[] 0)) w.heap.size fun _ => none :=
  ⟨#[], 0, heap_alloc_new w _, by simp, by simp, by simp⟩

/-- A map value: nil, or one in memory. -/
def MapV (w : World) (v : Value) (f : Int → Option Value) : Prop := (v = .map none ∧ f = fun _ => none) ∨ ∃ b, v = .map (some b) ∧ MapAt w b f
/-- The block of a map value. -/
def mapBlock : Value → Option Nat
  | .map b => b
  | _ => none
theorem MapV.keep {w w' : World} {v : Value} {f : Int → Option Value} (h : MapV w v f) (hk : ∀ b, mapBlock v = some b → w'.heap[b]? = w.heap[b]?) : MapV w' v f := by
  rcases h with h | ⟨b, rfl, h⟩
  · exact .inl h
  · exact .inr ⟨b, rfl, h.keep (hk b rfl)⟩
theorem MapV.lt {w : World} {v : Value} {f : Int → Option Value} (h : MapV w v f) : ∀ b, mapBlock v = some b → b < w.heap.size := by
  intro b hb
  rcases h with ⟨rfl, _⟩ | ⟨b', rfl, h⟩
  · cases hb
  · cases hb; exact h.lt

theorem isKeyI (k : Int) : IsKey (.int .i64) (.int .i64 k) := by simp [IsKey]

theorem look_fits {es : List MapEntry} {f : Int → Option Value} (hk : ∀ x ∈ es, IsKey (.int .i64) x.key) (hf : ∀ (k : Int) (v : Value), f k = some v ↔ ∃ x ∈ es, x.key = .int .i64 k ∧ x.val = v) (k : Int) :
    (Instr.findNow (.int .i64) (.int .i64 k) es 0 = some none ∧ f k = none ∧ ∀ x ∈ es, x.key ≠ .int .i64 k) ∨
    ∃ j e, Instr.findNow (.int .i64) (.int .i64 k) es 0 = some (some (j, e.val)) ∧ es[j]? = some e ∧ e.key = .int .i64 k ∧ f k = some e.val := by
  rcases findNow_spec (isKeyI k) es 0 hk with ⟨h1, h2⟩ | ⟨j, e, h1, h2, h3⟩
  · refine .inl ⟨h1, ?_, h2⟩
    cases hv : f k with
    | none => rfl
    | some v =>
      obtain ⟨x, hx, hxk, _⟩ := (hf k v).1 hv
      exact absurd hxk (h2 x hx)
  · exact .inr ⟨j, e, by rw [h1]; simp, h2, h3, (hf k e.val).2 ⟨e, List.mem_of_getElem? h2, h3, rfl⟩⟩

theorem run_lookup_i {P : Program} {w : World} {t K E : TypeId} (ht : P.underlying t = some (.map K E)) (hK : P.underlying K = some (.int .i64)) {z : Value} (hz : (zeroValue E).run P w = .ok z w) {v : Value} {f : Int → Option Value} (h : MapV w v f) (k : Int) :
    (Instr.lookup t v (.int .i64 k) true).run P w = .ok (.tuple #[(f k).getD z, .bool (f k).isSome]) w ∧ (Instr.lookup t v (.int .i64 k) false).run P w = .ok ((f k).getD z) w := by
  rcases h with ⟨rfl, rfl⟩ | ⟨b, rfl, es, clock, hb, hk, hn, hf⟩
  · have h1 : Instr.findNow (.int .i64) (.int .i64 k) [] 0 = some none := rfl
    constructor <;> simp [Instr.lookup, run_underlying ht, run_checkKey hK (isKeyI k), run_findKey hK h1, hz, Result.andThen]
  · rcases look_fits hk hf k with ⟨h1, h2, _⟩ | ⟨j, e, h1, h2, h3, h4⟩
    · constructor <;> simp [Instr.lookup, run_underlying ht, MapKept.run_getObj_map hb, run_checkKey hK (isKeyI k), run_findKey hK h1, hz, h2, Result.andThen]
    · constructor <;> simp [Instr.lookup, run_underlying ht, MapKept.run_getObj_map hb, run_checkKey hK (isKeyI k), run_findKey hK h1, h4, Result.andThen]

def putF (f : Int → Option Value) (k : Int) (v : Value) : Int → Option Value := fun j => if j = k then some v else f j
def delF (f : Int → Option Value) (k : Int) : Int → Option Value := fun j => if j = k then none else f j

theorem set_fits {es : List MapEntry} {f : Int → Option Value} (hn : (es.map (·.key)).Nodup) (hk : ∀ x ∈ es, IsKey (.int .i64) x.key) (hf : ∀ (k : Int) (v : Value), f k = some v ↔ ∃ x ∈ es, x.key = .int .i64 k ∧ x.val = v) {j : Nat} {e : MapEntry} {k : Int} (hj : es[j]? = some e) (he : e.key = .int .i64 k) (v : Value) :
    (∀ x ∈ es.set j { e with key := .int .i64 k, val := v }, IsKey (.int .i64) x.key) ∧ ((es.set j { e with key := .int .i64 k, val := v }).map (·.key)).Nodup ∧
      ∀ (k' : Int) (v' : Value), putF f k v k' = some v' ↔ ∃ x ∈ es.set j { e with key := .int .i64 k, val := v }, x.key = .int .i64 k' ∧ x.val = v' := by
  have hjl : j < es.length := (List.getElem?_eq_some_iff.1 hj).1
  have hkeys : (es.set j { e with key := .int .i64 k, val := v }).map (·.key) = es.map (·.key) := by
    rw [List.map_set]
    apply List.ext_getElem?
    intro i
    rw [List.getElem?_set]
    by_cases hij : j = i
    · subst hij
      have := Option.some.inj ((List.getElem?_eq_getElem hjl).symm.trans hj)
      simp [hjl, this, he]
    · simp [hij]
  have hinj : ∀ (i : Nat) (x : MapEntry), es[i]? = some x → x.key = .int .i64 k → i = j := by
    intro i x hi hx
    by_cases hij : i = j
    · exact hij
    · have hil : i < es.length := (List.getElem?_eq_some_iff.1 hi).1
      have h0 := List.getElem_inj (xs := es.map (·.key)) (i := i) (j := j) (h₀ := by simpa using hil) (h₁ := by simpa using hjl) hn
      have e1 : (es.map (·.key))[i]'(by simpa using hil) = .int .i64 k := by
        rw [List.getElem_map, ← hx]; congr 1; rw [List.getElem?_eq_getElem hil] at hi; exact Option.some.inj hi
      have e2 : (es.map (·.key))[j]'(by simpa using hjl) = .int .i64 k := by
        rw [List.getElem_map, ← he]; congr 1; rw [List.getElem?_eq_getElem hjl] at hj; exact Option.some.inj hj
      exact h0.1 (e1.trans e2.symm)
  refine ⟨fun x hx => ?_, hkeys ▸ hn, fun k' v' => ?_⟩
  · rcases List.mem_or_eq_of_mem_set hx with h | h
    · exact hk x h
    · subst h; exact isKeyI k
  · unfold putF
    by_cases hkk : k' = k
    · subst hkk
      rw [if_pos rfl]
      constructor
      · rintro ⟨⟩
        exact ⟨_, List.mem_set hjl _, rfl, rfl⟩
      · rintro ⟨x, hx, hxk, rfl⟩
        obtain ⟨i, hi, ei⟩ := List.getElem_of_mem hx
        rw [List.getElem_set] at ei
        split at ei
        · rw [← ei]
        · rename_i hne
          have hil : i < es.length := by simpa using hi
          exact absurd (hinj i x (by rw [List.getElem?_eq_getElem hil, ei]) hxk).symm hne
    · rw [if_neg hkk, hf]
      constructor
      · rintro ⟨x, hx, hxk, rfl⟩
        obtain ⟨i, hil, ei⟩ := List.getElem_of_mem hx
        have hne : ¬ j = i := by
          rintro rfl
          rw [List.getElem?_eq_getElem hil, ei] at hj
          cases hj
          rw [he] at hxk
          injection hxk with _ h
          exact hkk h.symm
        refine ⟨x, ?_, hxk, rfl⟩
        have := List.getElem_set_ne hne (a := { e with key := .int .i64 k, val := v }) (hj := by simpa using hil)
        rw [← ei, ← this]
        exact List.getElem_mem _
      · rintro ⟨x, hx, hxk, rfl⟩
        rcases List.mem_or_eq_of_mem_set hx with h | h
        · exact ⟨x, h, hxk, rfl⟩
        · subst h
          injection hxk with _ h
          exact absurd h.symm hkk

theorem run_update_i {P : Program} {w : World} {t K E : TypeId} (ht : P.underlying t = some (.map K E)) (hK : P.underlying K = some (.int .i64)) {b : Nat} {f : Int → Option Value} (h : MapAt w b f) (k : Int) (v : Value) :
    ∃ o, (∀ y : World, y.heap = w.heap → (Instr.mapUpdate t (.map (some b)) (.int .i64 k) v).run P y = .ok () { y with heap := y.heap.setIfInBounds b o }) ∧ MapAt { w with heap := w.heap.setIfInBounds b o } b (putF f k v) := by
  obtain ⟨es, clock, hb, hk, hn, hf⟩ := h
  have hlt : b < w.heap.size := (Array.getElem?_eq_some_iff.1 hb).1
  have hset : ∀ o, ({ w with heap := w.heap.setIfInBounds b o } : World).heap[b]? = some o := fun o => by simp [hlt]
  rcases look_fits hk hf k with ⟨h1, h2, h3⟩ | ⟨j, e, h1, h2, h3, h4⟩
  · refine ⟨.map (es.push ⟨.int .i64 k, v, clock⟩) (clock + 1), ?_, es.push ⟨.int .i64 k, v, clock⟩, clock + 1, hset _, ?_, ?_, ?_⟩
    · intro y hy
      have hb : y.heap[b]? = some (.map es clock) := by rw [hy]; exact hb
      simp [Instr.mapUpdate, run_underlying ht, MapKept.run_getObj_map hb, run_checkKey hK (isKeyI k), run_findKey hK h1, run_setObj_map _ hb, Result.andThen]
    · intro x hx
      simp only [Array.toList_push, List.mem_append, List.mem_singleton] at hx
      rcases hx with hx | rfl
      · exact hk x hx
      · exact isKeyI k
    · simp only [Array.toList_push, List.map_append, List.map_cons, List.map_nil]
      rw [List.nodup_append]
      refine ⟨hn, by simp, ?_⟩
      rintro a ha c hc rfl
      simp only [List.mem_singleton] at hc
      obtain ⟨x, hx, rfl⟩ := List.mem_map.1 ha
      exact h3 x hx hc
    · intro k' v'
      unfold putF
      simp only [Array.toList_push, List.mem_append, List.mem_singleton]
      by_cases hkk : k' = k
      · subst hkk
        rw [if_pos rfl]
        constructor
        · rintro ⟨⟩
          exact ⟨_, .inr rfl, rfl, rfl⟩
        · rintro ⟨x, hx | rfl, hxk, rfl⟩
          · exact absurd hxk (h3 x hx)
          · rfl
      · rw [if_neg hkk, hf]
        constructor
        · rintro ⟨x, hx, r⟩
          exact ⟨x, .inl hx, r⟩
        · rintro ⟨x, hx | rfl, hxk, r⟩
          · exact ⟨x, hx, hxk, r⟩
          · injection hxk with _ h
            exact absurd h.symm hkk
  · have hj : es[j]? = some e := by simpa using h2
    have hlist : (es.modify j (fun e' => { e' with key := .int .i64 k, val := v })).toList = es.toList.set j { e with key := .int .i64 k, val := v } := by
      rw [Array.toList_modify]
      apply List.ext_getElem?
      intro i
      rw [List.getElem?_set, List.getElem?_modify]
      by_cases hij : j = i
      · subst hij
        have hjl : j < es.toList.length := (List.getElem?_eq_some_iff.1 h2).1
        rw [h2]
        simp at hjl
        simp [hjl]
      · simp [hij]
    have hs : ∀ w, (Instr.keyThatStays (.int .i64 k) (.int .i64 k)).run P w = .ok (.int .i64 k) w := fun w => by simp [Instr.keyThatStays, Instr.sameBits]
    obtain ⟨g1, g2, g3⟩ := set_fits hn hk hf h2 h3 v
    refine ⟨.map (es.modify j (fun e' => { e' with key := .int .i64 k, val := v })) clock, ?_, _, clock, hset _, ?_, ?_, ?_⟩
    · intro y hy
      have hb : y.heap[b]? = some (.map es clock) := by rw [hy]; exact hb
      simp [Instr.mapUpdate, run_underlying ht, MapKept.run_getObj_map hb, run_checkKey hK (isKeyI k), run_findKey hK h1, hj, h3, hs, run_setObj_map _ hb, Result.andThen]
    · rw [hlist]; exact g1
    · rw [hlist]; exact g2
    · rw [hlist]; exact g3

theorem run_delete_i {P : Program} {w : World} {t K E K' : TypeId} (ht : P.underlying t = some (.map K E)) (hK : P.underlying K = some (.int .i64)) {b : Nat} {f : Int → Option Value} (h : MapAt w b f) (k : Int) :
    ∃ o, (∀ (ty : TypeId) (y : World), y.heap = w.heap → (Builtin.delete_ #[t, K'] ty #[.map (some b), .int .i64 k]).run P y = .ok (.tuple #[]) { y with heap := y.heap.setIfInBounds b o }) ∧ MapAt { w with heap := w.heap.setIfInBounds b o } b (delF f k) := by
  obtain ⟨es, clock, hb, hk, hn, hf⟩ := h
  have hlt : b < w.heap.size := (Array.getElem?_eq_some_iff.1 hb).1
  have hset : ∀ o, ({ w with heap := w.heap.setIfInBounds b o } : World).heap[b]? = some o := fun o => by simp [hlt]
  rcases look_fits hk hf k with ⟨h1, h2, h3⟩ | ⟨j, e, h1, h2, h3, h4⟩
  · refine ⟨.map es clock, ?_, es, clock, hset _, hk, hn, ?_⟩
    · intro ty y hy
      have hb : y.heap[b]? = some (.map es clock) := by rw [hy]; exact hb
      simp [Builtin.delete_, run_underlying ht, MapKept.run_getObj_map hb, run_checkKey hK (isKeyI k), run_findKey hK h1, run_setObj_map _ hb, Result.andThen]
    · intro k' v'
      unfold delF
      by_cases hkk : k' = k
      · subst hkk
        rw [if_pos rfl]
        constructor
        · rintro ⟨⟩
        · rintro ⟨x, hx, hxk, _⟩
          exact absurd hxk (h3 x hx)
      · rw [if_neg hkk, hf]
  · have hjl : j < es.toList.length := (List.getElem?_eq_some_iff.1 h2).1
    have hlist : (es.eraseIdxIfInBounds j).toList = es.toList.eraseIdx j := by
      have : j < es.size := by simpa using hjl
      unfold Array.eraseIdxIfInBounds
      rw [dif_pos this, Array.toList_eraseIdx]
    have hsub : (es.toList.eraseIdx j).Sublist es.toList := List.eraseIdx_sublist _ _
    have hno : ∀ x ∈ es.toList.eraseIdx j, x.key ≠ .int .i64 k := by
      intro x hx hxk
      obtain ⟨i, hne, hi⟩ := List.mem_eraseIdx_iff_getElem?.1 hx
      have hil : i < es.toList.length := (List.getElem?_eq_some_iff.1 hi).1
      have h0 := List.getElem_inj (xs := es.toList.map (·.key)) (i := i) (j := j) (h₀ := by simpa using hil) (h₁ := by simpa using hjl) hn
      refine hne (h0.1 ?_)
      rw [List.getElem_map, List.getElem_map]
      rw [List.getElem?_eq_getElem hil] at hi
      rw [List.getElem?_eq_getElem hjl] at h2
      rw [Option.some.inj hi, Option.some.inj h2, hxk, h3]
    refine ⟨.map (es.eraseIdxIfInBounds j) clock, ?_, _, clock, hset _, ?_, ?_, ?_⟩
    · intro ty y hy
      have hb : y.heap[b]? = some (.map es clock) := by rw [hy]; exact hb
      simp [Builtin.delete_, run_underlying ht, MapKept.run_getObj_map hb, run_checkKey hK (isKeyI k), run_findKey hK h1, run_setObj_map _ hb, Result.andThen]
    · rw [hlist]; exact fun x hx => hk x (hsub.subset hx)
    · rw [hlist]; exact (hsub.map _).nodup hn
    · rw [hlist]
      intro k' v'
      unfold delF
      by_cases hkk : k' = k
      · subst hkk
        rw [if_pos rfl]
        constructor
        · rintro ⟨⟩
        · rintro ⟨x, hx, hxk, _⟩
          exact absurd hxk (hno x hx)
      · rw [if_neg hkk, hf]
        constructor
        · rintro ⟨x, hx, hxk, r⟩
          obtain ⟨i, hi⟩ := List.getElem?_of_mem hx
          refine ⟨x, List.mem_eraseIdx_iff_getElem?.2 ⟨i, ?_, hi⟩, hxk, r⟩
          rintro rfl
          rw [h2] at hi
          cases hi
          rw [h3] at hxk
          injection hxk with _ h
          exact hkk h.symm
        · rintro ⟨x, hx, r⟩
          exact ⟨x, hsub.subset hx, r⟩

theorem run_clear_m {P : Program} {w : World} {t K E : TypeId} (ht : P.underlying t = some (.map K E)) {b : Nat} {f : Int → Option Value} (h : MapAt w b f) :
    ∃ o, (∀ (ty : TypeId) (y : World), y.heap = w.heap → (Builtin.clear_ #[t] ty #[.map (some b)]).run P y = .ok (.tuple #[]) { y with heap := y.heap.setIfInBounds b o }) ∧ MapAt { w with heap := w.heap.setIfInBounds b o } b (fun _ => none) := by
  obtain ⟨es, clock, hb, hk, hn, hf⟩ := h
  have hlt : b < w.heap.size := (Array.getElem?_eq_some_iff.1 hb).1
  refine ⟨.map #[] clock, ?_, #[], clock, by simp [hlt], by simp, by simp, by simp⟩
  intro ty y hy
  have hb : y.heap[b]? = some (.map es clock) := by rw [hy]; exact hb
  simp [Builtin.clear_, run_underlying ht, MapKept.run_getObj_map hb, run_setObj_map _ hb, Result.andThen]
theorem far_block {w : World} (b : Nat) (o : Obj) : Far (fun k => k = b) w { w with heap := w.heap.setIfInBounds b o } :=
  ⟨rfl, rfl, rfl, by simp, fun k _ he => by
    show (w.heap.setIfInBounds b o)[k]? = _
    rw [Array.getElem?_setIfInBounds_ne (fun e => he e.symm)]⟩
theorem run_clear_n {P : Program} {w : World} {t K E ty : TypeId} (ht : P.underlying t = some (.map K E)) : (Builtin.clear_ #[t] ty #[.map none]).run P w = .ok (.tuple #[]) w := by
  simp [Builtin.clear_, run_underlying ht, Result.andThen]
end Go.Proofs.YtamafdcnbcoegaaGreat
namespace Go.Proofs
open Go.Shelf
open Go.RowKit in
open Go.RowKit in
open Go.RowKit Go.Lib Go.Sort in
open Go.RowKit Go.Lib Go.Sort in
open Go.RowKit Go.Lib Go.Sort in
def Tryz.laysNm216_ren : Go.Shelf.Ren := ⟨fun | 16 => 100 | n => n, fun | 24 => 45 | 9 => 9 | 4 => 4 | n => n, fun | n => n⟩
theorem Tryz.laysNm216 : Go.Proofs.Lays2.n16 Tryz.prog Tryz.laysNm216_ren := {
  mixed := by kernel_rfl
  f16 := Tryz.func100.trans (congrArg some (by kernel_rfl))
  t4 := Tryz.underlying4
  a4 := Tryz.isAgg4
  z4 := Tryz.sizeOf4
  v4 := Tryz.zeroValue4
  t9 := Tryz.underlying9
  a9 := Tryz.isAgg9
  z9 := Tryz.sizeOf9
  v9 := Tryz.zeroValue9
  t24 := Tryz.underlying45
  a24 := Tryz.isAgg45
  z24 := Tryz.sizeOf45
  v24 := Tryz.zeroValue45
  i9 := by kernel_rfl }
open Go.RowKit Go.Lib in
/-- slices.Clone at []string: "Clone returns a copy of the slice. The elements are copied using assignment, so this is a shallow clone. The result may have additional unused capacity. The result preserves the nilness of s.": OF A SLICE THAT IS NOT nil IT RETURNS A SLICE THAT IS NOT nil, OF THE SAME ELEMENTS, IN MEMORY OF THE CALL's OWN: in the how-to's words (6f): 'w'.ownsRow B e 1 v' n cells': v' begins at the head of a row among the blocks from B on (B: the heap's size at the call), not frozen, whose first cells are the elements · 'Below B w w'': below B all is as it was. The capacity is whatever the run-time gives. 'zs': what the cells behind the slice's address hold; 'zs.take n': its elements. (LAID: no walk: one application.) -/
theorem Tryz.slices_Clone_string (b off n c : Nat) (zs : List ByteArray) (w : World) (hz : n ≤ zs.length) (hbig : n * 16 ≤ 140737488355328) (hc : ∀ j, j < zs.length → w.cell? ⟨b, off + j, none⟩ = some (.string (zs.getD j ByteArray.empty))) :
    Calls Tryz.prog 100 #[.slice (some ⟨b, off, none⟩) n c] w fun e w' => ∃ v', e = .returned v' ∧ w'.ownsRow w.heap.size 9 1 v' n ((zs.take n).map (Value.string)) ∧ v' ≠ .slice none 0 0 ∧ Below w.heap.size w w' := Any.slices_Clone_string Tryz.laysNm216 b off n c zs w hz hbig hc
open Go.RowKit Go.Lib in
/-- The same at nil: nil comes back; the world is as it was. (LAID: no walk: one application.) -/
theorem Tryz.slices_Clone_string_nil (n c : Nat) (w : World) :
    Calls Tryz.prog 100 #[.slice none n c] w fun e w' => e = .returned (.slice none 0 0) ∧ w' = w := Any.slices_Clone_string_nil Tryz.laysNm216 n c w
open Go.RowKit Go.Lib in
open Go.RowKit Go.Lib in
open Go.RowKit Go.Lib in
open Go.RowKit Go.Lib in
def Tryz.laysNm225_ren : Go.Shelf.Ren := ⟨fun | 25 => 132 | 31 => 185 | 32 => 186 | 37 => 217 | n => n, fun | 22 => 26 | 3 => 3 | 4 => 4 | 40 => 198 | 0 => 0 | n => n, fun | n => n⟩
theorem Tryz.laysNm225 : Go.Proofs.Lays2.n25 Tryz.prog Tryz.laysNm225_ren := {
  mixed := by kernel_rfl
  f25 := Tryz.func132.trans (congrArg some (by kernel_rfl))
  f31 := Tryz.func185.trans (congrArg some (by kernel_rfl))
  f32 := Tryz.func186.trans (congrArg some (by kernel_rfl))
  f37 := Tryz.func217.trans (congrArg some (by kernel_rfl))
  t0 := Tryz.underlying0
  a0 := Tryz.isAgg0
  z0 := Tryz.sizeOf0
  v0 := Tryz.zeroValue0
  t3 := Tryz.underlying3
  a3 := Tryz.isAgg3
  z3 := Tryz.sizeOf3
  v3 := Tryz.zeroValue3
  t4 := Tryz.underlying4
  a4 := Tryz.isAgg4
  z4 := Tryz.sizeOf4
  v4 := Tryz.zeroValue4
  t22 := Tryz.underlying26
  a22 := Tryz.isAgg26
  z22 := Tryz.sizeOf26
  v22 := Tryz.zeroValue26
  t40 := Tryz.underlying198
  a40 := Tryz.isAgg198
  z40 := Tryz.sizeOf198
  v40 := Tryz.zeroValue198 }
open Go.RowKit Go.Lib in
/-- slices.BinarySearch at []int: "BinarySearch searches for target in a sorted slice and returns the earliest position where target is found, or the position where target would appear in the sort order; it also returns a bool saying whether the target is really found in the slice. The slice must be sorted in increasing order.": OF A SORTED SLICE IT RETURNS how many elements are less than the target, and whether the target is among the elements; the world is as it was but for the count of draws. 'zs': what the cells behind the slice's address hold; 'zs.take n': its elements. (Of a slice that is not sorted: no contract here.) (LAID: no walk: one application.) -/
theorem Tryz.slices_BinarySearch_int (b off n c : Nat) (zs : List Int) (x : Int) (w : World) (hz : n ≤ zs.length) (hbig : n < 4611686018427387904) (hc : ∀ j, j < zs.length → w.cell? ⟨b, off + j, none⟩ = some (.int .i64 (zs.getD j 0))) (hs : (zs.take n).Pairwise (· ≤ ·)) :
    Calls Tryz.prog 132 #[.slice (some ⟨b, off, none⟩) n c, .int .i64 x] w fun e w' => e = .returned (.tuple #[.int .i64 ((zs.take n).countP (· < x) : Nat), .bool ((zs.take n).contains x)]) ∧ ∃ q, w' = w.drewN q := Any.slices_BinarySearch_int Tryz.laysNm225 b off n c zs x w hz hbig hc hs
def Tryz.laysNm223_ren : Go.Shelf.Ren := ⟨fun | 23 => 221 | n => n, fun | 22 => 26 | 3 => 3 | 4 => 4 | 0 => 0 | n => n, fun | n => n⟩
theorem Tryz.laysNm223 : Go.Proofs.Lays2.n23 Tryz.prog Tryz.laysNm223_ren := {
  mixed := by kernel_rfl
  f23 := Tryz.func221.trans (congrArg some (by kernel_rfl))
  t0 := Tryz.underlying0
  a0 := Tryz.isAgg0
  z0 := Tryz.sizeOf0
  v0 := Tryz.zeroValue0
  t3 := Tryz.underlying3
  a3 := Tryz.isAgg3
  z3 := Tryz.sizeOf3
  v3 := Tryz.zeroValue3
  t4 := Tryz.underlying4
  a4 := Tryz.isAgg4
  z4 := Tryz.sizeOf4
  v4 := Tryz.zeroValue4
  t22 := Tryz.underlying26
  a22 := Tryz.isAgg26
  z22 := Tryz.sizeOf26
  v22 := Tryz.zeroValue26
  i3 := by kernel_rfl }
open Go.RowKit Go.Lib Go.Sort in
open Go.RowKit Go.Lib Go.Sort in
open Go.RowKit Go.Lib Go.Sort in
open Go.RowKit Go.Lib Go.Sort in
/-- slices.Delete at []int, of an argument, for i ≤ j ≤ n: the slice cut to n - (j - i) elements; the n cells hold what stood ahead of i, what stood from j on, then zeros. (LAID: no walk: one application.) -/
theorem Tryz.slices_Delete_int_cells (b off n c i j : Nat) (zs : List Int) (w : World) (hz : n ≤ zs.length) (hcap : n ≤ c) (hm : c ≤ 9223372036854775807) (hij : i ≤ j) (hj : j ≤ n) (hc : ∀ j, j < zs.length → w.cell? ⟨b, off + j, none⟩ = some (.int .i64 (zs.getD j 0))) (hf : ∀ j, j < n → w.frozen? ⟨b, off + j, none⟩ = false) :
    Calls Tryz.prog 221 #[.slice (some ⟨b, off, none⟩) n c, .int .i64 i, .int .i64 j] w fun e w' => e = .returned (.slice (some ⟨b, off, none⟩) (n - (j - i)) c) ∧ ∃ q, w' = (w.drewN q).setCells b off (((zs.take n).take i ++ (zs.take n).drop j ++ List.replicate (j - i) 0).map (Value.int .i64)) := Any.slices_Delete_int_cells Tryz.laysNm223 b off n c i j zs w hz hcap hm hij hj hc hf
open Go.RowKit Go.Lib in
/-- slices.BinarySearch at []int of no element: position 0, not found; the world is as it was. (LAID: no walk: one application.) -/
theorem Tryz.slices_BinarySearch_int_empty (a : Option Addr) (c : Nat) (x : Int) (w : World) :
    Calls Tryz.prog 132 #[.slice a 0 c, .int .i64 x] w fun e w' => e = .returned (.tuple #[.int .i64 0, .bool false]) ∧ w' = w := Any.slices_BinarySearch_int_empty Tryz.laysNm225 a c x w
open Go.RowKit Go.Lib in
/-- slices.Delete at []int of no element ('Delete(s, 0, 0)'): s comes back; the world is as it was. (LAID: no walk: one application.) -/
theorem Tryz.slices_Delete_int_empty (a : Option Addr) (c : Nat) (w : World) :
    Calls Tryz.prog 221 #[.slice a 0 c, .int .i64 0, .int .i64 0] w fun e w' => e = .returned (.slice a 0 c) ∧ w' = w := Any.slices_Delete_int_empty Tryz.laysNm223 a c w
def Tryz.laysNm221_ren : Go.Shelf.Ren := ⟨fun | 21 => 133 | 27 => 187 | 28 => 188 | 35 => 218 | 39 => 225 | n => n, fun | 22 => 26 | 3 => 3 | 4 => 4 | 0 => 0 | n => n, fun | n => n⟩
theorem Tryz.laysNm221 : Go.Proofs.Lays2.n21 Tryz.prog Tryz.laysNm221_ren := {
  mixed := by kernel_rfl
  f21 := Tryz.func133.trans (congrArg some (by kernel_rfl))
  f27 := Tryz.func187.trans (congrArg some (by kernel_rfl))
  f28 := Tryz.func188.trans (congrArg some (by kernel_rfl))
  f35 := Tryz.func218.trans (congrArg some (by kernel_rfl))
  f39 := Tryz.func225.trans (congrArg some (by kernel_rfl))
  t0 := Tryz.underlying0
  a0 := Tryz.isAgg0
  z0 := Tryz.sizeOf0
  v0 := Tryz.zeroValue0
  t3 := Tryz.underlying3
  a3 := Tryz.isAgg3
  z3 := Tryz.sizeOf3
  v3 := Tryz.zeroValue3
  t4 := Tryz.underlying4
  a4 := Tryz.isAgg4
  z4 := Tryz.sizeOf4
  v4 := Tryz.zeroValue4
  t22 := Tryz.underlying26
  a22 := Tryz.isAgg26
  z22 := Tryz.sizeOf26
  v22 := Tryz.zeroValue26
  i3 := by kernel_rfl }
end Go.Proofs
namespace Go.Proofs.YtamafdcnbcoegaaGreat
open Go.RowKit

/-- The slice is a row of these numbers. -/
def NumsAt (w : World) (v : Value) (ns : List Nat) : Prop := w.ownsRow 0 3 1 v ns.length (numCells ns)
theorem nums_get {ns : List Nat} {i : Nat} (h : i < ns.length) : (numCells ns)[i]? = some (.int .i64 (ns.getD i 0 : Nat)) := by
  simp [numCells, h, List.getD_eq_getElem?_getD]
theorem numCells_one (ns : List Nat) : ∀ u ∈ numCells ns, u.oneCell' = true := by
  intro u hu
  obtain ⟨n, _, rfl⟩ := List.mem_map.1 hu
  rfl
theorem numsAt_nil (w : World) : NumsAt w (.slice none 0 0) [] := World.ownsRow_nil _ _ _ _
theorem NumsAt.keep {w w' : World} {v : Value} {ns : List Nat} (h : NumsAt w v ns) (hk : ∀ g, v.ownBlock = some g → w'.heap[g]? = w.heap[g]?) : NumsAt w' v ns := ownsRow_keep h hk
theorem NumsAt.cases {w : World} {v : Value} {ns : List Nat} (h : NumsAt w v ns) : (v = .slice none 0 0 ∧ ns = []) ∨
    ∃ g cap cur, v = .slice (some ⟨g, 0, none⟩) ns.length cap ∧ w.heap[g]? = some (.cells cur 3 (0, 0)) ∧ ns.length ≤ cap ∧ cap ≤ maxLen ∧ cur.size = cap ∧ cur.toList.take ns.length = numCells ns := by
  obtain ⟨h1, h2⟩ := h
  rcases h2 with ⟨h2, h3⟩ | ⟨g, cap, cur, rfl, _, hh, hn, hc, hs, ht⟩
  · exact .inl ⟨h2, List.eq_nil_of_length_eq_zero h3⟩
  · exact .inr ⟨g, cap, cur, rfl, hh, hn, hc, by simpa using hs, by simpa using ht⟩
theorem numsAt_mk {w : World} {ns : List Nat} {g cap : Nat} {cur : Array Value} (hh : w.heap[g]? = some (.cells cur 3 (0, 0))) (hn : ns.length ≤ cap) (hc : cap ≤ maxLen) (hs : cur.size = cap) (ht : cur.toList.take ns.length = numCells ns) :
    NumsAt w (.slice (some ⟨g, 0, none⟩) ns.length cap) ns :=
  ⟨by simp [numCells], .inr ⟨g, cap, cur, rfl, Nat.zero_le _, hh, hn, hc, by simpa using hs, by simpa using ht⟩⟩

theorem numsAt_mk' {w : World} {ns : List Nat} {g n cap : Nat} {cur : Array Value} (hh : w.heap[g]? = some (.cells cur 3 (0, 0))) (hn : ns.length = n) (hl : n ≤ cap) (hc : cap ≤ maxLen) (hs : cur.size = cap) {rest : List Value} (ht : cur.toList = numCells ns ++ rest) :
    NumsAt w (.slice (some ⟨g, 0, none⟩) n cap) ns := by
  subst hn
  exact numsAt_mk hh hl hc hs (by rw [ht, List.take_append_of_le_length (by simp [numCells]), List.take_of_length_le (by simp [numCells])])
theorem zeros_size (n : Nat) : (Builtin.zeroCells (Value.int .i64 0).cells n).size = n := by
  rw [size_zeroCells]
  show n * 1 = n
  omega

theorem setCells_blk {b : Nat} {e : TypeId} {fr : Nat × Nat} : ∀ (vs : List Value) (o : Nat) (w : World) (cur : Array Value), w.heap[b]? = some (.cells cur e fr) → o + vs.length ≤ cur.size →
    ∃ c, (w.setCells b o vs).heap[b]? = some (.cells c e fr) ∧ c.size = cur.size ∧ c.toList = cur.toList.take o ++ vs ++ cur.toList.drop (o + vs.length)
  | [], o, w, cur, h, _ => ⟨cur, h, rfl, by simp⟩
  | v :: r, o, w, cur, h, hl => by
    have hol : o < cur.size := by simp at hl; omega
    obtain ⟨c, h1, h2, h3⟩ := setCells_blk r (o + 1) (w.setCell ⟨b, o, none⟩ v) _ (blk_set h) (by simp at hl ⊢; omega)
    refine ⟨c, h1, by rw [h2]; simp, ?_⟩
    rw [h3, Array.toList_setIfInBounds]
    have e1 : (cur.toList.set o v).take (o + 1) = cur.toList.take o ++ [v] := by
      rw [List.take_add_one, List.take_set_of_le (Nat.le_refl _)]
      simp [hol]
    have e2 : (cur.toList.set o v).drop (o + 1 + r.length) = cur.toList.drop (o + (v :: r).length) := by
      rw [List.drop_set_of_lt (by omega)]
      congr 1
      simp
      omega
    rw [e1, e2]
    simp
theorem far_setCells (b : Nat) : ∀ (vs : List Value) (o : Nat) (w : World), Far (fun k => k = b) w (w.setCells b o vs)
  | [], _, w => Far.refl _ w
  | v :: r, o, w => (far_set w b o v).trans (far_setCells b r (o + 1) _) (fun _ _ h => h)
theorem far_drewN (E : Nat → Prop) (w : World) (n : Nat) : Far E w (w.drewN n) := ⟨rfl, rfl, rfl, Nat.le_refl _, fun _ _ _ => rfl⟩

theorem ints_countP (ns : List Nat) (x : Nat) : ((ns.map Int.ofNat).countP (· < (x : Int))) = ns.countP (· < x) := by
  rw [List.countP_map]
  apply List.countP_congr
  intro a _
  simp
theorem ints_contains (ns : List Nat) (x : Nat) : ((ns.map Int.ofNat).contains (x : Int)) = ns.contains x := by
  induction ns with
  | nil => rfl
  | cons a r ih =>
    simp only [List.map_cons, List.contains_cons, ih]
    congr 1
    rw [Bool.eq_iff_iff]
    simp only [beq_iff_eq]
    exact Int.ofNat_inj

theorem search_any {w : World} {v : Value} {ns : List Nat} (h : NumsAt w v ns) (hs : ns.Pairwise (· < ·)) (hl : ns.length ≤ 1000000) (x : Nat) :
    Calls Tryz.prog 132 #[v, .int .i64 x] w fun e w' => e = .returned (.tuple #[.int .i64 (ns.countP (· < x) : Nat), .bool (ns.contains x)]) ∧ ∃ q, w' = w.drewN q := by
  rcases h.cases with ⟨rfl, rfl⟩ | ⟨g, cap, cur, rfl, hh, hn, hc, hz, ht⟩
  · refine (Tryz.slices_BinarySearch_int_empty none 0 x w).mono ?_
    rintro e w' ⟨rfl, rfl⟩
    exact ⟨rfl, 0, rfl⟩
  · have hb := Tryz.slices_BinarySearch_int g 0 ns.length cap (ns.map Int.ofNat) x w (by simp) (by omega) (fun j hj => by
      have hj' : j < ns.length := by simpa using hj
      rw [Nat.zero_add, World.ownsRow.cellAt h j (by omega), nums_get hj']
      simp [List.getD_eq_getElem?_getD, hj']) (by
      rw [List.take_of_length_le (by simp), List.pairwise_map]
      exact hs.imp (fun h => by simp; omega))
    refine hb.mono ?_
    rintro e w' ⟨rfl, q, rfl⟩
    rw [List.take_of_length_le (by simp), ints_countP, ints_contains]
    exact ⟨rfl, q, rfl⟩

theorem drop_cells {ns : List Nat} (i : Nat) : (numCells ns).drop i = numCells (ns.drop i) := by simp [numCells]
theorem take_cells {ns : List Nat} (i : Nat) : (numCells ns).take i = numCells (ns.take i) := by simp [numCells]
theorem nums_len (ns : List Nat) : (numCells ns).length = ns.length := by simp [numCells]

theorem ins_end_grow (base : Option Addr) (n c q : Nat) (cs : List Value) (x : Value) (w : World) (hnc : n ≤ c) (hroom : c < n + 1) (hbig : (n + 1) * 8 ≤ 140737488355328) (hcl : cs.length = n) (hnil : base = none → n = 0)
    (hcs : ∀ a, base = some a → ∀ j v, cs[j]? = some v → w.cell? (a.add j) = some v) (hvs : ∀ j v, [x][j]? = some v → w.cell? ⟨q, 0 + j, none⟩ = some v) (h1v : ∀ v ∈ [x], v.oneCell' = true) :
    Calls Tryz.prog 133 #[.slice base n c, .int .i64 n, .slice (some ⟨q, 0, none⟩) 1 1] w fun e w' => e = .returned (.slice (some ⟨w.heap.size, 0, none⟩) (n + 1) (grownCap w (n + 1) c 3)) ∧
      w' = w.drew.alloc (.cells ((cs ++ [x]).toArray ++ Builtin.zeroCells (Value.int .i64 0).cells (grownCap w (n + 1) c 3 - (n + 1))) 3) :=
  Any2.slices_Insert_int_end_grow Tryz.laysNm221 base n c q 0 1 1 cs [x] w (by omega) hnc hroom hbig hcl rfl hnil hcs hvs h1v
theorem ins_grow (b n c i q : Nat) (cs : List Value) (x : Value) (w : World) (hi : i < n) (hnc : n ≤ c) (hroom : c < n + 1) (hbig : (n + 1) * 8 ≤ 140737488355328) (hcl : cs.length = n)
    (hcs : ∀ j v, cs[j]? = some v → w.cell? ⟨b, 0 + j, none⟩ = some v) (hvs : ∀ j v, [x][j]? = some v → w.cell? ⟨q, 0 + j, none⟩ = some v) (h1c : ∀ v ∈ cs, v.oneCell' = true) (h1v : ∀ v ∈ [x], v.oneCell' = true) :
    Calls Tryz.prog 133 #[.slice (some ⟨b, 0, none⟩) n c, .int .i64 i, .slice (some ⟨q, 0, none⟩) 1 1] w fun e w' => e = .returned (.slice (some ⟨w.heap.size, 0, none⟩) (n + 1) (grownCap w (n + 1) c 3)) ∧
      w' = (((w.alloc (.cells ((cs.take i).toArray ++ Builtin.zeroCells (Value.int .i64 0).cells (n + 1 - i) ++ Builtin.zeroCells (Value.int .i64 0).cells (grownCap w (n + 1) c 3 - (n + 1))) 3)).drew.setCells w.heap.size i [x]).drew).setCells w.heap.size (i + 1) (cs.drop i) :=
  Any2.slices_Insert_int_grow Tryz.laysNm221 b 0 n c i q 0 1 1 cs [x] w hi (by omega) hnc hroom hbig hcl rfl hcs hvs h1c h1v
theorem insert_any {w : World} {v : Value} {ns : List Nat} (h : NumsAt w v ns) (hl : ns.length ≤ 1000000) (k x q : Nat) (hk : k ≤ ns.length) {t : TypeId} (hq : w.heap[q]? = some (.cells #[.int .i64 x] t (0, 0))) (hqv : v.ownBlock ≠ some q) :
    Calls Tryz.prog 133 #[v, .int .i64 k, .slice (some ⟨q, 0, none⟩) 1 1] w fun e w' => ∃ v', e = .returned v' ∧ NumsAt w' v' (ns.take k ++ x :: ns.drop k) ∧
      Far (fun b => v.ownBlock = some b) w w' ∧ Loc w v v' := by
  have hvs : ∀ j u, [Value.int .i64 x][j]? = some u → w.cell? ⟨q, 0 + j, none⟩ = some u := by
    intro j u hj
    rw [blk_cell hq, Nat.zero_add]
    simpa using hj
  have h1v : ∀ u ∈ [Value.int .i64 x], u.oneCell' = true := by simp [Value.oneCell']
  have hlen : (ns.take k ++ x :: ns.drop k).length = ns.length + 1 := by simp; omega
  have hout : numCells (ns.take k ++ x :: ns.drop k) = numCells (ns.take k) ++ [.int .i64 x] ++ numCells (ns.drop k) := by simp [numCells]
  have grownc : ∀ (a : Nat), grownCap w (ns.length + 1) a 3 ≤ maxLen := fun a => grownCap_le_maxLen w _ _ _ (by unfold maxLen; omega)
  have growng : ∀ (a : Nat), ns.length + 1 ≤ grownCap w (ns.length + 1) a 3 := fun a => grownCap_ge w _ _ _
  rcases h.cases with ⟨rfl, rfl⟩ | ⟨g, cap, cur, rfl, hh, hn, hc, hz, ht⟩
  · obtain rfl : k = 0 := by simpa using hk
    refine (ins_end_grow none 0 0 q [] (.int .i64 x) w (by omega) (by omega) (by omega) rfl (fun _ => rfl) (fun a ha => by cases ha) hvs h1v).mono ?_
    rintro e w' ⟨rfl, rfl⟩
    refine ⟨_, rfl, ?_, ?_, .inr (.inr ⟨_, rfl, Nat.le_refl _⟩)⟩
    · have hg := growng 0
      refine numsAt_mk' (heap_alloc_new w.drew _) hlen hg (grownc 0) ?_ (rest := (Builtin.zeroCells (Value.int .i64 0).cells (grownCap w (0 + 1) 0 3 - (0 + 1))).toList) ?_
      · rw [Array.size_append, zeros_size]
        simp only [List.nil_append, List.size_toArray, List.length_cons, List.length_nil] at hg ⊢
        omega
      · rw [Array.toList_append]
        rfl
    · exact (far_drewN _ w 1).trans (far_below ((Below.refl _ _).alloc (Nat.le_refl _) _)) (fun _ _ h => h)
  · have hqg : q ≠ g := fun e => hqv (by rw [e]; rfl)
    have hcs : ∀ j u, (numCells ns)[j]? = some u → w.cell? ⟨g, 0 + j, none⟩ = some u := by
      intro j u hj
      have hjl : j < ns.length := by
        have := (List.getElem?_eq_some_iff.1 hj).1
        rwa [nums_len] at this
      rw [Nat.zero_add, World.ownsRow.cellAt h j (by omega)]
      exact hj
    have hf : ∀ j, w.frozen? ⟨g, j, none⟩ = false := fun j => by simp [World.frozen?, hh]
    have hfq : ∀ j, w.frozen? ⟨q, j, none⟩ = false := fun j => by simp [World.frozen?, hq]
    have hcell : ∀ j, j < cap → (w.cell? ⟨g, j, none⟩).isSome = true := fun j hj => by rw [blk_cell hh]; simp [hz, hj]
    have hmx : cap ≤ 9223372036854775807 := by unfold maxLen at hc; omega
    have hk1 : (numCells (ns.take k)).length = k := by rw [nums_len, List.length_take]; omega
    have hdl : ((numCells ns).drop k).length = ns.length - k := by simp [numCells]
    by_cases hkn : k = ns.length
    · have hout2 : numCells (ns.take k ++ x :: ns.drop k) = numCells ns ++ [.int .i64 x] := by
        rw [hout, hkn]; simp [numCells]
      have hkk : (k : Int) = (ns.length : Int) := by rw [hkn]
      rw [hkk]
      by_cases hroom : ns.length + 1 ≤ cap
      · refine (Any2.slices_Insert_int_end_room Tryz.laysNm221 g 0 ns.length cap q 0 1 1 [.int .i64 x] w (by omega) hroom hmx rfl (fun j hj => by rw [Nat.zero_add]; exact hcell _ (by omega)) (fun j _ => hf _) hvs h1v).mono ?_
        rintro e w' ⟨rfl, rfl⟩
        obtain ⟨c, e1, e2, e3⟩ := setCells_blk [Value.int .i64 x] (0 + ns.length) w cur hh (by simp; omega)
        refine ⟨_, rfl, ?_, (far_setCells g _ _ w).mono (fun b _ hb => by rw [hb]; rfl), .inr (.inl rfl)⟩
        exact numsAt_mk' e1 hlen hroom hc (by rw [e2, hz]) (by rw [e3, hout2, Nat.zero_add, ht])
      · refine (ins_end_grow (some ⟨g, 0, none⟩) ns.length cap q (numCells ns) (.int .i64 x) w hn (by omega) (by omega) (nums_len _) (fun h => by cases h) (fun a ha j u hj => by
          cases ha
          rw [Addr.add_lit]
          exact hcs j u hj) hvs h1v).mono ?_
        rintro e w' ⟨rfl, rfl⟩
        refine ⟨_, rfl, ?_, ?_, .inr (.inr ⟨_, rfl, Nat.le_refl _⟩)⟩
        · have hg := growng cap
          refine numsAt_mk' (heap_alloc_new w.drew _) hlen hg (grownc cap) ?_ (rest := (Builtin.zeroCells (Value.int .i64 0).cells (grownCap w (ns.length + 1) cap 3 - (ns.length + 1))).toList) ?_
          · rw [Array.size_append, zeros_size, List.size_toArray, List.length_append, nums_len, List.length_singleton]
            omega
          · rw [hout2, Array.toList_append]
        · exact (far_drewN _ w 1).trans (far_below ((Below.refl _ _).alloc (Nat.le_refl _) _)) (fun _ _ h => h)
    · have hkl : k < ns.length := by omega
      by_cases hroom : ns.length + 1 ≤ cap
      · refine (Any2.slices_Insert_int_shift Tryz.laysNm221 g 0 ns.length cap k q 0 1 1 (numCells ns) [.int .i64 x] w hkl (by omega) hroom hmx hqg (nums_len _) rfl hcs (fun j hj => by rw [Nat.zero_add]; exact hcell _ (by omega)) (fun j _ => hf _) hvs (numCells_one ns) h1v
          t 3 1 cap (by simp [World.shape?, hq]) (by simp [World.shape?, hh, hz]) (by omega) (hfq _) (hfq _)).mono ?_
        rintro e w' ⟨rfl, rfl⟩
        obtain ⟨c, e1, e2, e3⟩ := setCells_blk ((numCells ns).drop k) (0 + (k + 1)) w.drew cur hh (by rw [hdl, hz]; omega)
        obtain ⟨c', e1', e2', e3'⟩ := setCells_blk [Value.int .i64 x] (0 + k) _ c e1 (by rw [e2, hz]; simp; omega)
        refine ⟨_, rfl, ?_, ?_, .inr (.inl rfl)⟩
        · refine numsAt_mk' e1' hlen hroom hc (by rw [e2', e2, hz]) (rest := cur.toList.drop (ns.length + 1)) ?_
          rw [e3', hout, e3]
          have a1 : (cur.toList.take (0 + (k + 1)) ++ (numCells ns).drop k ++ cur.toList.drop (0 + (k + 1) + ((numCells ns).drop k).length)).take (0 + k) = numCells (ns.take k) := by
            rw [List.append_assoc, List.take_append_of_le_length (by simp; omega), List.take_take, Nat.min_eq_left (by omega), Nat.zero_add, ← take_cells, ← ht, List.take_take, Nat.min_eq_left (by omega)]
          have a3 : 0 + k + [Value.int .i64 (x : Int)].length = 0 + (k + 1) := by simp
          have a4 : (cur.toList.take (0 + (k + 1))).length = 0 + (k + 1) := by simp; omega
          have a5 : 0 + (k + 1) + ((numCells ns).drop k).length = ns.length + 1 := by rw [hdl]; omega
          rw [a1, a3, a5, List.append_assoc (cur.toList.take _), List.drop_append_of_le_length (by rw [a4]; omega), List.drop_of_length_le (by rw [a4]; omega), List.nil_append, drop_cells]
          simp only [List.append_assoc]
        · have f1 := (far_drewN (fun k => k = g) w 1).trans (far_setCells g ((numCells ns).drop k) (0 + (k + 1)) w.drew) (fun _ _ h => h)
          exact (f1.trans (far_setCells g _ _ _) (fun _ _ h => h)).mono (fun b _ hb => by rw [hb]; rfl)
      · refine (ins_grow g ns.length cap k q (numCells ns) (.int .i64 x) w hkl hn (by omega) (by omega) (nums_len _) hcs hvs (numCells_one ns) h1v).mono ?_
        rintro e w' ⟨rfl, rfl⟩
        have hg := growng cap
        have hcm := grownc cap
        have hfa : Far (fun _ => False) w (w.alloc (.cells (((numCells ns).take k).toArray ++ Builtin.zeroCells (Value.int .i64 0).cells (ns.length + 1 - k) ++ Builtin.zeroCells (Value.int .i64 0).cells (grownCap w (ns.length + 1) cap 3 - (ns.length + 1))) 3)) := far_below ((Below.refl _ _).alloc (Nat.le_refl _) _)
        have hA := heap_alloc_new w (.cells (((numCells ns).take k).toArray ++ Builtin.zeroCells (Value.int .i64 0).cells (ns.length + 1 - k) ++ Builtin.zeroCells (Value.int .i64 0).cells (grownCap w (ns.length + 1) cap 3 - (ns.length + 1))) 3)
        have hs0 : (((numCells ns).take k).toArray ++ Builtin.zeroCells (Value.int .i64 0).cells (ns.length + 1 - k) ++ Builtin.zeroCells (Value.int .i64 0).cells (grownCap w (ns.length + 1) cap 3 - (ns.length + 1))).size = grownCap w (ns.length + 1) cap 3 := by
          rw [Array.size_append, Array.size_append, zeros_size, zeros_size]
          simp [nums_len]
          omega
        have hp0 : ∃ r, (((numCells ns).take k).toArray ++ Builtin.zeroCells (Value.int .i64 0).cells (ns.length + 1 - k) ++ Builtin.zeroCells (Value.int .i64 0).cells (grownCap w (ns.length + 1) cap 3 - (ns.length + 1))).toList = numCells (ns.take k) ++ r := ⟨_, by
          rw [Array.append_assoc, Array.toList_append, take_cells]⟩
        obtain ⟨r, hp⟩ := hp0
        generalize grownCap w (ns.length + 1) cap 3 = gc at *
        generalize (((numCells ns).take k).toArray ++ Builtin.zeroCells (Value.int .i64 0).cells (ns.length + 1 - k) ++ Builtin.zeroCells (Value.int .i64 0).cells (gc - (ns.length + 1))) = arr at *
        generalize hW : w.alloc (.cells arr 3) = W at *
        obtain ⟨c, e1, e2, e3⟩ := setCells_blk [Value.int .i64 x] k W.drew arr hA (by simp; omega)
        obtain ⟨c', e1', e2', e3'⟩ := setCells_blk ((numCells ns).drop k) (k + 1) (W.drew.setCells w.heap.size k [Value.int .i64 x]).drew c e1 (by rw [e2, hdl]; omega)
        have a2 : (numCells (ns.take k) ++ [Value.int .i64 (x : Int)]).length = k + 1 := by simp [hk1]
        refine ⟨_, rfl, ?_, ?_, .inr (.inr ⟨_, rfl, Nat.le_refl _⟩)⟩
        · refine numsAt_mk' e1' hlen hg hcm (by rw [e2', e2, hs0]) (rest := c.toList.drop (k + 1 + ((numCells ns).drop k).length)) ?_
          rw [e3', hout, e3]
          have a1 : arr.toList.take k = numCells (ns.take k) := by
            rw [hp, List.take_append_of_le_length (by omega), List.take_of_length_le (by omega)]
          rw [a1, List.take_append_of_le_length (by rw [a2]; omega), List.take_of_length_le (by rw [a2]; omega), drop_cells]
        · have f1 : Far (fun b => b = w.heap.size) W (W.drew.setCells w.heap.size k [Value.int .i64 x]).drew := (far_drewN _ W 1).trans ((far_setCells w.heap.size _ k W.drew).trans (far_drewN _ _ 1) (fun _ _ h => h)) (fun _ _ h => h)
          have f2 := f1.trans (far_setCells w.heap.size ((numCells ns).drop k) (k + 1) _) (fun _ _ h => h)
          exact (hfa.trans f2 (fun b hb h => by omega)).mono (fun _ _ h => h.elim)
end Go.Proofs.YtamafdcnbcoegaaGreat
namespace Go.Proofs.YtamafdcnbcoegaaGreat
open Go.RowKit

theorem delete_any {w : World} {v : Value} {ns : List Nat} (h : NumsAt w v ns) (i j : Nat) (hij : i ≤ j) (hj : j ≤ ns.length) :
    Calls Tryz.prog 221 #[v, .int .i64 i, .int .i64 j] w fun e w' => ∃ v', e = .returned v' ∧ NumsAt w' v' (ns.take i ++ ns.drop j) ∧
      Far (fun b => v.ownBlock = some b) w w' ∧ v'.ownBlock = v.ownBlock := by
  rcases h.cases with ⟨rfl, rfl⟩ | ⟨g, cap, cur, rfl, hh, hn, hc, hz, ht⟩
  · obtain rfl : j = 0 := by simpa using hj
    obtain rfl : i = 0 := by omega
    refine (Tryz.slices_Delete_int_empty none 0 w).mono ?_
    rintro e w' ⟨rfl, rfl⟩
    exact ⟨_, rfl, numsAt_nil _, Far.refl _ _, rfl⟩
  · refine (Tryz.slices_Delete_int_cells g 0 ns.length cap i j (ns.map Int.ofNat) w (by simp) hn (by unfold maxLen at hc; omega) hij hj (fun k hk => ?_) (fun k _ => by simp [World.frozen?, hh])).mono ?_
    · have hk' : k < ns.length := by simpa using hk
      rw [Nat.zero_add, World.ownsRow.cellAt h k (by omega), nums_get hk']
      simp [List.getD_eq_getElem?_getD, hk']
    · rintro e w' ⟨rfl, q, rfl⟩
      have hlist : (((ns.map Int.ofNat).take ns.length).take i ++ ((ns.map Int.ofNat).take ns.length).drop j ++ List.replicate (j - i) 0).map (Value.int .i64) = numCells (ns.take i ++ ns.drop j) ++ List.replicate (j - i) (.int .i64 0) := by
        have e0 : (ns.map Int.ofNat).take ns.length = ns.map Int.ofNat := List.take_of_length_le (by simp)
        rw [e0]
        simp only [List.map_append, List.map_replicate, numCells, ← List.map_take, ← List.map_drop, List.map_map]
        rfl
      rw [hlist]
      have hll : (numCells (ns.take i ++ ns.drop j) ++ List.replicate (j - i) (Value.int .i64 0)).length = ns.length := by
        simp [numCells]; omega
      obtain ⟨c, e1, e2, e3⟩ := setCells_blk (numCells (ns.take i ++ ns.drop j) ++ List.replicate (j - i) (.int .i64 0)) 0 (w.drewN q) cur hh (by rw [hll, hz]; omega)
      refine ⟨_, rfl, ?_, ?_, rfl⟩
      · refine numsAt_mk' e1 (by simp; omega) (by omega) hc (by rw [e2, hz]) (rest := List.replicate (j - i) (.int .i64 0) ++ cur.toList.drop (0 + (numCells (ns.take i ++ ns.drop j) ++ List.replicate (j - i) (Value.int .i64 0)).length)) ?_
        rw [e3]
        simp
      · exact ((far_drewN (fun k => k = g) w q).trans (far_setCells g _ _ _) (fun _ _ h => h)).mono (fun b _ hb => by rw [hb]; rfl)
end Go.Proofs.YtamafdcnbcoegaaGreat
namespace Go.Proofs.YtamafdcnbcoegaaGreat
open Go.RowKit

/-- What stands at a number. -/
def look : List (Nat × Value) → Int → Option Value
  | [], _ => none
  | x :: r, k => if k = (x.1 : Int) then some x.2 else look r k
theorem look_cons (x : Nat × Value) (r : List (Nat × Value)) (k : Int) : look (x :: r) k = if k = (x.1 : Int) then some x.2 else look r k := rfl
theorem look_nil : look [] = fun _ => none := by funext k; rfl
theorem look_mem {l : List (Nat × Value)} {k : Int} {v : Value} (h : look l k = some v) : ∃ x ∈ l, (x.1 : Int) = k ∧ x.2 = v := by
  induction l with
  | nil => cases h
  | cons x r ih =>
    unfold look at h
    split at h
    · rename_i hk
      exact ⟨x, .head _, hk.symm, Option.some.inj h⟩
    · obtain ⟨y, hy, e⟩ := ih h
      exact ⟨y, .tail _ hy, e⟩
theorem look_isSome (l : List (Nat × Value)) (n : Nat) : (look l n).isSome = (l.map (·.1)).contains n := by
  induction l with
  | nil => rfl
  | cons x r ih =>
    unfold look
    rw [List.map_cons, List.contains_cons]
    by_cases h : n = x.1
    · subst h; simp
    · rw [if_neg (by omega), ih]
      simp [h]

/-- A thing is laid at its number, in place of what lies there. -/
def putL : List (Nat × Value) → Nat → Value → List (Nat × Value)
  | [], n, v => [(n, v)]
  | x :: r, n, v => if n < x.1 then (n, v) :: x :: r else if n = x.1 then (n, v) :: r else x :: putL r n v
theorem look_putL (l : List (Nat × Value)) (n : Nat) (v : Value) : look (putL l n v) = putF (look l) n v := by
  funext k
  induction l with
  | nil => simp [putL, look, putF]
  | cons x r ih =>
    unfold putL
    by_cases h1 : n < x.1
    · rw [if_pos h1]
      show (if k = (n : Int) then some v else look (x :: r) k) = _
      rfl
    · rw [if_neg h1]
      by_cases h2 : n = x.1
      · rw [if_pos h2]
        show (if k = (n : Int) then some v else look r k) = _
        unfold putF
        rw [look_cons]
        by_cases h3 : k = (n : Int)
        · rw [if_pos h3, if_pos h3]
        · rw [if_neg h3, if_neg h3, if_neg (by omega)]
      · rw [if_neg h2]
        show (if k = (x.1 : Int) then some x.2 else look (putL r n v) k) = _
        rw [ih]
        unfold putF
        show _ = if k = (n : Int) then some v else (if k = (x.1 : Int) then some x.2 else look r k)
        by_cases h3 : k = (x.1 : Int)
        · rw [if_pos h3, if_neg (by omega), if_pos h3]
        · rw [if_neg h3, if_neg h3]
theorem mem_putL {l : List (Nat × Value)} {n : Nat} {v : Value} {x : Nat × Value} (h : x ∈ putL l n v) : x = (n, v) ∨ x ∈ l := by
  induction l with
  | nil => simp [putL] at h; exact .inl h
  | cons y r ih =>
    unfold putL at h
    split at h
    · cases h with
      | head => exact .inl rfl
      | tail _ h => exact .inr h
    · split at h
      · cases h with
        | head => exact .inl rfl
        | tail _ h => exact .inr (.tail _ h)
      · cases h with
        | head => exact .inr (.head _)
        | tail _ h => exact (ih h).imp id (fun h => .tail _ h)
theorem countP_zero_of {r : List Nat} {n : Nat} (h : ∀ y ∈ r, ¬ y < n) : r.countP (· < n) = 0 := by
  rw [List.countP_eq_zero]
  intro y hy
  simpa using h y hy
theorem keys_putL {l : List (Nat × Value)} {n : Nat} {v : Value} (hs : (l.map (·.1)).Pairwise (· < ·)) :
    (putL l n v).map (·.1) = if (l.map (·.1)).contains n then l.map (·.1) else (l.map (·.1)).take ((l.map (·.1)).countP (· < n)) ++ n :: (l.map (·.1)).drop ((l.map (·.1)).countP (· < n)) := by
  induction l with
  | nil => simp [putL]
  | cons x r ih =>
    rw [List.map_cons, List.pairwise_cons] at hs
    obtain ⟨h0, hs⟩ := hs
    unfold putL
    rw [List.map_cons, List.contains_cons, List.countP_cons]
    by_cases h1 : n < x.1
    · have hz : (r.map (·.1)).countP (· < n) = 0 := countP_zero_of (fun y hy => by have := h0 y hy; omega)
      have hn : (r.map (·.1)).contains n = false := by
        cases h : (r.map (·.1)).contains n with
        | false => rfl
        | true => have := h0 n (by simpa using h); omega
      have hne : (n == x.1) = false := by simp; omega
      rw [if_pos h1, hz, hn, hne, if_neg (by simp)]
      have : decide (x.1 < n) = false := by simp; omega
      simp [this]
    · rw [if_neg h1]
      by_cases h2 : n = x.1
      · have hne : (n == x.1) = true := by simp [h2]
        rw [if_pos h2, hne, if_pos (by simp)]
        simp [h2]
      · have hlt : x.1 < n := by omega
        have hne : (n == x.1) = false := by simp [h2]
        rw [if_neg h2, hne, List.map_cons, ih hs]
        simp only [Bool.false_or]
        by_cases hc : (r.map (·.1)).contains n = true
        · rw [if_pos hc, if_pos hc]
        · rw [if_neg hc, if_neg hc]
          simp [hlt]
theorem sorted_putL {l : List (Nat × Value)} {n : Nat} {v : Value} (hs : (l.map (·.1)).Pairwise (· < ·)) : ((putL l n v).map (·.1)).Pairwise (· < ·) := by
  induction l with
  | nil => simp [putL]
  | cons x r ih =>
    have hs0 := hs
    rw [List.map_cons, List.pairwise_cons] at hs
    obtain ⟨h0, hs⟩ := hs
    unfold putL
    by_cases h1 : n < x.1
    · rw [if_pos h1, List.map_cons, List.pairwise_cons]
      refine ⟨fun y hy => ?_, hs0⟩
      rw [List.map_cons] at hy
      cases hy with
      | head => exact h1
      | tail _ hy => exact Nat.lt_trans h1 (h0 y hy)
    · rw [if_neg h1]
      by_cases h2 : n = x.1
      · rw [if_pos h2, List.map_cons, List.pairwise_cons]
        exact ⟨fun y hy => by rw [h2]; exact h0 y hy, hs⟩
      · rw [if_neg h2, List.map_cons, List.pairwise_cons]
        refine ⟨fun y hy => ?_, ih hs⟩
        obtain ⟨z, hz, rfl⟩ := List.mem_map.1 hy
        rcases mem_putL hz with rfl | hz
        · show x.1 < n; omega
        · exact h0 _ (List.mem_map.2 ⟨z, hz, rfl⟩)
theorem length_putL_le (l : List (Nat × Value)) (n : Nat) (v : Value) : (putL l n v).length ≤ l.length + 1 := by
  induction l with
  | nil => simp [putL]
  | cons x r ih =>
    unfold putL
    split
    · simp
    · split
      · simp
      · simp only [List.length_cons]; omega

/-- The two fields of a shelf. -/
structure ShelfIs (w : World) (nv mv : Value) (l : List (Nat × Value)) : Prop where
  nums : NumsAt w nv (l.map (·.1))
  map : MapV w mv (look l)
  sorted : (l.map (·.1)).Pairwise (· < ·)
  len : l.length ≤ 1000
theorem ShelfIs.keep {w w' : World} {nv mv : Value} {l : List (Nat × Value)} (h : ShelfIs w nv mv l) (hn : ∀ g, nv.ownBlock = some g → w'.heap[g]? = w.heap[g]?) (hm : ∀ g, mapBlock mv = some g → w'.heap[g]? = w.heap[g]?) : ShelfIs w' nv mv l :=
  ⟨h.nums.keep hn, h.map.keep hm, h.sorted, h.len⟩
/-- The blocks of a shelf. -/
def ShU (nv mv : Value) (k : Nat) : Prop := nv.ownBlock = some k ∨ mapBlock mv = some k
theorem ShelfIs.far {E : Nat → Prop} {w w' : World} {nv mv : Value} {l : List (Nat × Value)} (h : ShelfIs w nv mv l) (hf : Far E w w') (hE : ∀ k, ShU nv mv k → ¬ E k) : ShelfIs w' nv mv l :=
  h.keep (fun g hg => hf.rest g (World.ownsRow.lt h.nums g hg).2 (hE g (.inl hg))) (fun g hg => hf.rest g (h.map.lt g hg) (hE g (.inr hg)))
theorem ShelfIs.lt {w : World} {nv mv : Value} {l : List (Nat × Value)} (h : ShelfIs w nv mv l) : ∀ k, ShU nv mv k → k < w.heap.size := by
  rintro k (hk | hk)
  · exact (World.ownsRow.lt h.nums k hk).2
  · exact h.map.lt k hk
theorem shelfIs_nil (w : World) : ShelfIs w (.slice none 0 0) (.map none) [] := ⟨numsAt_nil w, .inl ⟨rfl, look_nil⟩, by simp, by simp⟩
/-- A block of cells that are no ints is none of a shelf's. -/
theorem ShelfIs.ne {w : World} {nv mv : Value} {l : List (Nat × Value)} (h : ShelfIs w nv mv l) {p : Nat} {c : Array Value} {t : TypeId} {fr : Nat × Nat} (hp : w.heap[p]? = some (.cells c t fr)) (ht : t ≠ 3) : ¬ ShU nv mv p := by
  rintro (hk | hk)
  · exact (RowO.of_own h.nums).ne hp (fun e => ht e.symm) hk
  · rcases h.map with ⟨rfl, _⟩ | ⟨b, rfl, hm⟩
    · cases hk
    · cases hk; exact hm.not_cells hp
end Go.Proofs.YtamafdcnbcoegaaGreat
namespace Go.Proofs.YtamafdcnbcoegaaGreat
open Go.RowKit

/-- A shelf's two fields stand in a block. -/
structure ShAt (w : World) (p o : Nat) (t : TypeId) (arr : Array Value) (nv mv : Value) (l : List (Nat × Value)) : Prop where
  blk : w.heap[p]? = some (.cells arr t (0, 0))
  c0 : arr[o]? = some nv
  c1 : arr[o + 1]? = some mv
  sh : ShelfIs w nv mv l
  ty : t ≠ 3
/-- Behind a call that may write a shelf: its block (the two fields alone), its row and its map. -/
structure ShStep (w x : World) (p o : Nat) (t : TypeId) (arr : Array Value) (nv mv : Value) (l' : List (Nat × Value)) : Prop where
  out : ∃ nv' mv', ShAt x p o t ((arr.setIfInBounds o nv').setIfInBounds (o + 1) mv') nv' mv' l' ∧ Loc w nv nv' ∧ (mapBlock mv' = mapBlock mv ∨ ∃ g, mapBlock mv' = some g ∧ w.heap.size ≤ g)
  far : Far (fun k => k = p ∨ ShU nv mv k) w x

theorem set_same {arr : Array Value} {i : Nat} {v : Value} (h : arr[i]? = some v) : arr.setIfInBounds i v = arr := by
  apply Array.ext'
  rw [Array.toList_setIfInBounds]
  apply List.ext_getElem?
  intro j
  rw [List.getElem?_set]
  by_cases hij : i = j
  · subst hij
    have hlt : i < arr.size := (Array.getElem?_eq_some_iff.1 h).1
    rw [if_pos rfl, Array.length_toList, if_pos hlt]
    simpa using h.symm
  · simp [hij]

theorem set_comm {arr : Array Value} {i j : Nat} (u v : Value) (h : i ≠ j) : (arr.setIfInBounds i u).setIfInBounds j v = (arr.setIfInBounds j v).setIfInBounds i u := by
  apply Array.ext'
  simp only [Array.toList_setIfInBounds]
  exact List.set_comm _ _ h
theorem NumsAt.notMap {w : World} {v : Value} {ns : List Nat} {b : Nat} {f : Int → Option Value} (N : NumsAt w v ns) (M : MapAt w b f) : v.ownBlock ≠ some b := by
  intro h
  rcases N.cases with ⟨rfl, _⟩ | ⟨g, cap, cur, rfl, hh, _⟩
  · cases h
  · cases h
    exact M.not_cells hh
theorem loc_less {w x : World} {a b : Value} (h : Loc x a b) (hs : w.heap.size ≤ x.heap.size) : Loc w a b := by
  rcases h with h | h | ⟨g, h, hg⟩
  · exact .inl h
  · exact .inr (.inl h)
  · exact .inr (.inr ⟨g, h, Nat.le_trans hs hg⟩)

theorem put_end {w z W : World} {p o : Nat} {t : TypeId} {arr : Array Value} {nv nv' mv : Value} {l : List (Nat × Value)} {n mb : Nat} {v : Value} (h0 : o < arr.size) (h1 : o + 1 < arr.size) (hb : z.heap[p]? = some (.cells ((arr.setIfInBounds o nv').setIfInBounds (o + 1) (.map (some mb))) t (0, 0))) (ht : t ≠ 3)
    (N : NumsAt z nv' ((putL l n v).map (·.1))) (M : MapAt z mb (look l)) (hf : Far (fun k => k = p ∨ nv.ownBlock = some k) w z) (hl : Loc w nv nv') (hloc : mapBlock mv = some mb ∨ w.heap.size ≤ mb)
    (hM : MapAt W mb (putF (look l) n v)) (hW : Far (fun k => k = mb) z W) (hs : (l.map (·.1)).Pairwise (· < ·)) (hlen : l.length < 1000) : ShStep w W p o t arr nv mv (putL l n v) := by
  have hpm : ¬ p = mb := fun e => M.not_cells (by rw [← e]; exact hb)
  refine ⟨⟨nv', .map (some mb), ⟨hW.blk hb hpm, ?_, ?_, ⟨N.keep (fun g hg => hW.rest g (World.ownsRow.lt N g hg).2 (fun e => N.notMap M (by rw [hg, e]))), .inr ⟨mb, rfl, by rw [look_putL]; exact hM⟩, sorted_putL hs, by have := length_putL_le l n v; omega⟩, ht⟩, hl, ?_⟩, ?_⟩
  · rw [Array.getElem?_setIfInBounds_ne (by omega)]; simp [h0]
  · simp [h1]
  · rcases hloc with h | h
    · exact .inl h.symm
    · exact .inr ⟨mb, rfl, h⟩
  · refine (hf.mono (fun k _ h => h.elim .inl (fun h => .inr (.inl h)))).trans hW (fun k hk e => ?_)
    rcases hloc with h | h
    · exact .inr (.inr (by rw [h, e]))
    · omega

end Go.Proofs.YtamafdcnbcoegaaGreat
namespace Go.Proofs.YtamafdcnbcoegaaGreat
open Go.RowKit

/-- A row of one write, in a block of its own. -/
def OneW (B : Nat) (cs : List Value) (v : Value) (w : World) : Prop := ∃ g, v = .slice (some ⟨g, 0, none⟩) 1 1 ∧ B ≤ g ∧ w.heap[g]? = some (.cells cs.toArray 261 (0, 0))
theorem stable_oneW (B : Nat) (cs : List Value) : Stable (OneW B cs) := fun _ _ _ h hb => by
  obtain ⟨g, e, h1, h2⟩ := h
  exact ⟨g, e, h1, (hb.block g (lt_of_block h2)).trans h2⟩
theorem stableF_oneW {B : Nat} {cs : List Value} {E : Nat → Prop} (hE : ∀ k, E k → k < B) : StableF E (OneW B cs) := fun _ _ _ h hF => by
  obtain ⟨g, e, h1, h2⟩ := h
  exact ⟨g, e, h1, hF.blk h2 (fun e => by have := hE _ e; omega)⟩
/-- The row that is written to, behind it. -/
def RowW (w0 : World) (uv : Value) (cs : List Value) (v : Value) (w : World) : Prop := RowO w 261 65 v 1 cs ∧ Loc w0 uv v ∧ w0.heap.size ≤ w.heap.size
theorem stable_rowW (w0 : World) (uv : Value) (cs : List Value) : Stable (RowW w0 uv cs) := fun _ _ _ h hb =>
  ⟨h.1.keep (fun g hg => hb.block g (h.1.lt g hg)), h.2.1, Nat.le_trans h.2.2 hb.size⟩
theorem stableF_rowW {w0 : World} {uv : Value} {cs : List Value} {E : Nat → Prop} (hE : ∀ k, E k → k < w0.heap.size ∧ uv.ownBlock ≠ some k) : StableF E (RowW w0 uv cs) := fun _ _ _ h hF =>
  ⟨h.1.far hF (fun g hg e => by
    obtain ⟨h1, h2⟩ := hE g e
    rcases h.2.1 with h3 | h3 | ⟨k, h3, h4⟩
    · rw [h3] at hg; cases hg
    · rw [h3] at hg; exact h2 hg
    · rw [h3] at hg; cases hg; omega), h.2.1, Nat.le_trans h.2.2 hF.size⟩
theorem info_write : (Tryz.prog.info? 261).map (fun i => (i.zero, i.size, i.bytes)) = some (some (.agg (.int .i64 0 :: bv zeros).toArray), 65, 72) := by kernel_rfl
/-- What stands in the disk's block when the write is there. -/
def PutW (w0 : World) (p : Nat) (lv uv : Value) (n : Int) (cs : List Value) (w : World) : Prop :=
  ∃ v, w.heap[p]? = some (.cells #[lv, v, .int .i64 n, .bool false] 252 (0, 0)) ∧ RowW w0 uv cs v w

theorem stable_putW (w0 : World) (p : Nat) (lv uv : Value) (n : Int) (cs : List Value) : Stable (fun _ w => PutW w0 p lv uv n cs w) := fun _ _ _ h hb => by
  obtain ⟨v, h1, h2⟩ := h
  exact ⟨v, (hb.block p (lt_of_block h1)).trans h1, stable_rowW w0 uv cs _ _ _ h2 hb⟩
theorem oper_build_write {o : Oper} {a : Act} {w : World} {K : Act → World → Prop} {Q : Exit → Act → World → Prop} (x y : Operand) (ho : o.op = .build 261 #[(0, x), (1, y)]) (k : Int) (S : List UInt8) (hS : S.length = 64)
    (hx : a.eval x = .int .i64 k) (hy : a.eval y = .agg (bv S).toArray) (h : K (a.put o.dst (.agg (.int .i64 k :: bv S).toArray)) w) : o.wp Tryz.prog a w K Q := by
  have hb := built_write k S hS
  refine wp_build 261 #[(0, x), (1, y)] ho ?_ ?_
  · simp only [List.map_toArray, List.map_cons, List.map_nil, hx, hy, hb]
    rfl
  · simp only [List.map_toArray, List.map_cons, List.map_nil, hx, hy, hb]
    exact h
theorem run_bs_write (w : World) (cs : List Value) (hc : cs.length = 65) : (Instr.buildSlice 250 1 #[(0, .agg cs.toArray)]).run Tryz.prog w = .ok (.slice (some ⟨w.heap.size, 0, none⟩) 1 1) (w.alloc (.cells cs.toArray 261)) := by
  obtain ⟨i0, hi, hz0, hz1, hz2⟩ := info_parts2 info_write
  have hf : ∀ C : Array Value, C.size = 65 → Instr.fill (fun i => some (i * 65, 65)) C [(0, .agg cs.toArray)] = some cs.toArray := by
    intro C hC
    have e := fold_set 0 cs 0 C (by omega)
    simp only [Instr.fill, Value.cells]
    simp [hc, hC]
    simp at e
    rw [e]
    simp [hc, hC]
  simp [Instr.buildSlice, run_underlying Tryz.underlying250, sizeOf, typeInfo, hi, hz1, zeroValue, hz0]
  rw [hf _ (by simp)]
  simp [newRow]
theorem oper_bs_write {o : Oper} {a : Act} {w : World} {K : Act → World → Prop} {Q : Exit → Act → World → Prop} (x : Operand) (ho : o.op = .buildSlice 250 1 #[(0, x)]) (cs : List Value) (hc : cs.length = 65)
    (hx : a.eval x = .agg cs.toArray) (h : K (a.put o.dst (.slice (some ⟨w.heap.size, 0, none⟩) 1 1)) (w.alloc (.cells cs.toArray 261))) : o.wp Tryz.prog a w K Q := by
  unfold Oper.wp execOp
  simp only [ho, List.map_toArray, List.map_cons, List.map_nil, hx, Sem.run_bind, run_bs_write w cs hc, Result.andThen_ok]
  exact h

set_option maxRecDepth 100000 in
set_option maxHeartbeats 4000000 in
theorem diskWrite_ok (w : World) (p : Nat) (lv uv : Value) (n k : Nat) (S : List UInt8) (hS : S.length = 64) (hn : n ≠ 1) (hnm : n ≤ 9223372036854775807)
    (hb : w.heap[p]? = some (.cells #[lv, uv, .int .i64 n, .bool false] 252 (0, 0))) (hr : RowO w 261 65 uv 0 []) :
    Calls Tryz.prog 182 #[.pointer (some ⟨p, 0, none⟩), .int .i64 k, .agg (bv S).toArray] w fun r w' =>
      r = .returned (.int .i64 0) ∧ PutW w p lv uv (n - 1 : Nat) (.int .i64 k :: bv S) w' ∧ Far (fun j => j = p ∨ uv.ownBlock = some j) w w' := by
  have hpl := lt_of_block hb
  have hup := hr.ne hb (by decide)
  have hb2 : ∀ ob, (w.alloc ob).heap[p]? = some (.cells #[lv, uv, .int .i64 n, .bool false] 252 (0, 0)) := fun ob => (heap_alloc_old _ _ hpl).trans hb
  have c3 : ∀ ob, (w.alloc ob).cell? ⟨p, 3, none⟩ = some (.bool false) := fun ob => blk_cell (i := 3) (hb2 ob)
  have c2 : ∀ ob, (w.alloc ob).cell? ⟨p, 2, none⟩ = some (.int .i64 n) := fun ob => blk_cell (i := 2) (hb2 ob)
  have f2 : ∀ ob, (w.alloc ob).frozen? ⟨p, 2, none⟩ = false := fun ob => blk_free (i := 2) (hb2 ob)
  have hne : ((n : Int) == 1) = false := by simp; omega
  have hw : IntKind.i64.wrap ((n : Int) - 1) = (n : Int) - 1 := by rw [IntKind.wrap_i64]; omega
  have HB := hide hb
  have HR := hide hr
  clear hb hb2 hr
  go_enter Tryz.func182, Tryz.ntmps182
  go_upto_region 7 with fail
  obtain ⟨n', hn'⟩ : ∃ n', n' = n - 1 := ⟨_, rfl⟩
  refine wp_world (fun x => x.heap[p]? = some (.cells #[lv, uv, .int .i64 n', .bool false] 252 (0, 0)) ∧ x.heap[w.heap.size]? = some (.cells (bv S).toArray 207 (0, 0)) ∧ RowO x 261 65 uv 0 [] ∧ Far (fun j => j = p) w x ∧ w.heap.size < x.heap.size) ?_ ?_
  · have hv : max 0 ((n : Int) - 1) = ((n' : Nat) : Int) := by omega
    rw [hv]
    refine ⟨?_, ?_, ?_, ?_, ?_⟩
    · rw [heap_alloc_old _ _ (by rw [World.size_setCell]; exact hpl)]
      have := blk_set (j := 2) (v := .int .i64 n') (unhide HB)
      simpa using this
    · have := heap_alloc_new (w.setCell ⟨p, 2, none⟩ (.int .i64 n')) (.cells (bv S).toArray 207)
      rw [World.size_setCell] at this
      exact this
    · exact (unhide HR).far ((far_set w p 2 (.int .i64 n')).trans (far_below ((Below.refl _ _).alloc (Nat.le_refl _) _)) (fun _ _ h => h)) (fun g hg e => hup (by rw [hg, e]))
    · exact (far_set w p 2 (.int .i64 n')).trans (far_below ((Below.refl _ _).alloc (Nat.le_refl _) _)) (fun _ _ h => h)
    · simp
  rintro x ⟨h0, h1, h2, h3, hz⟩
  have hpx := lt_of_block h0
  have huv := fun g hg => h2.lt g hg
  have hcs : (Value.int .i64 k :: bv S).length = 65 := by simp [bv_length, hS]
  obtain ⟨cs, hcsd⟩ : ∃ cs, cs = Value.int .i64 k :: bv S := ⟨_, rfl⟩
  rw [← hcsd] at hcs
  have HCS := hide hcsd
  have h1c : ∀ u ∈ cs, u.oneCell' = true := by
    rw [hcsd]
    intro u hu
    cases hu with
    | head => rfl
    | tail _ hu => exact bv_oneCell S u hu
  clear hcsd
  have H0 := hide h0
  have H1 := hide h1
  have H2 := hide h2
  have H3 := hide h3
  clear h0 h1 h2 h3 c3 c2 f2 HB HR
  refine wp_region_foot (by kernel_rfl)
    [fun v _ => v = .pointer (some ⟨p, 0, none⟩), fun v _ => v = .pointer (some ⟨p, 0, none⟩), fun v _ => v = .pointer (some ⟨p, 0, none⟩), fun v _ => v = .pointer (some ⟨p, 1, none⟩), fun v _ => v = uv, fun v _ => v = .int .i64 k, fun v _ => v = .agg (bv S).toArray, fun v _ => v = .agg cs.toArray, OneW x.heap.size cs, RowW x uv cs, fun v _ => v = .pointer (some ⟨p, 0, none⟩), fun v _ => v = .pointer (some ⟨p, 1, none⟩), fun _ w => PutW x p lv uv n' cs w]
    [[(0, none)], [(0, none)], [(31, some 1)], [(32, some 2)], [(33, some 3)], [(1, none)], [(5, none)], [(35, some 5), (36, some 6)], [(37, some 7)], [(34, some 4), (38, some 8)], [(30, some 0)], [(40, some 10)], [(41, some 11), (39, some 9)]] [some 30, some 31, some 32, some 33, some 34, some 35, some 36, some 37, some 38, some 39, some 40, some 41, none] [false, false, false, false, false, false, false, false, false, false, false, false, false, false, false, false, false, false, false, false, false, false, false, false, false, false, false, false, false, false, true, true, true, true, true, true, true, true, true, true, true, true]
    [(9, fun j => uv.ownBlock = some j), (12, fun j => j = p)]
    (by kernel_rfl) (by kernel_rfl) (by kernel_rfl) (by kernel_rfl) (by kernel_rfl) ?_ ?_ ?_ ?_
  · repeat' (first | exact stable_eq _ | exact stable_oneW _ _ | exact stable_rowW _ _ _ | exact stable_putW _ _ _ _ _ _ | exact trivial | apply And.intro)
  · repeat' (first | exact trivial | exact .inl rfl | exact .inr (.inr (stableF_eq _ _)) | exact .inr (.inr (stableF_oneW (fun g hg => huv g hg))) | exact .inr (.inr (stableF_oneW (fun g (hg : g = p) => by omega))) | exact .inr (.inr (stableF_rowW (fun g (hg : g = p) => ⟨by omega, by rw [hg]; exact hup⟩))) | exact .inr (.inl (by kernel_rfl)) | apply And.intro)
  · refine ⟨?_, ?_, ?_, ?_, ?_, ?_, ?_, ?_, ?_, ?_, ?_, ?_, ?_, trivial⟩
    all_goals
      intro a z hb hf
      have hzz := hb.size
      have HBZ := hide hb
      clear hb
      simp only [PlanFacts, List.getD_cons_zero, List.getD_cons_succ, Array.getD_eq_getD_getElem?] at hf
      try simp at hf
    · go_simp
      exact ⟨_, rfl, Far.refl _ _, rfl⟩
    · go_simp
      exact ⟨_, rfl, Far.refl _ _, rfl⟩
    · go_simp
      exact ⟨_, rfl, Far.refl _ _, rfl⟩
    · go_simp
      exact ⟨_, rfl, Far.refl _ _, rfl⟩
    · have d1 : z.cell? ⟨p, 1, none⟩ = some uv := blk_cell (i := 1) ((unhide HBZ).blk (unhide H0) (by
        rintro ⟨q, hq, g1, g2, g3⟩
        simp at hq
        rcases hq with rfl | rfl
        · exact hup g3
        · exact absurd (show depB _ 12 4 = false from g2) (by decide +kernel)))
      go_simp
      exact ⟨_, rfl, Far.refl _ _, rfl⟩
    · go_simp
      exact ⟨_, rfl, Far.refl _ _, rfl⟩
    · have d1 := (unhide HBZ).blk (unhide H1) (by
        rintro ⟨q, hq, g1, g2, g3⟩
        simp at hq
        rcases hq with rfl | rfl
        · have : ¬ uv.ownBlock = some w.heap.size := fun e => ((unhide H2).ne (unhide H1) (by decide)) e
          exact this g3
        · have g3 : w.heap.size = p := g3
          omega)
      rw [if_pos (by rfl)]
      refine oper_load_sec (.tmp 5) rfl w.heap.size (by simp [Act.eval, hf]) 207 S hS d1 ?_
      exact ⟨_, rfl, Far.refl _ _, rfl⟩
    · rw [if_pos (by rfl)]
      refine oper_build_write (.tmp 35) (.tmp 36) rfl k S hS (by simp [Act.eval, hf]) (by simp [Act.eval, hf]) ?_
      exact ⟨_, rfl, Far.refl _ _, by rw [unhide HCS]; rfl⟩
    · rw [if_pos (by rfl)]
      refine oper_bs_write (.tmp 37) rfl cs hcs (by simp [Act.eval, hf]) ?_
      exact ⟨_, rfl, far_below ((Below.refl _ _).alloc (Nat.le_refl _) _), _, rfl, hzz, heap_alloc_new z _⟩
    · have hoz := (unhide H2).far (unhide HBZ) (by
        rintro g hg ⟨q, hq, g1, g2, g3⟩
        simp at hq
        rcases hq with rfl | rfl
        · exact g1 rfl
        · have g3 : g = p := g3
          exact hup (by rw [hg, g3]))
      obtain ⟨g, hg, hgB, hgh⟩ := hf.2
      refine step_app_o rfl (.tmp 34) (.tmp 38) 250 rfl 261 _ 65 72 Tryz.underlying250 info_write (by simp [Value.cells, bv_length, length_zeros]) uv 0 [] hoz (by simp [Act.eval, hf]) ⟨g, 0, none⟩ 1 1 cs (by simp [Act.eval, hg]) (by omega) ?_ h1c (by omega) (by omega) (by omega) ?_
      · intro j u hj
        rw [add_mk, blk_cell hgh, List.getElem?_toArray, Nat.zero_add]
        exact hj
      · intro v' w' g1 g2
        exact ⟨v', rfl, footOf_of (.head _) (far_grown g2.grown), g1, loc_app hzz g2, Nat.le_trans hzz g2.grown.size⟩
    · go_simp
      exact ⟨_, rfl, Far.refl _ _, rfl⟩
    · go_simp
      exact ⟨_, rfl, Far.refl _ _, rfl⟩
    · have d0 := (unhide HBZ).blk (unhide H0) (by
        rintro ⟨q, hq, g1, g2, g3⟩
        simp at hq
        rcases hq with rfl | rfl
        · exact hup g3
        · exact g1 rfl)
      have f1 : z.frozen? ⟨p, 1, none⟩ = false := blk_free (i := 1) d0
      have d1 : z.cell? ⟨p, 1, none⟩ = some uv := blk_cell (i := 1) d0
      obtain ⟨hv41, hrw⟩ := hf
      obtain ⟨ad, cap, hv39, _⟩ := hrw.1.shape
      have HD0 := hide d0
      have HRW := hide hrw
      clear hrw d0
      rw [hv39] at HRW
      go_simp
      refine ⟨footOf_of (.tail _ (.head _)) (far_set z p 1 _), .slice ad 1 cap, ?_, ?_⟩
      · have := blk_set (j := 1) (v := .slice ad 1 cap) (unhide HD0)
        rw [← hn']
        simpa using this
      · have hR := unhide HRW
        have hs2 := hR.2.2
        refine stableF_rowW (E := fun j => j = p) (fun g (hg : g = p) => ⟨by omega, by rw [hg]; exact hup⟩) _ _ _ hR (far_set z p 1 _)
  · intro f z hF hwd
    have hput := hwd.2.2.2.2.2.2.2.2.2.2.2.2.1
    have HP := hide hput
    have HF := hide hF
    clear hput hwd hF
    simp only [mergeT]
    generalize f 30 = x30
    generalize f 31 = x31
    generalize f 32 = x32
    generalize f 33 = x33
    generalize f 34 = x34
    generalize f 35 = x35
    generalize f 36 = x36
    generalize f 37 = x37
    generalize f 38 = x38
    generalize f 39 = x39
    generalize f 40 = x40
    generalize f 41 = x41
    go_simp
    go_wp2
    go_ret
    refine ⟨rfl, ?_, ?_⟩
    · rw [← hn', ← unhide HCS]
      obtain ⟨v, g1, g2, g3, g4⟩ := unhide HP
      exact ⟨v, g1, g2, loc_less g3 (by omega), by omega⟩
    · refine ((unhide H3).mono (fun j _ h => .inl h)).trans (unhide HF) (fun j _ h => ?_)
      obtain ⟨q, hq, h⟩ := h
      simp at hq
      rcases hq with rfl | rfl
      · exact .inr h
      · exact .inl h
end Go.Proofs.YtamafdcnbcoegaaGreat
namespace Go.Proofs.YtamafdcnbcoegaaGreat
open Go.RowKit


theorem del_look {x : Nat × Value} {r : List (Nat × Value)} (h : ∀ y ∈ r, x.1 < y.1) : delF (look (x :: r)) x.1 = look r := by
  funext k
  unfold delF
  by_cases hk : k = (x.1 : Int)
  · rw [if_pos hk]
    cases hv : look r k with
    | none => rfl
    | some v =>
      obtain ⟨y, hy, e, _⟩ := look_mem hv
      have := h y hy
      omega
  · rw [if_neg hk, look_cons, if_neg hk]
/-- Behind a call that takes things away: the row lies where it lay, and so does the map. -/
structure ShTook (w x : World) (p o : Nat) (t : TypeId) (arr : Array Value) (nv mv : Value) (l' : List (Nat × Value)) : Prop where
  out : ∃ nv', ShAt x p o t (arr.setIfInBounds o nv') nv' mv l' ∧ nv'.ownBlock = nv.ownBlock
  far : Far (fun k => k = p ∨ ShU nv mv k) w x
end Go.Proofs.YtamafdcnbcoegaaGreat
namespace Go.Proofs.YtamafdcnbcoegaaGreat
open Go.RowKit

/-- A whole struct from wherever its cells stand. -/
theorem run_loadVar_at {P : Program} (w : World) (a : Addr) (ty : TypeId) (cs : List Value) (hc : ∀ j v, cs[j]? = some v → w.cell? (a.add j) = some v)
    (hagg : (isAgg ty).run P w = .ok true w) (hi : (P.info? ty).map (·.size) = some cs.length) :
    (loadVar ty a).run P w = .ok (.agg cs.toArray) w := by
  have hl : (loadCells a cs.length).run P w = .ok cs.toArray w := run_loadCells_list (P := P) w a cs hc
  cases hq : P.info? ty with
  | none => simp [hq] at hi
  | some i =>
    have hs : i.size = cs.length := by simpa [hq] using hi
    simp [loadVar, Sem.run_bind, hagg, sizeOf, typeInfo, hq, hs, hl]
theorem isAgg_write (w : World) : (isAgg 261).run Tryz.prog w = .ok true w := by
  simp [isAgg, run_underlying Tryz.underlying261]
theorem size_write : (Tryz.prog.info? 261).map (·.size) = some 65 := by kernel_rfl
theorem wpList_load_write {ops : Array Oper} {rest : List Oper} {o : Oper} {a : Act} {w : World} {Q : Exit → Act → World → Prop} (hgd : o.guard = none) (x : Operand) (ho : o.op = .load 261 x)
    (ad : Addr) (hx : a.eval x = .pointer (some ad)) (cs : List Value) (hcs : cs.length = 65) (hc : ∀ j v, cs[j]? = some v → w.cell? (ad.add j) = some v)
    (h : wpList Tryz.prog ops Q rest (a.put o.dst (.agg cs.toArray)) w) : wpList Tryz.prog ops Q (o :: rest) a w := by
  refine wpList_plain hgd fun K hK => ?_
  unfold Oper.wp execOp
  simp only [ho, hx, Instr.loadAt, Instr.sureAddr, Sem.run_bind, Sem.run_pure, Result.andThen_ok, run_loadVar_at w ad 261 cs hc (isAgg_write w) (by rw [size_write, hcs])]
  exact hK _ _ h
theorem oper_load_write {o : Oper} {a : Act} {w : World} {K : Act → World → Prop} {Q : Exit → Act → World → Prop} (x : Operand) (ho : o.op = .load 261 x)
    (ad : Addr) (hx : a.eval x = .pointer (some ad)) (cs : List Value) (hcs : cs.length = 65) (hc : ∀ j v, cs[j]? = some v → w.cell? (ad.add j) = some v)
    (h : K (a.put o.dst (.agg cs.toArray)) w) : o.wp Tryz.prog a w K Q := by
  unfold Oper.wp execOp
  simp only [ho, hx, Instr.loadAt, Instr.sureAddr, Sem.run_bind, Sem.run_pure, Result.andThen_ok, run_loadVar_at w ad 261 cs hc (isAgg_write w) (by rw [size_write, hcs])]
  exact h

/-- Sync, on a disk that has failed. -/
theorem sync_dead (w : World) (p : Nat) (lv uv : Value) (n : Int) (hb : w.heap[p]? = some (.cells #[lv, uv, .int .i64 n, .bool true] 252 (0, 0))) :
    Calls Tryz.prog 183 #[.pointer (some ⟨p, 0, none⟩)] w fun r w' => r = .returned (.tuple #[]) ∧ w' = w := by
  have c3 : w.cell? ⟨p, 3, none⟩ = some (.bool true) := blk_cell (i := 3) hb
  clear hb
  go_enter Tryz.func183, Tryz.ntmps183
  go_wp2
  exact bodyPost_ret (results_none rfl _ _ _) rfl ⟨rfl, rfl⟩

/-- In the midst of Sync: how far. -/
structure SyAt (w x : World) (p : Nat) (lv : Value) (g o cap : Nat) (n : Int) (cs : List Value) (L : List UInt8) : Prop where
  blk : x.heap[p]? = some (.cells #[lv, .slice (some ⟨g, o, none⟩) 1 cap, .int .i64 n, .bool false] 252 (0, 0))
  un : RowO x 261 65 (.slice (some ⟨g, o, none⟩) 1 cap) 1 cs
  row : x.ownsRow 0 5 1 lv L.length (bv L)
  far : Far (fun j => lv.ownBlock = some j) w x

set_option maxRecDepth 100000 in
set_option maxHeartbeats 4000000 in
theorem sync_one (w : World) (p : Nat) (lv uv : Value) (n : Int) (k : Nat) (S L : List UInt8) (hS : S.length = 64) (hk : 64 * k + 64 ≤ L.length) (hL : L.length ≤ 10000)
    (hb : w.heap[p]? = some (.cells #[lv, uv, .int .i64 n, .bool false] 252 (0, 0))) (hu : RowO w 261 65 uv 1 (.int .i64 k :: bv S)) (hr : w.ownsRow 0 5 1 lv L.length (bv L)) :
    Calls Tryz.prog 183 #[.pointer (some ⟨p, 0, none⟩)] w fun r w' => r = .returned (.tuple #[]) ∧
      ∃ uv', w'.heap[p]? = some (.cells #[lv, uv', .int .i64 n, .bool false] 252 (0, 0)) ∧ uv'.ownBlock = uv.ownBlock ∧ RowO w' 261 65 uv' 0 [] ∧
        w'.ownsRow 0 5 1 lv (Mod.setSec L k S).length (bv (Mod.setSec L k S)) ∧ Far (fun j => j = p ∨ lv.ownBlock = some j) w w' := by
  obtain ⟨cs, hcsd⟩ : ∃ cs, cs = Value.int .i64 k :: bv S := ⟨_, rfl⟩
  rw [← hcsd] at hu
  have hcs : cs.length = 65 := by rw [hcsd]; simp [bv_length, hS]
  have h1c : ∀ u ∈ cs, u.oneCell' = true := by
    rw [hcsd]
    intro u hu
    cases hu with
    | head => rfl
    | tail _ hu => exact bv_oneCell S u hu
  have HCS := hide hcsd
  clear hcsd
  obtain ⟨ad, cap, rfl, hc1, hc2, hsh⟩ := hu.shape
  obtain ⟨g, o, rfl, hcell⟩ := hsh (by omega)
  have hpl := lt_of_block hb
  have SY0 : SyAt w w p lv g o cap n cs L := ⟨hb, hu, hr, Far.refl _ _⟩
  have c3 : w.cell? ⟨p, 3, none⟩ = some (.bool false) := blk_cell (i := 3) hb
  have c1 : w.cell? ⟨p, 1, none⟩ = some (.slice (some ⟨g, o, none⟩) 1 cap) := blk_cell (i := 1) hb
  have HS0 := hide SY0
  clear hb hu hr SY0 hcell hsh
  go_enter Tryz.func183, Tryz.ntmps183
  go_upto_region 2 with fail
  go_wp2
  go_loopw [3, 13] (fun _ i wr => ∃ j : Nat, j ≤ 1 ∧ i = .int .i64 j ∧ SyAt w wr p lv g o cap n cs (if j = 0 then L else Mod.setSec L k S)) (fun _ i _ => 1 - (intOf i).toNat)
  case atStart => exact ⟨0, by omega, rfl, unhide HS0⟩
  case round =>
    obtain ⟨j, hj, rfl, SY⟩ := hrel
    clear HS0 c1 c3
    rcases (show j = 0 ∨ j = 1 by omega) with rfl | rfl
    · have SY : SyAt w wr p lv g o cap n cs L := SY
      have c0 : wr.cell? ⟨p, 0, none⟩ = some lv := blk_cell (i := 0) SY.blk
      have hcell : ∀ j v, cs[j]? = some v → wr.cell? ((⟨g, o, none⟩ : Addr).add j) = some v := by
        obtain ⟨ad', cap', e, _, _, hsh⟩ := SY.un.shape
        obtain ⟨g', o', e2, hc⟩ := hsh (by omega)
        cases e
        cases e2
        intro j v hj
        have hjl : j < 65 := by rw [← hcs]; exact (List.getElem?_eq_some_iff.1 hj).1
        rw [add_mk, hc j (by omega)]
        exact hj
      have hplr := lt_of_block SY.blk
      have HSY := hide SY
      have HC := hide hcell
      clear SY hcell
      go_upto_region 4 with (first
        | (refine wpList_load_write rfl (.tmp 15) rfl ⟨g, o, none⟩ rfl cs hcs (unhide HC) ?_)
        | (refine wpList_store_row rfl 261 (.tmp 3) (.tmp 16) rfl wr.heap.size cs.toArray rfl rfl 261 _ (heap_alloc_new _ _) (by rw [size_write]; simp [hcs]) (by simp [hcs]) (by rw [Array.all_eq_true_iff_forall_mem]; intro v hv; exact h1c v (by simpa using hv)) ?_; go_simp))
      refine wp_world (fun x => x.heap[wr.heap.size]? = some (.cells cs.toArray 261 (0, 0)) ∧ SyAt w x p lv g o cap n cs L) ?_ ?_
      · have hF : Far (fun _ => False) wr ((wr.alloc (.cells Tryz.zeroCells261 261)).setRow wr.heap.size cs.toArray) :=
          ⟨rfl, rfl, rfl, by simp, fun k hk _ => (setRow_other _ _ k _ (by omega)).trans (heap_alloc_old _ _ hk)⟩
        refine ⟨setRow_heap _ _ _ _ _ _ (heap_alloc_new _ _), hF.blk (unhide HSY).blk (fun h => h), (unhide HSY).un.far hF (fun _ _ h => h), ownsRow_keepB (unhide HSY).row (fun g hg => hF.rest g (World.ownsRow.lt (unhide HSY).row g hg).2 (fun h => h)), (unhide HSY).far.trans hF (fun _ _ h => h.elim)⟩
      rintro x ⟨hn0, SX⟩
      have cx : x.cell? ⟨p, 0, none⟩ = some lv := blk_cell (i := 0) SX.blk
      have hplx := lt_of_block SX.blk
      have hnl := lt_of_block hn0
      have HN := hide hn0
      have HSX := hide SX
      have hA := fun y hrow => hide (apply_any y k S L lv hS hk hL hrow)
      rw [← unhide HCS] at hA
      clear hn0 SX HSY HC c0
      refine wp_region_last (by kernel_rfl)
        [fun v _ => v = .agg cs.toArray, fun v _ => v = .pointer (some ⟨p, 0, none⟩), fun v _ => v = .pointer (some ⟨p, 0, none⟩), fun v _ => v = .pointer (some ⟨p, 0, none⟩), fun v _ => v = lv, fun _ _ => True]
        [[(3, none)], [(0, none)], [(18, some 1)], [(19, some 2)], [(20, some 3)], [(17, some 0), (21, some 4)]] [some 17, some 18, some 19, some 20, some 21, some 22] [false, false, false, false, false, false, false, false, false, false, false, false, false, false, false, false, false, true, true, true, true, true, true, false, false, false, false, false, false, false, false, false]
        5 _ rfl rfl (by kernel_rfl) (by kernel_rfl) (by kernel_rfl) (by kernel_rfl) (by kernel_rfl) (by kernel_rfl) ?_ ?_ ?_
      · repeat' (first | exact stable_eq _ | exact stable_true | exact trivial | apply And.intro)
      · refine ⟨?_, ?_, ?_, ?_, ?_, trivial⟩
        all_goals
          intro a y hb hf
          have y0 := (hb.cell (p := ⟨p, 0, none⟩) (by show p < _; omega)).trans cx
          have yn := (hb.block _ hnl).trans (unhide HN)
          clear hb
          simp only [PlanFacts, List.getD_cons_zero, List.getD_cons_succ, Array.getD_eq_getD_getElem?] at hf
          try simp at hf
        · rw [if_pos (by rfl)]
          refine oper_load_write (.tmp 3) rfl ⟨wr.heap.size, 0, none⟩ (by simp [Act.eval, hf]) cs hcs ?_ ⟨_, rfl, Below.refl _ _, rfl⟩
          intro j v hj
          rw [add_mk, blk_cell yn, List.getElem?_toArray, Nat.zero_add]
          exact hj
        all_goals
          clear yn
          go_simp
          try exact ⟨_, rfl, Below.refl _ _, rfl⟩
          try exact Below.refl _ _
      · intro f y hb hwd
        simp only [AllWords, List.take] at hwd
        have hf17 := hwd.1
        have hf21 := hwd.2.2.2.2.1
        simp only [mergeT, hf17, hf21]
        have SY : SyAt w y p lv g o cap n cs L := by
          have SX := unhide HSX
          exact ⟨(hb.block _ hplx).trans SX.blk, SX.un.keep (fun g hg => hb.block g (SX.un.lt g hg)), ownsRow_keepB SX.row (fun g hg => hb.block g (World.ownsRow.lt SX.row g hg).2), SX.far.trans (far_below (E := fun _ => False) hb) (fun _ _ h => h.elim)⟩
        have HY := hide SY
        clear hb hwd hf17 hf21 SY HSX HN cx
        go_simp
        refine (unhide (hA y (unhide HY).row)).mono ?_
        rintro r z ⟨rfl, hrz, hFz⟩
        have SY := unhide HY
        have hne : ∀ h, lv.ownBlock = some h → h ≠ p := fun h hh e => (RowO.of_own SY.row).ne SY.blk (by decide) (by rw [hh, e])
        have SZ : SyAt w z p lv g o cap n cs (Mod.setSec L k S) :=
          ⟨hFz.blk SY.blk (fun e => hne _ e rfl), SY.un.far hFz (fun h hh e => (RowO.of_own SY.row).ty SY.un (by decide) e hh), hrz, SY.far.trans hFz (fun _ _ h => h)⟩
        have HZ := hide SZ
        clear SY SZ hrz hFz HY hA hne
        go_wp2
        exact ⟨⟨1, by omega, by go_num, unhide HZ⟩, by simp [intOf]⟩
    · have SY : SyAt w wr p lv g o cap n cs (Mod.setSec L k S) := SY
      have c1 : wr.cell? ⟨p, 1, none⟩ = some (.slice (some ⟨g, o, none⟩) 1 cap) := blk_cell (i := 1) SY.blk
      have f1 : wr.frozen? ⟨p, 1, none⟩ = false := blk_free (i := 1) SY.blk
      have HSY := hide SY
      clear SY
      go_wp2
      refine bodyPost_end (results_none rfl _ _ _) rfl ⟨rfl, ?_⟩
      have SZ := unhide HSY
      have hfs := far_set wr p 1 (.slice (some ⟨g, o, none⟩) 0 cap)
      refine ⟨.slice (some ⟨g, o, none⟩) 0 cap, ?_, rfl, ?_, ownsRow_keepB SZ.row (fun h hh => hfs.rest h (World.ownsRow.lt SZ.row h hh).2 (fun e => (RowO.of_own SZ.row).ne SZ.blk (by decide) (by rw [hh, e]))), ?_⟩
      · have := blk_set (j := 1) (v := .slice (some ⟨g, o, none⟩) 0 cap) SZ.blk
        simpa using this
      · have h0 := SZ.un.far hfs (fun h hh e => SZ.un.ne SZ.blk (by decide) (by rw [hh, e]))
        obtain ⟨_, h2⟩ := h0
        rcases h2 with ⟨h2, _⟩ | ⟨g', o', cap', cur, e1, hh, hn', hc', hz', ht'⟩
        · cases h2
        · cases e1
          exact ⟨by simp, .inr ⟨g, o, cap, cur, rfl, hh, Nat.zero_le _, hc2, hz', by simp⟩⟩
      · exact (SZ.far.mono (fun _ _ h => .inr h)).trans hfs (fun _ _ h => .inl h)
end Go.Proofs.YtamafdcnbcoegaaGreat
