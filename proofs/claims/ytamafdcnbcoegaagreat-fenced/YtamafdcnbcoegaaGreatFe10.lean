/-
  Part 10 of a proof: S11, S12, S7U, S8U, S7I, S8I, S9I, L1, L2, L3, L4.
-/
import Derived.RangeFuncNested
import Derived.RangeFuncBound
import Derived.RangeFuncCalls
import Derived.RangeFuncLeaves
import Derived.Shelf.Abstract
import Derived.Shelf.RegionOpen
import Derived.OwnWalkIn
import Derived.TacticsInMore
import Derived.LoopNIn
import Derived.LoopIn
import Derived.Test.YtamafdcnbcoegaaGreatFe9
namespace Go.Proofs.YtamafdcnbcoegaaGreat
open Go.RowKit
attribute [local go_sem] Oper.semAt_some
structure IterAt (W : World) (b p o : Nat) (m : Nat) (nv mv : Value) (l : List (Nat × Value)) : Prop where
 c1 : W.cell? ⟨b, 0, none⟩ = some (.pointer (some ⟨p, o, none⟩))
 c2 : W.cell? ⟨b + 1, 0, none⟩ = some (.int .i64 m)
 s0 : W.cell? ⟨p, o, none⟩ = some nv
 s1 : W.cell? ⟨p, o + 1, none⟩ = some mv
 sh : ShelfIs W nv mv l
theorem look_at {l : List (Nat × Value)} (hs : (l.map (·.1)).Pairwise (· < ·)) {k : Nat} (hk : k < l.length) : look l (l[k].1 : Int) = some l[k].2 := by
 induction l generalizing k with
 | nil => simp at hk
 | cons x r ih =>
  rw [List.map_cons, List.pairwise_cons] at hs
  obtain ⟨h0, hs⟩ := hs
  cases k with
  | zero => rw [look_cons, List.getElem_cons_zero, if_pos rfl]
  | succ k =>
   have hk' : k < r.length := by simpa using hk
   rw [look_cons, List.getElem_cons_succ, if_neg, ih hs hk']
   have := h0 r[k].1 (List.mem_map.2 ⟨r[k], List.getElem_mem hk', rfl⟩)
   omega
set_option maxRecDepth 100000 in
set_option maxHeartbeats 2000000 in
theorem iterA_in (n lp b p o m : Nat) (nv mv : Value) (l : List (Nat × Value)) (A : AreA l) (J : Nat → World → Prop) (Jx : World → Prop)
  (hJI : ∀ i W, J i W → IterAt W b p o m nv mv l) (hJd : ∀ i W k, J i W → J i (W.drewN k))
  (hY : ∀ i W (h : i < l.length), i < m → J i W → YieldAt Fence.wide (n - 1) Tryz.prog lp #[.int .i64 (l[i].1 : Nat), l[i].2] W fun e W' => (e = .returned (.bool true) ∧ J (i + 1) W') ∨ (e = .returned (.bool false) ∧ Jx W'))
  (W : World) (h0 : J 0 W) :
  CallsIn Fence.wide n Tryz.prog 189 #[.func (.yield lp) #[] #[], .pointer (some ⟨b, 0, none⟩), .pointer (some ⟨b + 1, 0, none⟩)] W fun e W' => (∃ v, e = .returned v) ∧ (J (min m l.length) W' ∨ Jx W') := by
 have R := hJI 0 W h0
 obtain ⟨c1, c2, s0, s1, S⟩ := R
 have hlen := S.len
 have hll : (l.map (·.1)).length = l.length := List.length_map _
 obtain ⟨ce, hce⟩ : ∃ ce, ce = min m l.length := ⟨_, rfl⟩
 rw [← hce]
 have hce1 : ce ≤ m := by omega
 have hce2 : ce ≤ l.length := by omega
 have hmin : min (m : Int) (l.length : Int) = ce := by omega
 refine callsIn_of_wp Tryz.func189 rfl trivial ?_ rfl
 refine wpIn_wide.2 ?_
 simp only [Tryz.ntmps189, List.size_toArray, List.length_cons, List.length_nil, Nat.reduceAdd, Nat.reduceSub, Array.replicate_succ, Array.replicate_zero, List.push_toArray, List.append_toArray, List.nil_append, List.cons_append]
 rcases S.nums.cases with ⟨hnv, hlz⟩ | ⟨g, cap, cur, hnv, hh, hn, hc, hz, htk⟩
 ·subst hnv
  obtain rfl : l = [] := by simpa using hlz
  obtain rfl : ce = 0 := by simpa using hce2
  have hmin0 : min (m : Int) 0 = 0 := by omega
  clear S hll hmin hce hce1 hce2 hlz
  go_wp2
  go_quiet (fail)
  go_wp2
  go_loopw [5, 19] (fun _ i wr => i = .int .i64 0 ∧ J 0 wr) (fun _ _ _ => 0)
  case atStart => exact ⟨rfl, hJd 0 W _ h0⟩
  case round =>
   obtain ⟨rfl, hJ⟩ := hrel
   go_wp2
   refine bodyPost_end (results_none rfl _ _ _) rfl ?_
   exact ⟨⟨_, rfl⟩, .inl hJ⟩
 ·rw [hll] at hnv hn
  subst hnv
  clear S htk hll
  replace hce := hide hce
  go_wp2
  go_quiet (fail)
  go_wp2
  go_loopw [5, 19] (fun _ i wr => ∃ k : Nat, k ≤ ce ∧ i = .int .i64 k ∧ J k wr) (fun _ i _ => l.length - (intOf i).toNat)
  case atStart => exact ⟨0, by omega, rfl, hJd 0 W _ h0⟩
  case round =>
   obtain ⟨k, hk, rfl, hJ⟩ := hrel
   by_cases hlt : k < ce
   ·have hkl : k < l.length := by omega
    obtain ⟨c1, c2, s0, s1, S⟩ := hJI k wr hJ
    obtain ⟨x1, x2, hx⟩ := A l[k] (List.getElem_mem hkl)
    have cn : wr.cell? ⟨g, k, none⟩ = some (.int .i64 (l[k].1 : Int)) := by
     rw [S.nums.cell' (by simpa using hkl)]
     simp [List.getD_eq_getElem?_getD, hkl]
    have hrun := (run_lookup_i (P := Tryz.prog) (w := wr) (t := 137) Tryz.underlying137 Tryz.underlying3 (zero_A wr) S.map (l[k].1 : Int)).2
    rw [look_at S.sorted hkl, hx] at hrun
    have hY1 := hY k wr hkl (by omega) hJ
    rw [hx] at hY1
    simp only [Option.getD_some, recA] at hrun hY1
    obtain ⟨fn, tmps, assign, body, hy, hR⟩ := hY1
    clear S hx
    generalize l[k].1 = xn at *
    go_upto_region 3 with fail
    refine (wpIn_wide (n := n)).1 ?_
    gi_wp2
    refine ⟨fun h => by simp [Fence.wide] at h, hR.mono ?_⟩
    rintro e W3 (⟨rfl, hJ3⟩ | ⟨rfl, hJx3⟩)
    ·gi_wp2
     go_wp2
     go_roundw
     case rel => exact ⟨k + 1, by omega, by go_num, hJ3⟩
     case measure => simp [intOf]; omega
    ·gi_wp2
     go_wp2
     refine bodyPost_ret (results_none rfl _ _ _) rfl ?_
     exact ⟨⟨_, rfl⟩, .inr hJx3⟩
   ·obtain rfl : k = ce := by omega
    go_wp2
    refine bodyPost_end (results_none rfl _ _ _) rfl ?_
    exact ⟨⟨_, rfl⟩, .inl hJ⟩
end Go.Proofs.YtamafdcnbcoegaaGreat
namespace Go.Proofs.YtamafdcnbcoegaaGreat
open Go.RowKit
structure Same2 (D : Nat) (W W' : World) : Prop where
 os : W'.os = W.os
 tape : W'.tape = W.tape
 output : W'.output = W.output
 size : W'.heap.size = W.heap.size
 rest : ∀ k, k ≠ D → k ≠ D + 1 → W'.heap[k]? = W.heap[k]?
theorem same2_put (D : Nat) (W : World) (o : Obj) : Same2 D W (W.putObj (D + 1) o) :=
 ⟨rfl, rfl, rfl, World.putObj_size, fun _ _ h => World.putObj_heap_other h⟩
theorem same2_drew (D : Nat) (W : World) (n : Nat) : Same2 D W (W.drewN n) := ⟨rfl, rfl, rfl, rfl, fun _ _ _ => rfl⟩
def roundEnd (D : Nat) (I : World → Prop) (W : World) : Exit → Act → World → Prop
 | .normal, _, W' => W'.heap[D]? = W.heap[D]? ∧ W'.heap[D + 1]? = W.heap[D + 1]? ∧ I W'
 | _, _, _ => False
theorem range_first {g : Operand} {ps : Array Tmp} {assign body : Code} {Q : Exit → Act → World → Prop} {a : Act} {w : World} (n b p o m : Nat) (nv mv : Value) (l : List (Nat × Value)) (A : AreA l)
  (hg : a.eval g = iterA b) (hps : ps.size = 2) (I : Nat → World → Prop) (hI : ∀ i W W', I i W → Same2 w.heap.size W W' → I i W') (hIt : ∀ i W, I i W → IterAt W b p o m nv mv l)
  (h0 : ∀ W, Below w.heap.size w W → W.heap.size = w.heap.size + 2 → I 0 W)
  (hround : ∀ i (hi : i < l.length) W, i < m → I i W → w.heap.size + 2 ≤ W.heap.size →
   assign.wpIn (Fence.wide.inRound (w.heap.size + 1)) (n - 1 - 1) Tryz.prog (Exit.then (fun a₁ W₁ => (W₁.heap[w.heap.size]? = W.heap[w.heap.size]? ∧ W₁.heap[w.heap.size + 1]? = W.heap[w.heap.size + 1]?) ∧
     ∀ W₂, Same2 w.heap.size W₁ W₂ → body.wpIn (Fence.wide.inRound (w.heap.size + 1)) (n - 1 - 1) Tryz.prog (roundEnd w.heap.size (I (i + 1)) W₂) a₁ W₂) (fun _ _ _ => False))
    { tmps := (ps.zip #[.int .i64 (l[i].1 : Nat), l[i].2]).foldl (fun t (p, v) => t.setIfInBounds p v) a.tmps, defers := [] } W)
  (hsz : ∀ i W, I i W → w.heap.size + 2 ≤ W.heap.size)
  (hdone : ∀ W, I (min m l.length) W → W.heap[w.heap.size]? = some (.deferred (some [])) → Q .normal { a with defers := { target := .collected w.heap.size, args := #[] } :: a.defers } W) :
  (Code.rangeFunc g ps assign body).wpIn Fence.wide n Tryz.prog Q a w := by
 refine wpIn_rangeFunc ?_
 intro fn hfn
 obtain ⟨rec, hrec⟩ : ∃ rec : LoopState → Loop, rec = fun st => { state := st, pending := none, fn, tmps := a.tmps, params := ps, assign, body, defers := w.heap.size } := ⟨_, rfl⟩
 obtain ⟨W1, hW1⟩ : ∃ W1, (w.alloc (.deferred (some []))).alloc (.loop (rec .ready)) = W1 := ⟨_, rfl⟩
 have hL1 : W1.heap[w.heap.size + 1]? = some (.loop (rec .ready)) := by
  rw [← hW1]
  have := World.alloc_heap_new (w.alloc (.deferred (some []))) (.loop (rec .ready))
  rwa [World.size_alloc] at this
 have hK1 : W1.heap[w.heap.size]? = some (.deferred (some [])) := by
  rw [← hW1]
  exact (Below.heap_alloc _ _ _ (by simp)).trans (World.alloc_heap_new w _)
 have hB1 : Below w.heap.size w W1 := by
  rw [← hW1]
  exact ((Below.refl _ w).alloc (Nat.le_refl _) _).alloc (by simp) _
 have hS1 : W1.heap.size = w.heap.size + 2 := by rw [← hW1]; simp
 have eg : ∀ args w, (callFunc 189 args).run Tryz.prog w = .ok (.enter 189 args) w := enters_of Tryz.func189 (by kernel_rfl) rfl
 refine ⟨w.heap.size + 1, [{ target := .collected w.heap.size, args := #[] }], W1, { target := .fn (.func 189) #[.pointer (some ⟨b, 0, none⟩), .pointer (some ⟨b + 1, 0, none⟩)], args := #[.func (.yield (w.heap.size + 1)) #[] #[]] }, W1, 189,
  #[.func (.yield (w.heap.size + 1)) #[] #[], .pointer (some ⟨b, 0, none⟩), .pointer (some ⟨b + 1, 0, none⟩)], W1, ?_, ?_, ?_, ?_, fun h => by simp [Fence.wide] at h, ?_⟩
 ·rw [← hW1, hrec]; exact run_enterLoop_outer _ _ _ _ _
 ·simp only [resolve, hg]
  simp [go_sem, iterA]
 ·intro f' _; trivial
 ·simp [invoke, go_sem, eg]
 ·refine (iterA_in (n - 1) (w.heap.size + 1) b p o m nv mv l A
   (fun i W => I i W ∧ W.heap[w.heap.size + 1]? = some (.loop (rec .ready)) ∧ W.heap[w.heap.size]? = some (.deferred (some []))) (fun _ => False)
   (fun i W h => hIt i W h.1) (fun i W k h => ⟨hI i W _ h.1 (same2_drew _ W k), h.2.1, h.2.2⟩) ?_ W1 ⟨h0 W1 hB1 hS1, hL1, hK1⟩).mono ?_
  ·rintro i W hi him ⟨hi0, hl, hk⟩
   have hlt : w.heap.size + 1 < W.heap.size := (Array.getElem?_eq_some_iff.1 hl).1
   have hy := run_yield (P := Tryz.prog) (args := #[.int .i64 (l[i].1 : Nat), l[i].2]) hl (by rw [hrec]; simpa using hps.symm)
   rw [hrec] at hy
   refine ⟨fn, _, assign, body, hy, roundIn_of_wpIn hfn (wpIn_mono (hround i hi W him hi0 (hsz i W hi0)) ?_)⟩
   rintro e a₁ W₁ he
   cases e with
   | normal =>
    obtain ⟨⟨e1, e2⟩, hbody⟩ := he
    have hl1 : W₁.heap[w.heap.size + 1]? = some (.loop (rec .ready)) := e2.trans hl
    have hk1 : W₁.heap[w.heap.size]? = some (.deferred (some [])) := e1.trans hk
    have hlt1 : w.heap.size + 1 < W₁.heap.size := (Array.getElem?_eq_some_iff.1 hl1).1
    refine ⟨_, run_beginRound hl1 (by rw [hrec]), wpIn_mono (hbody _ (same2_put _ W₁ _)) ?_⟩
    rintro e2 a₂ W₃ hp
    cases e2 with
    | normal =>
     obtain ⟨f1, f2, f3⟩ := hp
     have hl3 : W₃.heap[w.heap.size + 1]? = some (.loop { rec .ready with state := .busy }) := f2.trans (World.putObj_heap_same hlt1)
     have hk3 : W₃.heap[w.heap.size]? = some (.deferred (some [])) := (f1.trans (World.putObj_heap_other (by omega))).trans hk1
     refine ⟨_, _, run_endRound none hl3, .inl ⟨rfl, hI _ _ _ f3 (same2_put _ W₃ _), ?_, ?_⟩⟩
     ·rw [World.putObj_heap_same (Array.getElem?_eq_some_iff.1 hl3).1, hrec]
      rfl
     ·exact (World.putObj_heap_other (by omega)).trans hk3
    | ret => exact hp.elim
    | exit id => exact hp.elim
    | goto t => exact hp.elim
    | panic c => exact hp.elim
    | outgrown => exact hp.elim
   | ret => exact he.elim
   | exit id => exact he.elim
   | goto t => exact he.elim
   | panic c => exact he.elim
   | outgrown => exact he.elim
  ·rintro e W' ⟨⟨v, rfl⟩, ⟨hi, hl, hk⟩ | h⟩
   ·have := run_endLoop (P := Tryz.prog) hl (by rw [hrec]; simp)
    rw [hrec] at this
    exact ⟨none, _, this, hdone _ (hI _ _ _ hi (same2_put _ W' _)) ((World.putObj_heap_other (by omega)).trans hk)⟩
   ·exact h.elim
end Go.Proofs.YtamafdcnbcoegaaGreat
namespace Go.Proofs.YtamafdcnbcoegaaGreat
open Go.RowKit
def recU  : Value := .agg #[]
def zeroU : Value := .agg #[]
theorem zero_U (w : World) : (zeroValue 225).run Tryz.prog w = .ok zeroU w := Tryz.zeroValue225 w
def AreU (l : List (Nat × Value)) : Prop := ∀ x ∈ l, x.2 = recU 
theorem areU_look {l : List (Nat × Value)} (h : AreU l) (k : Int) : (look l k = some (recU )) ∨ look l k = none := by
 cases hv : look l k with
 | none => exact .inr rfl
 | some v =>
  obtain ⟨x, hx, _, rfl⟩ := look_mem hv
  have e := h x hx
  exact .inl (by rw [e])
set_option maxHeartbeats 400000 in
theorem hasU_any {w : World} {p o : Nat} {arr : Array Value} {t : TypeId} {nv mv : Value} {l : List (Nat × Value)} (hb : w.heap[p]? = some (.cells arr t (0, 0))) (h1 : arr[o + 1]? = some mv) (S : ShelfIs w nv mv l) (A : AreU l) (n : Int) :
  Calls Tryz.prog 190 #[.pointer (some ⟨p, o, none⟩), .int .i64 n] w fun e w' => e = .returned (.bool (look l n).isSome) ∧ Below w.heap.size w w' := by
 have c1 : w.cell? ⟨p, o + 1, none⟩ = some mv := (blk_cell hb).trans h1
 have hrun := (run_lookup_i (P := Tryz.prog) (w := w) (t := 143) Tryz.underlying143 Tryz.underlying3 (zero_U w) S.map n).1
 clear S hb h1
 rcases areU_look A n with ⟨h⟩ | h
 all_goals
  rw [h] at hrun ⊢
  simp only [Option.getD_some, Option.getD_none, Option.isSome_some, Option.isSome_none, recU, zeroU] at hrun ⊢
  clear h A
  go_enter Tryz.func190, Tryz.ntmps190
  go_wp2
  go_ret
  refine ⟨rfl, ?_⟩
  exact (Below.refl _ _).alloc (Nat.le_refl _) _
set_option maxRecDepth 100000 in
set_option maxHeartbeats 1000000 in
theorem putU_any {w : World} {p o : Nat} {t : TypeId} {arr : Array Value} {nv mv : Value} {l : List (Nat × Value)} (S : ShAt w p o t arr nv mv l) (hl : l.length < 1000) (n : Nat)  :
  Calls Tryz.prog 156 #[.pointer (some ⟨p, o, none⟩), .int .i64 n, recU ] w fun e w' => e = .returned (.tuple #[]) ∧ ShStep w w' p o t arr nv mv (putL l n (recU )) := by
 obtain ⟨hbW, h0, h1, S, ht⟩ := S
 obtain ⟨mv0, hmv0⟩ : ∃ m, m = mv := ⟨_, rfl⟩
 rw [← hmv0]
 have hmv0 := hide hmv0
 have c0 : w.cell? ⟨p, o, none⟩ = some nv := (blk_cell hbW).trans h0
 have c1 : w.cell? ⟨p, o + 1, none⟩ = some mv := (blk_cell hbW).trans h1
 unfold recU
 have hp := lt_of_block hbW
 go_enter Tryz.func156, Tryz.ntmps156
 go_upto_region 1 with fail
 refine wp_world (fun x => x.heap[p]? = some (.cells arr t (0, 0)) ∧ x.heap[w.heap.size]? = some (.cells #[] 225 (0, 0)) ∧ ShelfIs x nv mv l ∧ Far (fun _ => False) w x ∧ w.heap.size < x.heap.size) ?_ ?_
 ·have hf : Far (fun _ => False) w (w.alloc (.cells #[] 225)) := far_below ((Below.refl _ _).alloc (Nat.le_refl _) _)
  exact ⟨hf.blk hbW id, heap_alloc_new w _, S.far hf (fun _ _ h => h), hf, by simp⟩
 clear c0 c1 S
 rintro x ⟨hb, hbox, S, hf, hz⟩
 have c0 : x.cell? ⟨p, o, none⟩ = some nv := (blk_cell hb).trans h0
 have c1 : x.cell? ⟨p, o + 1, none⟩ = some mv := (blk_cell hb).trans h1
 have hfr : x.frozen? ⟨p, o + 1, none⟩ = false := by simp [World.frozen?, hb]
 have hmm := @run_makeMap Tryz.prog
 have eqN : ∀ y : World, (binOp .eql 143 (.map none) (.map none)).run Tryz.prog y = .ok (.bool true) y := fun y => by kernel_rfl
 have eqS : ∀ (y : World) (m : Nat), (binOp .eql 143 (.map (some m)) (.map none)).run Tryz.prog y = .ok (.bool false) y := fun y m => by kernel_rfl
 have pM : (x.alloc (.map #[] 0)).heap[p]? = some (.cells arr t (0, 0)) := (Below.heap_alloc x _ p (lt_of_block hb)).trans hb
 have cM : (x.alloc (.map #[] 0)).cell? ⟨p, o + 1, none⟩ = some mv := (blk_cell pM).trans h1
 have fM : (x.alloc (.map #[] 0)).frozen? ⟨p, o + 1, none⟩ = false := by simp [World.frozen?, pM]
 rcases S.map with ⟨rfl, hm⟩ | ⟨mb, rfl, hm⟩
 all_goals
  go_upto_region 3 with fail
  refine wp_world (fun y => ∃ mb, y.heap[p]? = some (.cells (arr.setIfInBounds (o + 1) (.map (some mb))) t (0, 0)) ∧ y.heap[w.heap.size]? = some (.cells #[] 225 (0, 0)) ∧ NumsAt y nv (l.map (·.1)) ∧ MapAt y mb (look l) ∧
   Far (fun k => k = p) w y ∧ w.heap.size < y.heap.size ∧ (mapBlock mv0 = some mb ∨ w.heap.size ≤ mb)) ?_ ?_
 ·refine ⟨x.heap.size, blk_set pM, (blk_set_ne (by omega)).trans ((Below.heap_alloc x _ _ hz).trans hbox), ?_, ?_, ?_, ?_, .inr (Nat.le_of_lt hz)⟩
  ·exact S.nums.keep (fun g hg => (blk_set_ne (fun e => S.ne hb ht (.inl (by rw [← e]; exact hg)))).trans (Below.heap_alloc x _ g (World.ownsRow.lt S.nums g hg).2))
  ·rw [hm]
   exact (mapAt_new x).keep (blk_set_ne (by have := lt_of_block hb; omega))
  ·exact ((hf.mono (fun _ _ h => h.elim)).trans (far_below ((Below.refl _ x).alloc (Nat.le_refl _) _)) (fun _ _ h => h)).trans (far_set _ p (o + 1) _) (fun _ _ h => h)
  ·simp; omega
 rotate_left
 ·refine ⟨mb, by rw [set_same h1]; exact hb, hbox, S.nums, hm, hf.mono (fun _ _ h => h.elim), hz, .inl (by rw [unhide hmv0]; rfl)⟩
 all_goals
  have hs := hide S.sorted
  clear c0 c1 pM cM fM hfr hbox S hm hb hz hmm eqN eqS hf hp
  rintro y ⟨mb', hb, hbox, N, M, hfY, hz, hloc⟩
  have h0s : o < arr.size := (Array.getElem?_eq_some_iff.1 h0).1
  have h1s : o + 1 < arr.size := (Array.getElem?_eq_some_iff.1 h1).1
  have a0 : (arr.setIfInBounds (o + 1) (.map (some mb')))[o]? = some nv := by rw [Array.getElem?_setIfInBounds_ne (by omega)]; exact h0
  have a1 : (arr.setIfInBounds (o + 1) (.map (some mb')))[o + 1]? = some (.map (some mb')) := by simp [h1s]
  have c0 : y.cell? ⟨p, o, none⟩ = some nv := (blk_cell hb).trans a0
  have hk := keys_putL (v := recU ) (n := n) (unhide hs)
  have hsr := search_any N (unhide hs) (by simp; omega) n
  have hcl : (l.map (·.1)).countP (· < n) ≤ (l.map (·.1)).length := List.countP_le_length
  have hnl : (l.map (·.1)).length < 1000 := by simpa using hl
  generalize (l.map (·.1)).countP (· < n) = k at hk hsr hcl
  generalize (l.map (·.1)).contains n = c at hk hsr
  generalize l.map (·.1) = ns at hk hsr hcl N hnl
  replace hk := hide hk
  replace hsr := hide hsr
  cases c
  ·go_upto_region 4 with (go_at_call 132; refine (unhide hsr).mono ?_; rintro e y1 ⟨rfl, q, rfl⟩)
   go_upto_region 6 with fail
   refine (insert_any (w := (y.drewN q).alloc (.cells #[.int .i64 n] 3)) (ns := ns) (N.keep (fun g hg => Below.heap_alloc (y.drewN q) _ g (World.ownsRow.lt N g hg).2)) (by omega) k n y.heap.size hcl (heap_alloc_new (y.drewN q) _) (fun e => by have := (World.ownsRow.lt N _ e).2; omega)).mono ?_
   rintro e z ⟨nv', rfl, hN', hF', hL'⟩
   have hbz := hF'.blk ((Below.heap_alloc (y.drewN q) _ p (lt_of_block hb)).trans hb) (fun e => (RowO.of_own N).ne hb (fun e => ht e.symm) e)
   have hxz := hF'.blk ((Below.heap_alloc (y.drewN q) _ _ hz).trans hbox) (fun e => (RowO.of_own N).ne hbox (by decide) e)
   have cz := (blk_cell hbz).trans a0
   have fz : z.frozen? ⟨p, o, none⟩ = false := by simp [World.frozen?, hbz]
   obtain ⟨ns', hns'⟩ : ∃ x, x = ns.take k ++ n :: ns.drop k := ⟨_, rfl⟩
   rw [← hns'] at hN'
   obtain ⟨g', cap', rfl⟩ := own_shape hN' (by rw [hns']; simp only [List.length_append, List.length_cons]; omega)
   replace hns' := hide hns'
   go_upto_region 6 with fail
   refine wp_world (fun z => ∃ nv', z.heap[p]? = some (.cells ((arr.setIfInBounds o nv').setIfInBounds (o + 1) (.map (some mb'))) t (0, 0)) ∧ z.heap[w.heap.size]? = some (.cells #[] 225 (0, 0)) ∧ NumsAt z nv' ((putL l n (recU )).map (·.1)) ∧ MapAt z mb' (look l) ∧
    Far (fun k => k = p ∨ nv.ownBlock = some k) w z ∧ Loc w nv nv') ?_ ?_
   ·have hne : nv.ownBlock ≠ some mb' := N.notMap M
    have hpn : ∀ g, (Value.slice (some ⟨g', 0, none⟩) ns'.length cap').ownBlock = some g → g ≠ p := fun g hg e => (RowO.of_own hN').ne hbz (fun e => ht e.symm) (by rw [hg, e])
    have hk' := unhide hk
    simp only [Bool.false_eq_true, if_false] at hk'
    have hfal : Far (fun _ => False) y ((y.drewN q).alloc (.cells #[.int .i64 n] 3)) := (far_drewN (fun _ => False) y q).trans (far_below ((Below.refl _ _).alloc (Nat.le_refl _) _)) (fun _ _ h => h)
    have hfz : Far (fun b => b = p ∨ nv.ownBlock = some b) w z := (hfY.mono (fun _ _ h => .inl h)).trans ((hfal.mono (fun _ _ h => h.elim)).trans hF' (fun _ _ h => h)) (fun _ _ h => .inr h)
    refine ⟨_, ?_, (blk_set_ne (by have := lt_of_block hbW; omega)).trans hxz, ?_, ?_, hfz.trans (far_set z p o _) (fun _ _ h => .inl h), loc_less hL' (by simp; omega)⟩
    ·rw [set_comm _ _ (show o ≠ o + 1 by omega)]
     exact blk_set hbz
    ·rw [hk', ← unhide hns']
     exact hN'.keep (fun g hg => blk_set_ne (hpn g hg))
    ·exact M.keep ((blk_set_ne (fun e => M.not_cells (by rw [e]; exact hb))).trans ((hF'.rest _ (by have := M.lt; simp; omega) hne).trans (hfal.rest _ M.lt id)))
   ·skip
    rintro z ⟨nv', hb, hbox, N', M, hf, hl'⟩
    obtain ⟨ob, hU, hM⟩ := run_update_i (P := Tryz.prog) (w := z) (t := 143) Tryz.underlying143 Tryz.underlying3 M n (recU )
    have hU' := hU z.drew rfl
    unfold recU at hU'
    have c1 : z.cell? ⟨p, o + 1, none⟩ = some (.map (some mb')) := (blk_cell hb).trans (by simp [h1s])
    go_region
    refine bodyPost_end (results_none rfl _ _ _) rfl ⟨rfl, ?_⟩
    exact put_end (v := recU ) (W := { z.drew with heap := z.drew.heap.setIfInBounds mb' ob }) h0s h1s hb ht N' M hf hl' hloc hM ((far_drewN _ z 1).trans (far_block mb' ob) (fun _ _ h => h)) (unhide hs) hl
  ·go_upto_region 4 with (go_at_call 132; refine (unhide hsr).mono ?_; rintro e y1 ⟨rfl, q, rfl⟩)
   go_upto_region 6 with fail
   refine wp_world (fun z => ∃ nv', z.heap[p]? = some (.cells ((arr.setIfInBounds o nv').setIfInBounds (o + 1) (.map (some mb'))) t (0, 0)) ∧ z.heap[w.heap.size]? = some (.cells #[] 225 (0, 0)) ∧ NumsAt z nv' ((putL l n (recU )).map (·.1)) ∧ MapAt z mb' (look l) ∧
    Far (fun k => k = p ∨ nv.ownBlock = some k) w z ∧ Loc w nv nv') ?_ ?_
   ·have hk' := unhide hk
    simp only [if_true] at hk'
    refine ⟨nv, ?_, hbox, by rw [hk']; exact N, M, (hfY.mono (fun _ _ h => .inl h)).trans (far_drewN _ y q) (fun _ _ h => h), .inr (.inl rfl)⟩
    rw [set_same h0]
    exact hb
   ·skip
    rintro z ⟨nv', hb, hbox, N', M, hf, hl'⟩
    obtain ⟨ob, hU, hM⟩ := run_update_i (P := Tryz.prog) (w := z) (t := 143) Tryz.underlying143 Tryz.underlying3 M n (recU )
    have hU' := hU z.drew rfl
    unfold recU at hU'
    have c1 : z.cell? ⟨p, o + 1, none⟩ = some (.map (some mb')) := (blk_cell hb).trans (by simp [h1s])
    go_region
    refine bodyPost_end (results_none rfl _ _ _) rfl ⟨rfl, ?_⟩
    exact put_end (v := recU ) (W := { z.drew with heap := z.drew.heap.setIfInBounds mb' ob }) h0s h1s hb ht N' M hf hl' hloc hM ((far_drewN _ z 1).trans (far_block mb' ob) (fun _ _ h => h)) (unhide hs) hl
end Go.Proofs.YtamafdcnbcoegaaGreat
namespace Go.Proofs.YtamafdcnbcoegaaGreat
open Go.RowKit
set_option maxRecDepth 100000 in
set_option maxHeartbeats 1000000 in
theorem clearU_any {w : World} {p o : Nat} {t : TypeId} {arr : Array Value} {nv mv : Value} {l : List (Nat × Value)} (S : ShAt w p o t arr nv mv l) :
  Calls Tryz.prog 154 #[.pointer (some ⟨p, o, none⟩)] w fun e w' => e = .returned (.tuple #[]) ∧ ShStep w w' p o t arr nv mv [] := by
 obtain ⟨hbW, h0, h1, S, ht⟩ := S
 have h0s : o < arr.size := (Array.getElem?_eq_some_iff.1 h0).1
 have h1s : o + 1 < arr.size := (Array.getElem?_eq_some_iff.1 h1).1
 obtain ⟨mv0, hmv0⟩ : ∃ m, m = mv := ⟨_, rfl⟩
 rw [← hmv0]
 replace hmv0 := hide hmv0
 have c1 : w.cell? ⟨p, o + 1, none⟩ = some mv := (blk_cell hbW).trans h1
 have e0 := S.nums.cases
 have hm : (mv = .map none ∧ ∀ ty, (Builtin.clear_ #[143] ty #[.map none]).run Tryz.prog w = .ok (.tuple #[]) w) ∨
   ∃ b o, mv = .map (some b) ∧ b ≠ p ∧ nv.ownBlock ≠ some b ∧ (∀ ty, (Builtin.clear_ #[143] ty #[.map (some b)]).run Tryz.prog w = .ok (.tuple #[]) { w with heap := w.heap.setIfInBounds b o }) ∧ MapAt { w with heap := w.heap.setIfInBounds b o } b (fun _ => none) := by
  rcases S.map with ⟨rfl, hm⟩ | ⟨mb, rfl, hm⟩
  ·exact .inl ⟨rfl, fun ty => run_clear_n Tryz.underlying143⟩
  ·obtain ⟨ob, hU, hM⟩ := run_clear_m (P := Tryz.prog) (w := w) (t := 143) Tryz.underlying143 hm
   exact .inr ⟨mb, ob, rfl, fun e => hm.not_cells (by rw [e]; exact hbW), S.nums.notMap hm, fun ty => hU ty w rfl, hM⟩
 rcases hm with ⟨rfl, hrun⟩ | ⟨mb, ob, rfl, hmp, hmn, hrun, hM⟩
 all_goals
  go_enter Tryz.func154, Tryz.ntmps154
  go_upto_region 1 with fail
  refine wp_world (fun x => x.heap[p]? = some (.cells arr t (0, 0)) ∧ NumsAt x nv (l.map (·.1)) ∧ MapV x mv0 (look []) ∧ Far (fun k => k = p ∨ ShU nv mv0 k) w x) ?_ ?_
 ·exact ⟨hbW, S.nums, by rw [unhide hmv0]; exact .inl ⟨rfl, look_nil⟩, Far.refl _ _⟩
 rotate_left
 ·have hf := far_block (w := w) mb ob
  refine ⟨hf.blk hbW (fun e => hmp e.symm), S.nums.keep (fun g hg => hf.rest g (World.ownsRow.lt S.nums g hg).2 (fun e => hmn (by rw [hg, e]))), by rw [unhide hmv0]; exact .inr ⟨mb, rfl, by rw [look_nil]; exact hM⟩, hf.mono (fun k _ e => .inr (.inr (by rw [unhide hmv0, e]; rfl)))⟩
 all_goals
  clear S
  rintro x ⟨hb, N, M, hf⟩
  have c0 : x.cell? ⟨p, o, none⟩ = some nv := (blk_cell hb).trans h0
  have f0 : x.frozen? ⟨p, o, none⟩ = false := by simp [World.frozen?, hb]
  rcases e0 with ⟨rfl, _⟩ | ⟨g, cap, cur, rfl, hh, hn, hc, hz, htk⟩
  ·go_wp2
   refine bodyPost_end (results_none rfl _ _ _) rfl ⟨rfl, ?_⟩
   refine ⟨⟨_, mv0, ⟨?_, ?_, ?_, ⟨numsAt_nil _, M.keep (fun b hb' => blk_set_ne (fun e => ?_)), by simp, by simp⟩, ht⟩, .inr (.inl rfl), .inl rfl⟩, hf.trans (far_set x p o _) (fun _ _ h => .inl h)⟩
   ·have := blk_set (j := o) (v := .slice none 0 0) hb
    rw [set_same (i := o + 1)]
    ·exact this
    ·rw [Array.getElem?_setIfInBounds_ne (by omega), h1, unhide hmv0]
   ·rw [Array.getElem?_setIfInBounds_ne (by omega)]; simp [h0s]
   ·simp [h1s]
   ·rcases M with ⟨h, _⟩ | ⟨b', h, hM'⟩
    ·rw [h] at hb'; cases hb'
    ·rw [h] at hb'; cases hb'; exact hM'.not_cells (by rw [e]; exact hb)
  ·go_wp2
   refine bodyPost_end (results_none rfl _ _ _) rfl ⟨rfl, ?_⟩
   rcases N.cases with ⟨h, _⟩ | ⟨g', cap', cur', h, hh', hn', hc', hz', htk'⟩
   ·cases h
   ·injection h with h _ h3
    injection h with h
    injection h with h
    subst h h3
    have hgp : g ≠ p := fun e => by
     subst e
     rw [hh'] at hb
     injection hb with hb
     injection hb with _ hb _
     exact ht hb.symm
    refine ⟨⟨_, mv0, ⟨?_, ?_, ?_, ⟨numsAt_mk (ns := []) ((blk_set_ne hgp).trans hh') (Nat.zero_le _) hc hz' rfl, M.keep (fun b hb' => blk_set_ne (fun e => ?_)), by simp, by simp⟩, ht⟩, .inr (.inl rfl), .inl rfl⟩, hf.trans (far_set x p o _) (fun _ _ h => .inl h)⟩
    ·rw [set_same (i := o + 1)]
     ·exact blk_set (j := o) hb
     ·rw [Array.getElem?_setIfInBounds_ne (by omega), h1, unhide hmv0]
    ·rw [Array.getElem?_setIfInBounds_ne (by omega)]; simp [h0s]
    ·simp [h1s]
    ·rcases M with ⟨h, _⟩ | ⟨b', h, hM'⟩
     ·rw [h] at hb'; cases hb'
     ·rw [h] at hb'; cases hb'; exact hM'.not_cells (by rw [e]; exact hb)
end Go.Proofs.YtamafdcnbcoegaaGreat
namespace Go.Proofs.YtamafdcnbcoegaaGreat
open Go.RowKit
def recI (m : Nat) : Value := .int .i64 m
def zeroI : Value := .int .i64 0
theorem zero_I (w : World) : (zeroValue 3).run Tryz.prog w = .ok zeroI w := Tryz.zeroValue3 w
def AreI (l : List (Nat × Value)) : Prop := ∀ x ∈ l, ∃ m, x.2 = recI m
theorem areI_look {l : List (Nat × Value)} (h : AreI l) (k : Int) : (∃ m, look l k = some (recI m)) ∨ look l k = none := by
 cases hv : look l k with
 | none => exact .inr rfl
 | some v =>
  obtain ⟨x, hx, _, rfl⟩ := look_mem hv
  obtain ⟨m, e⟩ := h x hx
  exact .inl ⟨m, by rw [e]⟩
set_option maxRecDepth 100000 in
set_option maxHeartbeats 1000000 in
theorem putI_any {w : World} {p o : Nat} {t : TypeId} {arr : Array Value} {nv mv : Value} {l : List (Nat × Value)} (S : ShAt w p o t arr nv mv l) (hl : l.length < 1000) (n : Nat) (m : Nat) :
  Calls Tryz.prog 139 #[.pointer (some ⟨p, o, none⟩), .int .i64 n, recI m] w fun e w' => e = .returned (.tuple #[]) ∧ ShStep w w' p o t arr nv mv (putL l n (recI m)) := by
 obtain ⟨hbW, h0, h1, S, ht⟩ := S
 obtain ⟨mv0, hmv0⟩ : ∃ m, m = mv := ⟨_, rfl⟩
 rw [← hmv0]
 have hmv0 := hide hmv0
 have c0 : w.cell? ⟨p, o, none⟩ = some nv := (blk_cell hbW).trans h0
 have c1 : w.cell? ⟨p, o + 1, none⟩ = some mv := (blk_cell hbW).trans h1
 unfold recI
 have hp := lt_of_block hbW
 go_enter Tryz.func139, Tryz.ntmps139
 refine wp_world (fun x => x.heap[p]? = some (.cells arr t (0, 0)) ∧ ShelfIs x nv mv l ∧ Far (fun _ => False) w x ∧ w.heap.size ≤ x.heap.size) ?_ ?_
 ·exact ⟨hbW, S, Far.refl _ w, Nat.le_refl _⟩
 clear c0 c1 S
 rintro x ⟨hb, S, hf, hz⟩
 have c0 : x.cell? ⟨p, o, none⟩ = some nv := (blk_cell hb).trans h0
 have c1 : x.cell? ⟨p, o + 1, none⟩ = some mv := (blk_cell hb).trans h1
 have hfr : x.frozen? ⟨p, o + 1, none⟩ = false := by simp [World.frozen?, hb]
 have hmm := @run_makeMap Tryz.prog
 have eqN : ∀ y : World, (binOp .eql 140 (.map none) (.map none)).run Tryz.prog y = .ok (.bool true) y := fun y => by kernel_rfl
 have eqS : ∀ (y : World) (m : Nat), (binOp .eql 140 (.map (some m)) (.map none)).run Tryz.prog y = .ok (.bool false) y := fun y m => by kernel_rfl
 have pM : (x.alloc (.map #[] 0)).heap[p]? = some (.cells arr t (0, 0)) := (Below.heap_alloc x _ p (lt_of_block hb)).trans hb
 have cM : (x.alloc (.map #[] 0)).cell? ⟨p, o + 1, none⟩ = some mv := (blk_cell pM).trans h1
 have fM : (x.alloc (.map #[] 0)).frozen? ⟨p, o + 1, none⟩ = false := by simp [World.frozen?, pM]
 rcases S.map with ⟨rfl, hm⟩ | ⟨mb, rfl, hm⟩
 all_goals
  go_upto_region 2 with fail
  refine wp_world (fun y => ∃ mb, y.heap[p]? = some (.cells (arr.setIfInBounds (o + 1) (.map (some mb))) t (0, 0)) ∧ NumsAt y nv (l.map (·.1)) ∧ MapAt y mb (look l) ∧
   Far (fun k => k = p) w y ∧ w.heap.size ≤ y.heap.size ∧ (mapBlock mv0 = some mb ∨ w.heap.size ≤ mb)) ?_ ?_
 ·refine ⟨x.heap.size, blk_set pM, ?_, ?_, ?_, ?_, .inr hz⟩
  ·exact S.nums.keep (fun g hg => (blk_set_ne (fun e => S.ne hb ht (.inl (by rw [← e]; exact hg)))).trans (Below.heap_alloc x _ g (World.ownsRow.lt S.nums g hg).2))
  ·rw [hm]
   exact (mapAt_new x).keep (blk_set_ne (by have := lt_of_block hb; omega))
  ·exact ((hf.mono (fun _ _ h => h.elim)).trans (far_below ((Below.refl _ x).alloc (Nat.le_refl _) _)) (fun _ _ h => h)).trans (far_set _ p (o + 1) _) (fun _ _ h => h)
  ·simp; omega
 rotate_left
 ·refine ⟨mb, by rw [set_same h1]; exact hb, S.nums, hm, hf.mono (fun _ _ h => h.elim), hz, .inl (by rw [unhide hmv0]; rfl)⟩
 all_goals
  have hs := hide S.sorted
  clear c0 c1 pM cM fM hfr S hm hb hz hmm eqN eqS hf hp
  rintro y ⟨mb', hb, N, M, hfY, hz, hloc⟩
  have h0s : o < arr.size := (Array.getElem?_eq_some_iff.1 h0).1
  have h1s : o + 1 < arr.size := (Array.getElem?_eq_some_iff.1 h1).1
  have a0 : (arr.setIfInBounds (o + 1) (.map (some mb')))[o]? = some nv := by rw [Array.getElem?_setIfInBounds_ne (by omega)]; exact h0
  have a1 : (arr.setIfInBounds (o + 1) (.map (some mb')))[o + 1]? = some (.map (some mb')) := by simp [h1s]
  have c0 : y.cell? ⟨p, o, none⟩ = some nv := (blk_cell hb).trans a0
  have hk := keys_putL (v := recI m) (n := n) (unhide hs)
  have hsr := search_any N (unhide hs) (by simp; omega) n
  have hcl : (l.map (·.1)).countP (· < n) ≤ (l.map (·.1)).length := List.countP_le_length
  have hnl : (l.map (·.1)).length < 1000 := by simpa using hl
  generalize (l.map (·.1)).countP (· < n) = k at hk hsr hcl
  generalize (l.map (·.1)).contains n = c at hk hsr
  generalize l.map (·.1) = ns at hk hsr hcl N hnl
  replace hk := hide hk
  replace hsr := hide hsr
  cases c
  ·go_upto_region 3 with (go_at_call 132; refine (unhide hsr).mono ?_; rintro e y1 ⟨rfl, q, rfl⟩)
   go_upto_region 5 with fail
   refine (insert_any (w := (y.drewN q).alloc (.cells #[.int .i64 n] 3)) (ns := ns) (N.keep (fun g hg => Below.heap_alloc (y.drewN q) _ g (World.ownsRow.lt N g hg).2)) (by omega) k n y.heap.size hcl (heap_alloc_new (y.drewN q) _) (fun e => by have := (World.ownsRow.lt N _ e).2; omega)).mono ?_
   rintro e z ⟨nv', rfl, hN', hF', hL'⟩
   have hbz := hF'.blk ((Below.heap_alloc (y.drewN q) _ p (lt_of_block hb)).trans hb) (fun e => (RowO.of_own N).ne hb (fun e => ht e.symm) e)
   have cz := (blk_cell hbz).trans a0
   have fz : z.frozen? ⟨p, o, none⟩ = false := by simp [World.frozen?, hbz]
   obtain ⟨ns', hns'⟩ : ∃ x, x = ns.take k ++ n :: ns.drop k := ⟨_, rfl⟩
   rw [← hns'] at hN'
   obtain ⟨g', cap', rfl⟩ := own_shape hN' (by rw [hns']; simp only [List.length_append, List.length_cons]; omega)
   replace hns' := hide hns'
   go_upto_region 5 with fail
   refine wp_world (fun z => ∃ nv', z.heap[p]? = some (.cells ((arr.setIfInBounds o nv').setIfInBounds (o + 1) (.map (some mb'))) t (0, 0)) ∧ NumsAt z nv' ((putL l n (recI m)).map (·.1)) ∧ MapAt z mb' (look l) ∧
    Far (fun k => k = p ∨ nv.ownBlock = some k) w z ∧ Loc w nv nv') ?_ ?_
   ·have hne : nv.ownBlock ≠ some mb' := N.notMap M
    have hpn : ∀ g, (Value.slice (some ⟨g', 0, none⟩) ns'.length cap').ownBlock = some g → g ≠ p := fun g hg e => (RowO.of_own hN').ne hbz (fun e => ht e.symm) (by rw [hg, e])
    have hk' := unhide hk
    simp only [Bool.false_eq_true, if_false] at hk'
    have hfal : Far (fun _ => False) y ((y.drewN q).alloc (.cells #[.int .i64 n] 3)) := (far_drewN (fun _ => False) y q).trans (far_below ((Below.refl _ _).alloc (Nat.le_refl _) _)) (fun _ _ h => h)
    have hfz : Far (fun b => b = p ∨ nv.ownBlock = some b) w z := (hfY.mono (fun _ _ h => .inl h)).trans ((hfal.mono (fun _ _ h => h.elim)).trans hF' (fun _ _ h => h)) (fun _ _ h => .inr h)
    refine ⟨_, ?_, ?_, ?_, hfz.trans (far_set z p o _) (fun _ _ h => .inl h), loc_less hL' (by simp; omega)⟩
    ·rw [set_comm _ _ (show o ≠ o + 1 by omega)]
     exact blk_set hbz
    ·rw [hk', ← unhide hns']
     exact hN'.keep (fun g hg => blk_set_ne (hpn g hg))
    ·exact M.keep ((blk_set_ne (fun e => M.not_cells (by rw [e]; exact hb))).trans ((hF'.rest _ (by have := M.lt; simp; omega) hne).trans (hfal.rest _ M.lt id)))
   ·skip
    rintro z ⟨nv', hb, N', M, hf, hl'⟩
    obtain ⟨ob, hU, hM⟩ := run_update_i (P := Tryz.prog) (w := z) (t := 140) Tryz.underlying140 Tryz.underlying3 M n (recI m)
    have hU' := hU z rfl
    unfold recI at hU'
    have c1 : z.cell? ⟨p, o + 1, none⟩ = some (.map (some mb')) := (blk_cell hb).trans (by simp [h1s])
    go_wp2
    refine bodyPost_end (results_none rfl _ _ _) rfl ⟨rfl, ?_⟩
    exact put_end (v := recI m) (W := { z with heap := z.heap.setIfInBounds mb' ob }) h0s h1s hb ht N' M hf hl' hloc hM (far_block mb' ob) (unhide hs) hl
  ·go_upto_region 3 with (go_at_call 132; refine (unhide hsr).mono ?_; rintro e y1 ⟨rfl, q, rfl⟩)
   go_upto_region 5 with fail
   refine wp_world (fun z => ∃ nv', z.heap[p]? = some (.cells ((arr.setIfInBounds o nv').setIfInBounds (o + 1) (.map (some mb'))) t (0, 0)) ∧ NumsAt z nv' ((putL l n (recI m)).map (·.1)) ∧ MapAt z mb' (look l) ∧
    Far (fun k => k = p ∨ nv.ownBlock = some k) w z ∧ Loc w nv nv') ?_ ?_
   ·have hk' := unhide hk
    simp only [if_true] at hk'
    refine ⟨nv, ?_, by rw [hk']; exact N, M, (hfY.mono (fun _ _ h => .inl h)).trans (far_drewN _ y q) (fun _ _ h => h), .inr (.inl rfl)⟩
    rw [set_same h0]
    exact hb
   ·skip
    rintro z ⟨nv', hb, N', M, hf, hl'⟩
    obtain ⟨ob, hU, hM⟩ := run_update_i (P := Tryz.prog) (w := z) (t := 140) Tryz.underlying140 Tryz.underlying3 M n (recI m)
    have hU' := hU z rfl
    unfold recI at hU'
    have c1 : z.cell? ⟨p, o + 1, none⟩ = some (.map (some mb')) := (blk_cell hb).trans (by simp [h1s])
    go_wp2
    refine bodyPost_end (results_none rfl _ _ _) rfl ⟨rfl, ?_⟩
    exact put_end (v := recI m) (W := { z with heap := z.heap.setIfInBounds mb' ob }) h0s h1s hb ht N' M hf hl' hloc hM (far_block mb' ob) (unhide hs) hl
end Go.Proofs.YtamafdcnbcoegaaGreat
namespace Go.Proofs.YtamafdcnbcoegaaGreat
open Go.RowKit
set_option maxRecDepth 100000 in
set_option maxHeartbeats 1000000 in
theorem clearI_any {w : World} {p o : Nat} {t : TypeId} {arr : Array Value} {nv mv : Value} {l : List (Nat × Value)} (S : ShAt w p o t arr nv mv l) :
  Calls Tryz.prog 153 #[.pointer (some ⟨p, o, none⟩)] w fun e w' => e = .returned (.tuple #[]) ∧ ShStep w w' p o t arr nv mv [] := by
 obtain ⟨hbW, h0, h1, S, ht⟩ := S
 have h0s : o < arr.size := (Array.getElem?_eq_some_iff.1 h0).1
 have h1s : o + 1 < arr.size := (Array.getElem?_eq_some_iff.1 h1).1
 obtain ⟨mv0, hmv0⟩ : ∃ m, m = mv := ⟨_, rfl⟩
 rw [← hmv0]
 replace hmv0 := hide hmv0
 have c1 : w.cell? ⟨p, o + 1, none⟩ = some mv := (blk_cell hbW).trans h1
 have e0 := S.nums.cases
 have hm : (mv = .map none ∧ ∀ ty, (Builtin.clear_ #[140] ty #[.map none]).run Tryz.prog w = .ok (.tuple #[]) w) ∨
   ∃ b o, mv = .map (some b) ∧ b ≠ p ∧ nv.ownBlock ≠ some b ∧ (∀ ty, (Builtin.clear_ #[140] ty #[.map (some b)]).run Tryz.prog w = .ok (.tuple #[]) { w with heap := w.heap.setIfInBounds b o }) ∧ MapAt { w with heap := w.heap.setIfInBounds b o } b (fun _ => none) := by
  rcases S.map with ⟨rfl, hm⟩ | ⟨mb, rfl, hm⟩
  ·exact .inl ⟨rfl, fun ty => run_clear_n Tryz.underlying140⟩
  ·obtain ⟨ob, hU, hM⟩ := run_clear_m (P := Tryz.prog) (w := w) (t := 140) Tryz.underlying140 hm
   exact .inr ⟨mb, ob, rfl, fun e => hm.not_cells (by rw [e]; exact hbW), S.nums.notMap hm, fun ty => hU ty w rfl, hM⟩
 rcases hm with ⟨rfl, hrun⟩ | ⟨mb, ob, rfl, hmp, hmn, hrun, hM⟩
 all_goals
  go_enter Tryz.func153, Tryz.ntmps153
  go_upto_region 1 with fail
  refine wp_world (fun x => x.heap[p]? = some (.cells arr t (0, 0)) ∧ NumsAt x nv (l.map (·.1)) ∧ MapV x mv0 (look []) ∧ Far (fun k => k = p ∨ ShU nv mv0 k) w x) ?_ ?_
 ·exact ⟨hbW, S.nums, by rw [unhide hmv0]; exact .inl ⟨rfl, look_nil⟩, Far.refl _ _⟩
 rotate_left
 ·have hf := far_block (w := w) mb ob
  refine ⟨hf.blk hbW (fun e => hmp e.symm), S.nums.keep (fun g hg => hf.rest g (World.ownsRow.lt S.nums g hg).2 (fun e => hmn (by rw [hg, e]))), by rw [unhide hmv0]; exact .inr ⟨mb, rfl, by rw [look_nil]; exact hM⟩, hf.mono (fun k _ e => .inr (.inr (by rw [unhide hmv0, e]; rfl)))⟩
 all_goals
  clear S
  rintro x ⟨hb, N, M, hf⟩
  have c0 : x.cell? ⟨p, o, none⟩ = some nv := (blk_cell hb).trans h0
  have f0 : x.frozen? ⟨p, o, none⟩ = false := by simp [World.frozen?, hb]
  rcases e0 with ⟨rfl, _⟩ | ⟨g, cap, cur, rfl, hh, hn, hc, hz, htk⟩
  ·go_wp2
   refine bodyPost_end (results_none rfl _ _ _) rfl ⟨rfl, ?_⟩
   refine ⟨⟨_, mv0, ⟨?_, ?_, ?_, ⟨numsAt_nil _, M.keep (fun b hb' => blk_set_ne (fun e => ?_)), by simp, by simp⟩, ht⟩, .inr (.inl rfl), .inl rfl⟩, hf.trans (far_set x p o _) (fun _ _ h => .inl h)⟩
   ·have := blk_set (j := o) (v := .slice none 0 0) hb
    rw [set_same (i := o + 1)]
    ·exact this
    ·rw [Array.getElem?_setIfInBounds_ne (by omega), h1, unhide hmv0]
   ·rw [Array.getElem?_setIfInBounds_ne (by omega)]; simp [h0s]
   ·simp [h1s]
   ·rcases M with ⟨h, _⟩ | ⟨b', h, hM'⟩
    ·rw [h] at hb'; cases hb'
    ·rw [h] at hb'; cases hb'; exact hM'.not_cells (by rw [e]; exact hb)
  ·go_wp2
   refine bodyPost_end (results_none rfl _ _ _) rfl ⟨rfl, ?_⟩
   rcases N.cases with ⟨h, _⟩ | ⟨g', cap', cur', h, hh', hn', hc', hz', htk'⟩
   ·cases h
   ·injection h with h _ h3
    injection h with h
    injection h with h
    subst h h3
    have hgp : g ≠ p := fun e => by
     subst e
     rw [hh'] at hb
     injection hb with hb
     injection hb with _ hb _
     exact ht hb.symm
    refine ⟨⟨_, mv0, ⟨?_, ?_, ?_, ⟨numsAt_mk (ns := []) ((blk_set_ne hgp).trans hh') (Nat.zero_le _) hc hz' rfl, M.keep (fun b hb' => blk_set_ne (fun e => ?_)), by simp, by simp⟩, ht⟩, .inr (.inl rfl), .inl rfl⟩, hf.trans (far_set x p o _) (fun _ _ h => .inl h)⟩
    ·rw [set_same (i := o + 1)]
     ·exact blk_set (j := o) hb
     ·rw [Array.getElem?_setIfInBounds_ne (by omega), h1, unhide hmv0]
    ·rw [Array.getElem?_setIfInBounds_ne (by omega)]; simp [h0s]
    ·simp [h1s]
    ·rcases M with ⟨h, _⟩ | ⟨b', h, hM'⟩
     ·rw [h] at hb'; cases hb'
     ·rw [h] at hb'; cases hb'; exact hM'.not_cells (by rw [e]; exact hb)
set_option maxHeartbeats 400000 in
theorem getI_any {w : World} {p o : Nat} {arr : Array Value} {t : TypeId} {nv mv : Value} {l : List (Nat × Value)} (hb : w.heap[p]? = some (.cells arr t (0, 0))) (h1 : arr[o + 1]? = some mv) (S : ShelfIs w nv mv l) (A : AreI l) (n : Int) :
  Calls Tryz.prog 191 #[.pointer (some ⟨p, o, none⟩), .int .i64 n] w fun e w' => e = .returned (.tuple #[(look l n).getD zeroI, .bool (look l n).isSome]) ∧ w' = w := by
 have c1 : w.cell? ⟨p, o + 1, none⟩ = some mv := (blk_cell hb).trans h1
 have hrun := (run_lookup_i (P := Tryz.prog) (w := w) (t := 140) Tryz.underlying140 Tryz.underlying3 (zero_I w) S.map n).1
 clear S hb h1
 rcases areI_look A n with ⟨m, h⟩ | h
 all_goals
  rw [h] at hrun ⊢
  simp only [Option.getD_some, Option.getD_none, Option.isSome_some, Option.isSome_none, recI, zeroI] at hrun ⊢
  clear h A
  go_enter Tryz.func191, Tryz.ntmps191
  go_wp2
  go_ret2
  exact ⟨rfl, rfl⟩
end Go.Proofs.YtamafdcnbcoegaaGreat
namespace Go.Proofs.YtamafdcnbcoegaaGreat
open Go.RowKit
theorem infoRI : (Tryz.prog.info? 3).map (fun i => (i.zero, i.size, i.bytes)) = some (some (.int .i64 0), 1, 8) := by kernel_rfl
set_option maxRecDepth 100000 in
set_option maxHeartbeats 2000000 in
theorem takeUpToI_any {w : World} {p o : Nat} {t : TypeId} {arr : Array Value} {nv mv : Value} {l : List (Nat × Value)} (S : ShAt w p o t arr nv mv l) (A : AreI l) (n : Nat) :
  Calls Tryz.prog 201 #[.pointer (some ⟨p, o, none⟩), .int .i64 n] w fun e w' => ∃ v, e = .returned v ∧
   w'.ownsRow w.heap.size 3 1 v (cutAt l n) (flat (l.take (cutAt l n))) ∧ ShTook w w' p o t arr nv mv (l.drop (cutAt l n)) := by
 obtain ⟨hbW, h0, h1, S, ht⟩ := S
 have h0s : o < arr.size := (Array.getElem?_eq_some_iff.1 h0).1
 have h1s : o + 1 < arr.size := (Array.getElem?_eq_some_iff.1 h1).1
 have c0 : w.cell? ⟨p, o, none⟩ = some nv := (blk_cell hbW).trans h0
 have hlen := S.len
 have hsr := search_any S.nums S.sorted (by simp; omega) n
 have hcut := cut_eq (n := n) S.sorted
 have hcl := cut_le l n
 have hk0 : (l.map (·.1)).countP (· < n) ≤ l.length := by have := List.countP_le_length (p := (· < n)) (l := l.map (·.1)); simpa using this
 obtain ⟨i0, hi, hz0, hz1, hz2⟩ := info_parts2 infoRI
 generalize cutAt l n = ce at *
 generalize (l.map (·.1)).countP (· < n) = k0 at *
 generalize (l.map (·.1)).contains n = c at *
 have hkl : (l.map (·.1)).length = l.length := List.length_map _
 have SS := hide S
 have HL := hide hkl
 replace hsr := hide hsr
 rcases S.nums.cases with ⟨hnv, hlz⟩ | ⟨g, cap, cur, hnv, hh, hn, hc, hz, htk⟩
 ·subst hnv
  obtain rfl : l = [] := by simpa using hlz
  obtain rfl : ce = 0 := by simpa using hcl
  obtain rfl : k0 = 0 := by simpa using hk0
  have hc : c = false := by cases c <;> simp_all
  subst hc
  have hde := fun y : World => delete_any (numsAt_nil y) 0 0 (by omega) (by simp)
  simp only [show ((0 : Nat) : Int) = 0 from rfl, List.take_nil, List.drop_nil, List.nil_append] at hde
  have HDE := fun y => hide (hde y)
  clear S hkl hde hcut hk0 hcl hlz
  simp only [show ((0 : Nat) : Int) = 0 from rfl] at hsr
  go_enter Tryz.func201, Tryz.ntmps201
  go_upto_region 5 with (go_at_call 132; refine (unhide hsr).mono ?_; rintro e y ⟨rfl, q, rfl⟩)
  go_wp2
  go_loopw [5, 9, 29] (fun v5 _ i wr => v5 = .slice none 0 0 ∧ i = .int .i64 0 ∧ wr = w.drewN q) (fun _ _ i _ => 0)
  case atStart => exact ⟨rfl, rfl, rfl⟩
  case round =>
   obtain ⟨rfl, rfl, rfl⟩ := hrel
   go_upto_region 12 with fail
   refine (unhide (HDE _)).mono ?_
   rintro e z ⟨nv', rfl, N', hF', hown⟩
   obtain rfl : nv' = .slice none 0 0 := by
    rcases N'.cases with ⟨h, _⟩ | ⟨g', cap', cur', rfl, _⟩
    ·exact h
    ·cases hown
   have hfz : Far (fun _ => False) w z := (far_drewN (fun _ => False) w q).trans (hF'.mono (fun _ _ h => by cases h)) (fun _ _ h => h)
   have hbz := hfz.blk hbW id
   have cz := (blk_cell hbz).trans h0
   have fz : z.frozen? ⟨p, o, none⟩ = false := by simp [World.frozen?, hbz]
   replace N' := hide N'
   replace hfz := hide hfz
   clear hF' hown
   go_wp2
   go_ret
   have S0 := unhide SS
   have hE : z.setCell ⟨p, o, none⟩ (.slice none 0 0) = z.setCell ⟨p, o, none⟩ (.slice none 0 0) := rfl
   refine ⟨_, rfl, World.ownsRow_nil _ _ _ _, ⟨_, ⟨blk_set hbz, by simp [h0s], by rw [Array.getElem?_setIfInBounds_ne (by omega)]; exact h1, ⟨numsAt_nil _, (S0.far (unhide hfz) (fun _ _ h => h)).map.keep (fun b hb' => blk_set_ne (fun e => ?_)), by simp, by simp⟩, ht⟩, rfl⟩, ((unhide hfz).mono (fun _ _ h => h.elim)).trans (far_set z p o _) (fun _ _ h => .inl h)⟩
   exact S0.ne hbW ht (.inr (by rw [hb', e]))
 ·rw [hkl] at hnv hn
  subst hnv
  have N0 := hide S.nums
  cases c
  all_goals
   simp only [if_true, if_false, Bool.false_eq_true, Nat.add_zero] at hcut
   clear S htk hkl
   try (rw [hcut] at hsr)
   have hcI : ((k0 : Int) + 1 = (ce : Int)) = ((k0 : Int) + 1 = (ce : Int)) := rfl
   try (have hcI : (k0 : Int) + 1 = ce := by omega)
   replace hcut := hide hcut
   go_enter Tryz.func201, Tryz.ntmps201
   go_upto_region 5 with (go_at_call 132; refine (unhide hsr).mono ?_; rintro e y ⟨rfl, q, rfl⟩)
  all_goals
   go_wp2
   go_loopw [5, 9, 29] (fun v5 _ i wr => ∃ k : Nat, k ≤ ce ∧ i = .int .i64 k ∧ wr.ownsRow w.heap.size 3 1 v5 k (flat (l.take k)) ∧ wr.heap[p]? = some (.cells arr t (0, 0)) ∧ NumsAt wr (.slice (some ⟨g, 0, none⟩) l.length cap) (l.map (·.1)) ∧ MapV wr mv (look (l.drop k)) ∧ Far (fun b => mapBlock mv = some b) w wr) (fun _ _ i _ => l.length - (intOf i).toNat)
   case atStart => exact ⟨0, by omega, rfl, World.ownsRow_nil _ _ _ _, hbW, (unhide SS).nums, by rw [List.drop_zero]; exact (unhide SS).map, far_drewN _ w q⟩
   case round =>
    obtain ⟨k, hk, rfl, ho, hb, N, M, hf⟩ := hrel
    by_cases hlt : k < ce
    ·have hkl : k < l.length := by omega
     obtain ⟨m, hx⟩ := A l[k] (List.getElem_mem hkl)
     have hdr : l.drop k = l[k] :: l.drop (k + 1) := List.drop_eq_getElem_cons hkl
     have hlk : look (l.drop k) (l[k].1 : Int) = some l[k].2 := by rw [hdr, look_cons, if_pos rfl]
     have hsorted := (unhide SS).sorted
     have hgt : ∀ y ∈ l.drop (k + 1), l[k].1 < y.1 := fun y hy => by
      have h1 : ((l.drop k).map (·.1)).Pairwise (· < ·) := by rw [List.map_drop]; exact hsorted.drop
      rw [hdr, List.map_cons, List.pairwise_cons] at h1
      exact h1.1 y.1 (List.mem_map.2 ⟨y, hy, rfl⟩)
     have hdel := del_look hgt
     rw [← hdr] at hdel
     have htake : flat (l.take (k + 1)) = flat (l.take k) ++ vcells l[k].2 := by rw [← flat_snoc, List.take_add_one, List.getElem?_eq_getElem hkl]; rfl
     have c0 := (blk_cell hb).trans h0
     have c1 := (blk_cell hb).trans h1
     have cn : wr.cell? ⟨g, k, none⟩ = some (.int .i64 (l[k].1 : Int)) := by
      rw [N.cell' (by simpa using hkl)]
      simp [List.getD_eq_getElem?_getD, hkl]
     rcases M with ⟨rfl, hM⟩ | ⟨mb, rfl, hM⟩
     ·rw [hM] at hlk; cases hlk
     have hrun := (run_lookup_i (P := Tryz.prog) (w := wr) (t := 140) Tryz.underlying140 Tryz.underlying3 (zero_I wr) (.inr ⟨mb, rfl, hM⟩) (l[k].1 : Int)).2
     rw [hlk, hx] at hrun
     rw [hx] at htake
     simp only [Option.getD_some, recI] at hrun
     have HT := hide htake
     have HD := hide hdel
     have HO := hide ho
     have HN := hide N
     have HM := hide hM
     have HF := hide hf
     have HX := hide hx
     clear ho N hM hf htake hdel hlk hx hdr hgt hsorted
     generalize hxn : l[k].1 = xn at *
     replace hxn := hide hxn
     have hsz := (unhide HF).size
     have hmb : mb < w.heap.size := (unhide SS).map.lt mb rfl
     have hpw := lt_of_block hbW
     have hk5 := fun g' (hg' : u5.ownBlock = some g') => World.ownsRow.lt (unhide HO) g' hg'
     go_upto_region 9 with (at_builtin; refine wpList_append_own _ rfl (.tmp 33) (.tmp 40) 26 rfl w.heap.size 3 i0 (.int .i64 0) 1 8 Tryz.underlying26 hi hz0 hz1 hz2 rfl (by decide) u5 k (flat (l.take k)) rfl ((unhide HO).alloc _) ⟨wr.heap.size, 0, none⟩ 1 1 (vcells (recI m)) rfl rfl cells_new (by intro u hu; simp [vcells, recI] at hu; first | (rcases hu with rfl | rfl <;> rfl) | (subst hu; rfl)) (by unfold maxLen; omega) (by omega) (by simp; omega) ?_; intro v' w1 hown' hgrow _; have hb1 : Below w.heap.size wr w1 := ((Below.refl _ wr).alloc hsz _).trans (below_grown_new (B := w.heap.size) hgrow (by simp; omega) (fun g' hg' => (hk5 g' hg').1)); obtain ⟨ob, hU, hM1⟩ := run_delete_i (P := Tryz.prog) (w := w1) (t := 140) (K' := 3) Tryz.underlying140 Tryz.underlying3 ((unhide HM).keep (hb1.block mb hmb)) xn; have hU2 := fun ty => hU ty w1 rfl; have hp1 := (hb1.block p hpw).trans hb; have c1' := (blk_cell hp1).trans h1; replace hown' := hide hown'; replace hM1 := hide hM1; replace hb1 := hide hb1; clear hgrow hU)
     go_wp2
     have hpm : p ≠ mb := fun e => (unhide HM).not_cells (by rw [← e]; exact hb)
     have hnm := (unhide HN).notMap (unhide HM)
     have hg := (World.ownsRow.lt (unhide HN) g rfl).2
     have hgw : g < w.heap.size := lt_of_block hh
     have hW := far_block (w := w1) mb ob
     have hN1 := (unhide HN).keep (w' := { w1 with heap := w1.heap.setIfInBounds mb ob }) (fun g' hg' => by
      cases hg'
      exact (hW.rest g (Nat.lt_of_lt_of_le hgw (Nat.le_trans hsz (unhide hb1).size)) (fun e => hnm (by rw [e]; rfl))).trans ((unhide hb1).block g hgw))
     have ho1 := ownsRow_keep2 (w' := { w1 with heap := w1.heap.setIfInBounds mb ob }) (unhide hown') (fun g' hg' => hW.rest g' (World.ownsRow.lt (unhide hown') g' hg').2 (fun e => by have := (World.ownsRow.lt (unhide hown') g' hg').1; omega))
     refine ⟨⟨k + 1, by omega, by go_num, by rw [unhide HT]; exact ho1, (hW.rest p (lt_of_block hp1) hpm).trans hp1, hN1, .inr ⟨mb, rfl, by rw [← unhide HD]; exact unhide hM1⟩,
      ((unhide HF).behind (unhide hb1)).trans hW (fun _ _ h => by rw [h]; rfl)⟩, by simp [intOf]; omega⟩
    ·obtain rfl : k = ce := by omega
     have HO := hide ho
     have HN := hide N
     have HM := hide M
     have HF := hide hf
     have hll : (l.map (·.1)).length = l.length := List.length_map _
     have hgp : g ≠ p := fun e => (RowO.of_own N).ne hb (fun e => ht e.symm) (by rw [← e]; rfl)
     have c0 := (blk_cell hb).trans h0
     have hde := delete_any N 0 k (by omega) (by omega)
     rw [show ((0 : Nat) : Int) = 0 from rfl, List.take_zero, List.nil_append, ← List.map_drop] at hde
     replace hde := hide hde
     clear ho N M hf hll
     go_upto_region 12 with fail
     refine (unhide hde).mono ?_
     rintro e z ⟨nv', rfl, N', hF', hown⟩
     have hbz := hF'.blk hb (fun e => hgp (by cases e; rfl))
     have cz := (blk_cell hbz).trans h0
     have fz : z.frozen? ⟨p, o, none⟩ = false := by simp [World.frozen?, hbz]
     have hlk : (List.map (fun x => x.1) (List.drop k l)).length = l.length - k := by simp
     have hsh := (RowO.of_own N').shape
     rw [hlk] at hsh
     obtain ⟨ad', cap', rfl, _⟩ := hsh
     replace hlk := hide hlk
     replace N' := hide N'
     replace hown := hide hown
     replace hF' := hide hF'
     go_wp2
     go_ret
     have S0 := unhide SS
     have hfar : Far (fun b => b = p ∨ ShU (.slice (some ⟨g, 0, none⟩) l.length cap) mv b) w z := ((unhide HF).mono (fun _ _ h => .inr (.inr h))).trans (unhide hF') (fun _ _ h => .inr (.inl h))
     have hkeep : ∀ b, b ≠ p → (z.setCell ⟨p, o, none⟩ (.slice ad' (l.length - k) cap')).heap[b]? = z.heap[b]? := fun b hb => blk_set_ne hb
     have hmz : ∀ b, mapBlock mv = some b → b ≠ p ∧ z.heap[b]? = wr.heap[b]? := fun b hb' => by
      rcases unhide HM with ⟨h, _⟩ | ⟨b', h, hM'⟩
      ·rw [h] at hb'; cases hb'
      ·rw [h] at hb'; cases hb'
       exact ⟨fun e => hM'.not_cells (by rw [e]; exact hb), (unhide hF').rest b hM'.lt (fun e => (unhide HN).notMap hM' e)⟩
     refine ⟨_, rfl, ownsRow_keep2 (unhide HO) (fun g' hg' => ?_), ⟨_, ⟨blk_set hbz, by simp [h0s], by rw [Array.getElem?_setIfInBounds_ne (by omega)]; exact h1, ⟨(unhide N').keep (fun g' hg' => hkeep g' ?_), (unhide HM).keep (fun b hb' => (hkeep b (hmz b hb').1).trans (hmz b hb').2), by rw [List.map_drop]; exact S0.sorted.drop, by rw [List.length_drop]; omega⟩, ht⟩, unhide hown⟩, hfar.trans (far_set z p o _) (fun _ _ h => .inl h)⟩
     ·have hg5 := World.ownsRow.lt (unhide HO) g' hg'
      have hpw := lt_of_block hbW
      have hgw := lt_of_block hh
      exact (hkeep g' (by omega)).trans ((unhide hF').rest g' hg5.2 (fun e => by have e2 : g = g' := Option.some.inj e; omega))
     ·rw [unhide hown] at hg'
      cases hg'
      exact hgp
end Go.Proofs.YtamafdcnbcoegaaGreat
namespace Go.Proofs.YtamafdcnbcoegaaGreat
open Go.RowKit
structure KaAt (w : World) (p : Nat) (g : Nat → Nat) (tk : Nat) (wel fen : Bool) (free : List Nat) (sh : Nat → List (Nat × Value)) (arr : Array Value) (s : Nat) (nv mv : Nat → Value) (fv rv : Value) : Prop where
 blk : w.heap[p]? = some (.cells arr 151 (0, 0))
 sz : arr.size = 27
 a0 : arr[0]? = some (ptrTo s)
 ag : ∀ i, i < 3 → arr[1 + i]? = some (.int .i64 (g i))
 an : ∀ k, k < 9 → arr[4 + k * 2]? = some (nv k)
 am : ∀ k, k < 9 → arr[4 + k * 2 + 1]? = some (mv k)
 af : arr[22]? = some fv
 at' : arr[23]? = some (.int .i64 tk)
 aw : arr[24]? = some (.bool wel)
 ae : arr[25]? = some (.bool fen)
 ar : arr[26]? = some rv
 fr : RowO w 3 1 fv free.length (numCells free)
 shs : ∀ k, k < 9 → ShelfIs w (nv k) (mv k) (sh k)
 apf : ∀ k, k < 9 → ∀ j, ShU (nv k) (mv k) j → fv.ownBlock ≠ some j
 aps : ∀ j k, j < 9 → k < 9 → j ≠ k → ∀ b, ShU (nv j) (mv j) b → ¬ ShU (nv k) (mv k) b
def KaU (p : Nat) (nv mv : Nat → Value) (fv : Value) (k : Nat) : Prop := k = p ∨ fv.ownBlock = some k ∨ ∃ i, i < 9 ∧ ShU (nv i) (mv i) k
structure Av where
 arr : Array Value
 s : Nat
 dp : Nat
 nv : Nat → Value
 mv : Nat → Value
 fv : Value
 rv : Value
 dlv : Value
 duv : Value
def agRules (p : Nat) : List Value := [.int .i64 2, .func (.func 104) #[ptrTo p] #[], .int .i64 4, .func (.func 105) #[ptrTo p] #[], .int .i64 5, .func (.func 106) #[ptrTo p] #[]]
structure PaAt (w : World) (p : Nat) (g : Nat → Nat) (tk : Nat) (wel fen : Bool) (free : List Nat) (sh : Nat → List (Nat × Value)) (st : Mod.Stv) (c : Av) : Prop where
 ks : KaAt w p g tk wel fen free sh c.arr c.s c.nv c.mv c.fv c.rv
 stt : StAt w c.s c.dp st c.dlv c.duv
 rl : RowO w 183 2 c.rv 3 (agRules p)
 len : st.dk.bytes.length = 1664
def PaU (p : Nat) (c : Av) (k : Nat) : Prop := KaU p c.nv c.mv c.fv k ∨ StU c.s c.dp c.dlv c.duv k ∨ c.rv.ownBlock = some k
section
variable {w x y : World} {p : Nat} {g g2 : Nat → Nat} {tk tk2 : Nat} {wel wel2 fen fen2 : Bool} {free free2 : List Nat} {sh sh2 : Nat → List (Nat × Value)} {arr : Array Value} {s : Nat} {nv mv : Nat → Value} {fv rv : Value} {st st2 : Mod.Stv} {c : Av}
theorem KaAt.far {E : Nat → Prop} (h : KaAt w p g tk wel fen free sh arr s nv mv fv rv) (hf : Far E w x) (hE : ∀ k, KaU p nv mv fv k → ¬ E k) : KaAt x p g tk wel fen free sh arr s nv mv fv rv :=
 ⟨hf.blk h.blk (hE p (.inl rfl)), h.sz, h.a0, h.ag, h.an, h.am, h.af, h.at', h.aw, h.ae, h.ar, h.fr.far hf (fun g hg => hE g (.inr (.inl hg))), fun i hi => (h.shs i hi).far hf (fun k hk => hE k (.inr (.inr ⟨i, hi, hk⟩))), h.apf, h.aps⟩
theorem KaAt.lt (h : KaAt w p g tk wel fen free sh arr s nv mv fv rv) : ∀ k, KaU p nv mv fv k → k < w.heap.size := by
 rintro k (rfl | hk | ⟨i, hi, hk⟩)
 ·exact lt_of_block h.blk
 ·exact h.fr.lt k hk
 ·exact (h.shs i hi).lt k hk
theorem ka_not_cells (h : KaAt w p g tk wel fen free sh arr s nv mv fv rv) {q : Nat} {cs : Array Value} {t : TypeId} {fr : Nat × Nat} (hb : w.heap[q]? = some (.cells cs t fr)) (h1 : t ≠ 151) (h3 : t ≠ 3) : ¬ KaU p nv mv fv q := by
 rintro (rfl | hk | ⟨i, hi, hk⟩)
 ·have := h.blk
  rw [hb] at this
  injection this with this
  injection this with _ this _
  exact h1 this
 ·exact h.fr.ne hb (fun e => h3 e.symm) hk
 ·exact (h.shs i hi).ne hb h3 hk
theorem PaAt.lt (h : PaAt w p g tk wel fen free sh st c) : ∀ k, PaU p c k → k < w.heap.size := by
 rintro k (hk | hk | hk)
 ·exact h.ks.lt k hk
 ·exact h.stt.lt k hk
 ·exact h.rl.lt k hk
theorem PaAt.far {E : Nat → Prop} (h : PaAt w p g tk wel fen free sh st c) (hf : Far E w x) (hE : ∀ k, PaU p c k → ¬ E k) : PaAt x p g tk wel fen free sh st c :=
 ⟨h.ks.far hf (fun k hk => hE k (.inl hk)), h.stt.far hf (fun k hk => hE k (.inr (.inl hk))), h.rl.far hf (fun g hg => hE g (.inr (.inr hg))), h.len⟩
theorem PaAt.below (h : PaAt w p g tk wel fen free sh st c) (hb : Below w.heap.size w x) : PaAt x p g tk wel fen free sh st c := h.far (far_below (E := fun _ => False) hb) (fun _ _ h => h)
theorem PaAt.sep (h : PaAt w p g tk wel fen free sh st c) : ∀ k, KaU p c.nv c.mv c.fv k → ¬ StU c.s c.dp c.dlv c.duv k := by
 rintro k hk (hs | hs | hs | hs)
 ·subst hs; exact ka_not_cells h.ks h.stt.blk (by decide) (by decide) hk
 ·subst hs; exact ka_not_cells h.ks h.stt.dk.blk (by decide) (by decide) hk
 ·obtain ⟨cur, hc⟩ := row_cells (RowO.of_own h.stt.dk.row) hs
  exact ka_not_cells h.ks hc (by decide) (by decide) hk
 ·obtain ⟨cur, hc⟩ := row_cells h.stt.dk.un hs
  exact ka_not_cells h.ks hc (by decide) (by decide) hk
theorem PaAt.sepr (h : PaAt w p g tk wel fen free sh st c) : ∀ k, c.rv.ownBlock = some k → ¬ KaU p c.nv c.mv c.fv k ∧ ¬ StU c.s c.dp c.dlv c.duv k := by
 intro k hk
 obtain ⟨cur, hc⟩ := row_cells h.rl hk
 refine ⟨ka_not_cells h.ks hc (by decide) (by decide), ?_⟩
 rintro (hs | hs)
 ·rw [hs, h.stt.blk] at hc
  injection hc with hc
  injection hc with _ hc _
  exact absurd hc (by decide)
 ·exact dk_ne h.stt.dk hc (by decide) (by decide) (by decide) hs
theorem pa_not_cells (H : PaAt w p g tk wel fen free sh st c) {q : Nat} {cs : Array Value} {t : TypeId} {fr : Nat × Nat} (hb : w.heap[q]? = some (.cells cs t fr))
  (h1 : t ≠ 151) (h3 : t ≠ 3) (h4 : t ≠ 203) (h5 : t ≠ 252) (h6 : t ≠ 5) (h7 : t ≠ 261) (h8 : t ≠ 183) : ¬ PaU p c q := by
 rintro (h | (h | h) | h)
 ·exact ka_not_cells H.ks hb h1 h3 h
 ·subst h
  have := H.stt.blk
  rw [hb] at this
  injection this with this
  injection this with _ this _
  exact h4 this
 ·exact dk_ne H.stt.dk hb (fun e => h5 e.symm) (fun e => h6 e.symm) (fun e => h7 e.symm) h
 ·exact H.rl.ne hb (fun e => h8 e.symm) h
def PaStep (w x : World) (p : Nat) (g : Nat → Nat) (tk : Nat) (wel fen : Bool) (free : List Nat) (sh : Nat → List (Nat × Value)) (st : Mod.Stv) (c : Av) : Prop :=
 ∃ c', PaAt x p g tk wel fen free sh st c' ∧ Far (PaU p c) w x ∧ (∀ k, PaU p c' k → PaU p c k ∨ w.heap.size ≤ k) ∧ c'.s = c.s ∧ c'.rv = c.rv
theorem paStep_refl (H : PaAt w p g tk wel fen free sh st c) : PaStep w w p g tk wel fen free sh st c := ⟨c, H, Far.refl _ _, fun _ h => .inl h, rfl, rfl⟩
theorem PaStep.trans (h : PaStep w x p g tk wel fen free sh st c) (h' : ∀ c', PaAt x p g tk wel fen free sh st c' → PaStep x y p g2 tk2 wel2 fen2 free2 sh2 st2 c') : PaStep w y p g2 tk2 wel2 fen2 free2 sh2 st2 c := by
 obtain ⟨c1, h1, h2, h3, h4, h5⟩ := h
 obtain ⟨c2, k1, k2, k3, k4, k5⟩ := h' c1 h1
 refine ⟨c2, k1, h2.trans k2 (fun k hk hu => (h3 k hu).elim id (fun h => by omega)), fun k hk => ?_, k4.trans h4, k5.trans h5⟩
 rcases k3 k hk with h | h
 ·exact h3 k h
 ·exact .inr (Nat.le_trans h2.size h)
theorem PaStep.below (h : PaStep w x p g tk wel fen free sh st c) (hb : Below x.heap.size x y) : PaStep w y p g tk wel fen free sh st c :=
 h.trans (fun c' H => ⟨c', H.below hb, far_below hb, fun _ h => .inl h, rfl, rfl⟩)
theorem PaStep.behind (h : PaStep x y p g tk wel fen free sh st c) (hb : Below w.heap.size w x) : PaStep w y p g tk wel fen free sh st c := by
 obtain ⟨c', h1, h2, h3, h4, h5⟩ := h
 exact ⟨c', h1, (far_below (E := PaU p c) hb).trans h2 (fun _ _ h => h), fun k hk => (h3 k hk).imp id (fun h => Nat.le_trans hb.size h), h4, h5⟩
theorem PaAt.shAt (H : PaAt w p g tk wel fen free sh st c) {i : Nat} (hi : i < 9) : ShAt w p (4 + i * 2) 151 c.arr (c.nv i) (c.mv i) (sh i) :=
 ⟨H.ks.blk, H.ks.an i hi, H.ks.am i hi, H.ks.shs i hi, by decide⟩
theorem paStep_sh (H : PaAt w p g tk wel fen free sh st c) {i : Nat} (hi : i < 9) {l' : List (Nat × Value)} (h : ShStep w x p (4 + i * 2) 151 c.arr (c.nv i) (c.mv i) l') :
  PaStep w x p g tk wel fen free (fun t => if t = i then l' else sh t) st c := by
 obtain ⟨⟨nv', mv', S, hn, hm⟩, hF⟩ := h
 have hFU : ∀ k, (k = p ∨ ShU (c.nv i) (c.mv i) k) → KaU p c.nv c.mv c.fv k := fun k hk => hk.elim .inl (fun h => .inr (.inr ⟨i, hi, h⟩))
 have hsz := H.ks.sz
 have hget : ∀ j, j ≠ 4 + i * 2 → j ≠ 4 + i * 2 + 1 → ((c.arr.setIfInBounds (4 + i * 2) nv').setIfInBounds (4 + i * 2 + 1) mv')[j]? = c.arr[j]? := fun j h1 h2 => by
  rw [Array.getElem?_setIfInBounds_ne (by omega), Array.getElem?_setIfInBounds_ne (by omega)]
 have hnew : ∀ k, ShU nv' mv' k → ShU (c.nv i) (c.mv i) k ∨ w.heap.size ≤ k := by
  rintro k (hk | hk)
  ·rcases hn with h | h | ⟨g, h, hg⟩
   ·rw [h] at hk; cases hk
   ·exact .inl (.inl (by rw [← h]; exact hk))
   ·rw [h] at hk; cases hk; exact .inr hg
  ·rcases hm with h | ⟨g, h, hg⟩
   ·exact .inl (.inr (by rw [← h]; exact hk))
   ·rw [h] at hk; cases hk; exact .inr hg
 have hfvp : c.fv.ownBlock ≠ some p := H.ks.fr.ne H.ks.blk (by decide)
 refine ⟨{ c with arr := (c.arr.setIfInBounds (4 + i * 2) nv').setIfInBounds (4 + i * 2 + 1) mv', nv := fun t => if t = i then nv' else c.nv t, mv := fun t => if t = i then mv' else c.mv t },
  ⟨⟨S.blk, by simpa using hsz, ?_, ?_, ?_, ?_, ?_, ?_, ?_, ?_, ?_, ?_, ?_, ?_, ?_⟩, H.stt.far hF (fun k hk h => H.sep k (hFU k h) hk), H.rl.far hF (fun g hg h => (H.sepr g hg).1 (hFU g h)), H.len⟩, hF.mono (fun k _ h => .inl (hFU k h)), ?_, rfl, rfl⟩
 ·rw [hget _ (by omega) (by omega)]; exact H.ks.a0
 ·intro j hj; rw [hget _ (by omega) (by omega)]; exact H.ks.ag j hj
 ·intro j hj
  show _ = some (if j = i then nv' else c.nv j)
  by_cases e : j = i
  ·subst e; rw [if_pos rfl]; exact S.c0
  ·rw [if_neg e, hget _ (by omega) (by omega)]; exact H.ks.an j hj
 ·intro j hj
  show _ = some (if j = i then mv' else c.mv j)
  by_cases e : j = i
  ·subst e; rw [if_pos rfl]; exact S.c1
  ·rw [if_neg e, hget _ (by omega) (by omega)]; exact H.ks.am j hj
 ·rw [hget _ (by omega) (by omega)]; exact H.ks.af
 ·rw [hget _ (by omega) (by omega)]; exact H.ks.at'
 ·rw [hget _ (by omega) (by omega)]; exact H.ks.aw
 ·rw [hget _ (by omega) (by omega)]; exact H.ks.ae
 ·rw [hget _ (by omega) (by omega)]; exact H.ks.ar
 ·exact H.ks.fr.far hF (fun g hg h => h.elim (fun h => hfvp (by rw [hg, h])) (fun h => H.ks.apf i hi g h hg))
 ·intro j hj
  show ShelfIs x (if j = i then nv' else c.nv j) (if j = i then mv' else c.mv j) (if j = i then l' else sh j)
  by_cases e : j = i
  ·rw [if_pos e, if_pos e, if_pos e]; exact S.sh
  ·rw [if_neg e, if_neg e, if_neg e]
   refine (H.ks.shs j hj).far hF (fun k hk h => ?_)
   rcases h with h | h
   ·exact (H.ks.shs j hj).ne H.ks.blk (by decide) (by rw [← h]; exact hk)
   ·exact H.ks.aps j i hj hi e k hk h
 ·intro j hj b hb
  replace hb : ShU (if j = i then nv' else c.nv j) (if j = i then mv' else c.mv j) b := hb
  by_cases e : j = i
  ·rw [if_pos e, if_pos e] at hb
   rcases hnew b hb with h | h
   ·exact H.ks.apf i hi b h
   ·intro hf
    have := H.ks.fr.lt b hf
    omega
  ·rw [if_neg e, if_neg e] at hb
   exact H.ks.apf j hj b hb
 ·intro j j2 hj hj2 hne k hk
  replace hk : ShU (if j = i then nv' else c.nv j) (if j = i then mv' else c.mv j) k := hk
  show ¬ ShU (if j2 = i then nv' else c.nv j2) (if j2 = i then mv' else c.mv j2) k
  by_cases h1 : j = i
  ·subst h1
   rw [if_pos rfl, if_pos rfl] at hk
   rw [if_neg (fun e => hne e.symm), if_neg (fun e => hne e.symm)]
   intro hk2
   rcases hnew k hk with h | h
   ·exact H.ks.aps j j2 hj hj2 hne k h hk2
   ·have := (H.ks.shs j2 hj2).lt k hk2; omega
  ·rw [if_neg h1, if_neg h1] at hk
   by_cases h2 : j2 = i
   ·subst h2
    rw [if_pos rfl, if_pos rfl]
    intro hk2
    rcases hnew k hk2 with h | h
    ·exact H.ks.aps j j2 hj hj2 hne k hk h
    ·have := (H.ks.shs j hj).lt k hk; omega
   ·rw [if_neg h2, if_neg h2]
    exact H.ks.aps j j2 hj hj2 hne k hk
 ·rintro k ((rfl | hk | ⟨j, hj, hk⟩) | hk | hk)
  ·exact .inl (.inl (.inl rfl))
  ·exact .inl (.inl (.inr (.inl hk)))
  ·have hk : ShU (if j = i then nv' else c.nv j) (if j = i then mv' else c.mv j) k := hk
   by_cases e : j = i
   ·rw [if_pos e, if_pos e] at hk
    exact (hnew k hk).elim (fun h => .inl (.inl (.inr (.inr ⟨i, hi, h⟩)))) .inr
   ·rw [if_neg e, if_neg e] at hk
    exact .inl (.inl (.inr (.inr ⟨j, hj, hk⟩)))
  ·exact .inl (.inr (.inl hk))
  ·exact .inl (.inr (.inr hk))
theorem paStep_cell (H : PaAt w p g tk wel fen free sh st c) (i : Nat) (v : Value) (hi : (1 ≤ i ∧ i < 4) ∨ (23 ≤ i ∧ i < 26))
  (hg : ∀ j, j < 3 → (c.arr.setIfInBounds i v)[1 + j]? = some (.int .i64 (g2 j))) (ht : (c.arr.setIfInBounds i v)[23]? = some (.int .i64 tk2)) (hw : (c.arr.setIfInBounds i v)[24]? = some (.bool wel2)) (he : (c.arr.setIfInBounds i v)[25]? = some (.bool fen2)) :
  PaStep w (w.setCell ⟨p, i, none⟩ v) p g2 tk2 wel2 fen2 free sh st c := by
 have hs := far_set w p i v
 have hget : ∀ j, j ≠ i → (c.arr.setIfInBounds i v)[j]? = c.arr[j]? := fun j hj => Array.getElem?_setIfInBounds_ne (fun e => hj e.symm)
 have hfvp : c.fv.ownBlock ≠ some p := H.ks.fr.ne H.ks.blk (by decide)
 refine ⟨{ c with arr := c.arr.setIfInBounds i v }, ⟨⟨blk_set H.ks.blk, by simpa using H.ks.sz, ?_, hg, ?_, ?_, ?_, ht, hw, he, ?_, ?_, ?_, H.ks.apf, H.ks.aps⟩, H.stt.far hs (fun k hk h => H.sep k (.inl h) hk), H.rl.far hs (fun g hg h => (H.sepr g hg).1 (.inl h)), H.len⟩, hs.mono (fun k _ h => .inl (.inl h)), fun k hk => .inl hk, rfl, rfl⟩
 ·rw [hget _ (by omega)]; exact H.ks.a0
 ·intro j hj; rw [hget _ (by omega)]; exact H.ks.an j hj
 ·intro j hj; rw [hget _ (by omega)]; exact H.ks.am j hj
 ·rw [hget _ (by omega)]; exact H.ks.af
 ·rw [hget _ (by omega)]; exact H.ks.ar
 ·exact H.ks.fr.far hs (fun g hg h => hfvp (by rw [hg, h]))
 ·intro j hj; exact (H.ks.shs j hj).far hs (fun k hk h => (H.ks.shs j hj).ne H.ks.blk (by decide) (by rw [← h]; exact hk))
theorem paStep_free (H : PaAt w p g tk wel fen free sh st c) (v : Value) (hF : Far (fun k => c.fv.ownBlock = some k) w x) (hv : RowO x 3 1 v free2.length (numCells free2)) (hl : Loc w c.fv v) :
  PaStep w (x.setCell ⟨p, 22, none⟩ v) p g tk wel fen free2 sh st c := by
 have hs := far_set x p 22 v
 have hget : ∀ j, j ≠ 22 → (c.arr.setIfInBounds 22 v)[j]? = c.arr[j]? := fun j hj => Array.getElem?_setIfInBounds_ne (fun e => hj e.symm)
 have h22 : 22 < c.arr.size := by rw [H.ks.sz]; omega
 have hfvp : c.fv.ownBlock ≠ some p := H.ks.fr.ne H.ks.blk (by decide)
 have hbx := hF.blk H.ks.blk hfvp
 have hvp : v.ownBlock ≠ some p := hv.ne hbx (by decide)
 have hF2 : Far (fun k => k = p ∨ c.fv.ownBlock = some k) w (x.setCell ⟨p, 22, none⟩ v) := (hF.mono (fun _ _ h => .inr h)).trans hs (fun _ _ h => .inl h)
 have hEU : ∀ k, (k = p ∨ c.fv.ownBlock = some k) → KaU p c.nv c.mv c.fv k := fun k h => h.elim .inl (fun h => .inr (.inl h))
 refine ⟨{ c with arr := c.arr.setIfInBounds 22 v, fv := v }, ⟨⟨blk_set hbx, by simpa using H.ks.sz, ?_, ?_, ?_, ?_, ?_, ?_, ?_, ?_, ?_, ?_, ?_, ?_, H.ks.aps⟩, H.stt.far hF2 (fun k hk h => H.sep k (hEU k h) hk), H.rl.far hF2 (fun g hg h => (H.sepr g hg).1 (hEU g h)), H.len⟩, hF2.mono (fun k _ h => .inl (hEU k h)), ?_, rfl, rfl⟩
 ·rw [hget _ (by omega)]; exact H.ks.a0
 ·intro j hj; rw [hget _ (by omega)]; exact H.ks.ag j hj
 ·intro j hj; rw [hget _ (by omega)]; exact H.ks.an j hj
 ·intro j hj; rw [hget _ (by omega)]; exact H.ks.am j hj
 ·simp [h22]
 ·rw [hget _ (by omega)]; exact H.ks.at'
 ·rw [hget _ (by omega)]; exact H.ks.aw
 ·rw [hget _ (by omega)]; exact H.ks.ae
 ·rw [hget _ (by omega)]; exact H.ks.ar
 ·exact hv.far hs (fun g hg e => hvp (by rw [hg, e]))
 ·intro j hj
  refine (H.ks.shs j hj).far hF2 (fun k hk e => ?_)
  rcases e with rfl | e
  ·exact (H.ks.shs j hj).ne H.ks.blk (by decide) hk
  ·exact H.ks.apf j hj k hk e
 ·intro j hj b hb hvb
  rcases hl with h | h | ⟨g', h, hg'⟩
  ·rw [h] at hvb; cases hvb
  ·rw [h] at hvb; exact H.ks.apf j hj b hb hvb
  ·rw [h] at hvb; cases hvb
   have := (H.ks.shs j hj).lt b hb
   omega
 ·rintro k ((rfl | hk | hk) | hk | hk)
  ·exact .inl (.inl (.inl rfl))
  ·rcases hl with h | h | ⟨g', h, hg'⟩
   ·rw [h] at hk; cases hk
   ·exact .inl (.inl (.inr (.inl (by rw [← h]; exact hk))))
   ·rw [h] at hk; cases hk; exact .inr hg'
  ·exact .inl (.inl (.inr (.inr hk)))
  ·exact .inl (.inr (.inl hk))
  ·exact .inl (.inr (.inr hk))
end
end Go.Proofs.YtamafdcnbcoegaaGreat
namespace Go.Proofs.YtamafdcnbcoegaaGreat
open Go.RowKit
def keptL : Nat → List (ByteArray × Nat) → List Nat → List (Nat × Value)
 | b, x :: r, q :: qs => (b + 1, recA x.1 q) :: keptL (b + 1) r qs
 | _, _, _ => []
theorem keptL_cons (b : Nat) (x : ByteArray × Nat) (r : List (ByteArray × Nat)) (q : Nat) (qs : List Nat) : keptL b (x :: r) (q :: qs) = (b + 1, recA x.1 q) :: keptL (b + 1) r qs := rfl
theorem keptL_length : ∀ (b : Nat) (k : List (ByteArray × Nat)) (p : List Nat), p.length = k.length → (keptL b k p).length = k.length
 | b, [], [], _ => rfl
 | b, x :: r, q :: qs, h => by
  rw [keptL_cons, List.length_cons, keptL_length (b + 1) r qs (by simpa using h), List.length_cons]
theorem keptL_get : ∀ (b : Nat) (k : List (ByteArray × Nat)) (p : List Nat) (j : Nat), p.length = k.length → ∀ (hj : j < k.length), (keptL b k p)[j]? = some (b + 1 + j, recA k[j].1 (p.getD j 0))
 | b, [], _, j, _, hj => by simp at hj
 | b, x :: r, [], j, h, _ => by simp at h
 | b, x :: r, q :: qs, 0, h, hj => by simp [keptL]
 | b, x :: r, q :: qs, j + 1, h, hj => by
  rw [keptL_cons, List.getElem?_cons_succ, keptL_get (b + 1) r qs j (by simpa using h) (by simpa using hj)]
  simp
  omega
theorem keptL_app : ∀ (b : Nat) (k k' : List (ByteArray × Nat)) (p p' : List Nat), p.length = k.length → keptL b (k ++ k') (p ++ p') = keptL b k p ++ keptL (b + k.length) k' p'
 | b, [], k', [], p', _ => by simp [keptL]
 | b, [], k', q :: qs, p', h => by simp at h
 | b, x :: r, k', [], p', h => by simp at h
 | b, x :: r, k', q :: qs, p', h => by
  show keptL b (x :: (r ++ k')) (q :: (qs ++ p')) = _
  rw [keptL_cons, keptL_cons, keptL_app (b + 1) r k' qs p' (by simpa using h), show b + 1 + r.length = b + (r.length + 1) by omega]
  rfl
theorem keptL_same : ∀ (b : Nat) (k k' : List (ByteArray × Nat)) (p : List Nat), k.map (·.1) = k'.map (·.1) → keptL b k p = keptL b k' p
 | _, [], [], _, _ => rfl
 | b, [], _ :: _, p, h => by simp at h
 | b, _ :: _, [], p, h => by simp at h
 | b, x :: r, y :: s, [], _ => by simp [keptL]
 | b, x :: r, y :: s, q :: qs, h => by
  simp only [List.map_cons, List.cons.injEq] at h
  rw [keptL_cons, keptL_cons, h.1, keptL_same (b + 1) r s qs h.2]
theorem keptL_mem : ∀ (b : Nat) (k : List (ByteArray × Nat)) (p : List Nat), ∀ x ∈ keptL b k p, b < x.1
 | b, [], _, x, hx => by simp [keptL] at hx
 | b, _ :: _, [], x, hx => by simp [keptL] at hx
 | b, y :: r, q :: qs, x, hx => by
  rw [keptL_cons] at hx
  cases hx with
  | head => show b < b + 1; omega
  | tail _ hx =>
   have := keptL_mem (b + 1) r qs x hx
   omega
theorem keptL_le : ∀ (b : Nat) (k : List (ByteArray × Nat)) (p : List Nat), ∀ x ∈ keptL b k p, x.1 ≤ b + k.length
 | b, [], _, x, hx => by simp [keptL] at hx
 | b, _ :: _, [], x, hx => by simp [keptL] at hx
 | b, y :: r, q :: qs, x, hx => by
  rw [keptL_cons] at hx
  cases hx with
  | head => show b + 1 ≤ _; simp
  | tail _ hx =>
   have := keptL_le (b + 1) r qs x hx
   simp at this ⊢
   omega
theorem keptL_are : ∀ (b : Nat) (k : List (ByteArray × Nat)) (p : List Nat), AreA (keptL b k p)
 | b, [], _, x, hx => by simp [keptL] at hx
 | b, _ :: _, [], x, hx => by simp [keptL] at hx
 | b, y :: r, q :: qs, x, hx => by
  rw [keptL_cons] at hx
  cases hx with
  | head => exact ⟨y.1, q, rfl⟩
  | tail _ hx => exact keptL_are (b + 1) r qs x hx
theorem keptL_last (b : Nat) (k : List (ByteArray × Nat)) (p : List Nat) (h : p.length = k.length) : max (match (keptL b k p).getLast? with | none => 0 | some x => x.1) b = b + k.length := by
 rcases List.eq_nil_or_concat k with rfl | ⟨k', x, rfl⟩
 ·simp [keptL]
 ·rcases List.eq_nil_or_concat p with rfl | ⟨p', q, rfl⟩
  ·simp at h
  ·have h' : p'.length = k'.length := by simpa using h
   have : (keptL b (k' ++ [x]) (p' ++ [q])).getLast? = some (b + k'.length + 1, recA x.1 q) := by
    rw [keptL_app b k' [x] p' [q] h']
    simp [keptL]
   rw [List.concat_eq_append, List.concat_eq_append] at *
   rw [this]
   simp
   omega
theorem putL_end : ∀ (l : List (Nat × Value)) (n : Nat) (v : Value), (∀ x ∈ l, x.1 < n) → putL l n v = l ++ [(n, v)]
 | [], n, v, _ => rfl
 | x :: r, n, v, h => by
  have h0 := h x (.head _)
  unfold putL
  rw [if_neg (by omega), if_neg (by omega), putL_end r n v (fun y hy => h y (.tail _ hy))]
  rfl
theorem keptL_put (b : Nat) (k : List (ByteArray × Nat)) (p : List Nat) (h : p.length = k.length) (s : ByteArray) (t q : Nat) : putL (keptL b k p) (b + k.length + 1) (recA s q) = keptL b (k ++ [(s, t)]) (p ++ [q]) := by
 rw [putL_end _ _ _ (fun x hx => by have := keptL_le b k p x hx; omega), keptL_app b k [(s, t)] p [q] h]
 simp [keptL]
theorem keptL_drop : ∀ (n b : Nat) (k : List (ByteArray × Nat)) (p : List Nat), n ≤ k.length → p.length = k.length → (keptL b k p).drop n = keptL (b + n) (k.drop n) (p.drop n)
 | 0, b, k, p, _, _ => rfl
 | n + 1, b, [], p, h, _ => by simp at h
 | n + 1, b, x :: r, [], _, h => by simp at h
 | n + 1, b, x :: r, q :: qs, h, h2 => by
  show (keptL b (x :: r) (q :: qs)).drop (n + 1) = keptL (b + (n + 1)) (r.drop n) (qs.drop n)
  rw [keptL_cons, List.drop_succ_cons, keptL_drop n (b + 1) r qs (by simpa using h) (by simpa using h2), show b + 1 + n = b + (n + 1) by omega]
theorem keptL_cut : ∀ (n b : Nat) (k : List (ByteArray × Nat)) (p : List Nat), n ≤ k.length → p.length = k.length → cutAt (keptL b k p) (b + n) = n
 | 0, b, k, p, _, _ => by
  unfold cutAt
  rw [List.countP_eq_zero]
  intro x hx
  have := keptL_mem b k p x hx
  simp; omega
 | n + 1, b, [], p, h, _ => by simp at h
 | n + 1, b, x :: r, [], _, h => by simp at h
 | n + 1, b, x :: r, q :: qs, h, h2 => by
  have ih := keptL_cut n (b + 1) r qs (by simpa using h) (by simpa using h2)
  unfold cutAt at ih ⊢
  rw [keptL_cons, List.countP_cons, show b + (n + 1) = b + 1 + n by omega, ih]
  simp
def sentF (f : Mod.Flow) (n : Nat) : Option Value :=
 if n ≤ f.base then none else match f.kept[n - f.base - 1]? with
  | some x => if x.2 = 0 then none else some (recI x.2)
  | none => none
structure OnAg (a : Mod.Ag) (op : Nat) (g : Nat → Nat) (free : List Nat) (sh : Nat → List (Nat × Value)) (pl : Nat → List Nat) : Prop where
 ep : op = a.epoch
 bs : ∀ i, i < 3 → g i = (a.fl i).base
 pn : ∀ i, i < 3 → (pl i).length = (a.fl i).kept.length
 kp : ∀ i, i < 3 → sh (i * 3) = keptL (a.fl i).base (a.fl i).kept (pl i)
 sn : ∀ i, i < 3 → ∀ n : Nat, look (sh (i * 3 + 1)) (n : Int) = sentF (a.fl i) n
 si : ∀ i, i < 3 → AreI (sh (i * 3 + 1))
 hd : ∀ i, i < 3 → ∀ n : Nat, (look (sh (i * 3 + 2)) (n : Int)).isSome = (a.fl i).held.contains n
 hu : ∀ i, i < 3 → AreU (sh (i * 3 + 2))
 hl : ∀ i, i < 3 → (sh (i * 3 + 2)).length ≤ 3
 nd : (free ++ pl 0 ++ pl 1 ++ pl 2).Nodup
 lt : ∀ x ∈ free ++ pl 0 ++ pl 1 ++ pl 2, x < 24
 sum : free.length + a.room = 24
theorem room_le {a : Mod.Ag} {i : Nat} (hi : i < 3) : (a.fl i).kept.length ≤ a.room := by
 obtain rfl | rfl | rfl : i = 0 ∨ i = 1 ∨ i = 2 := by omega
 all_goals
  unfold Mod.Ag.room
  omega
theorem OnAg.small {a : Mod.Ag} {op : Nat} {g : Nat → Nat} {free : List Nat} {sh : Nat → List (Nat × Value)} {pl : Nat → List Nat} (O : OnAg a op g free sh pl) {i : Nat} (hi : i < 3) : (a.fl i).kept.length ≤ 24 := by
 have := room_le (a := a) hi
 have := O.sum
 omega
theorem sent_small {f : Mod.Flow} {l : List (Nat × Value)} (hs : (l.map (·.1)).Pairwise (· < ·)) (h : ∀ n : Nat, look l (n : Int) = sentF f n) : l.length ≤ f.kept.length := by
 have hin : ∀ n ∈ l.map (·.1), f.base < n ∧ n ≤ f.base + f.kept.length := by
  intro n hn
  have hc : (look l (n : Int)).isSome = true := by rw [look_isSome]; simpa using hn
  rw [h n] at hc
  unfold sentF at hc
  split at hc
  ·cases hc
  ·split at hc
   ·rename_i x hx
    have := (List.getElem?_eq_some_iff.1 hx).1
    omega
   ·cases hc
 have h1 : ((l.map (·.1)).map fun n => n - f.base - 1).Nodup := by
  rw [List.Nodup, List.pairwise_map]
  refine hs.imp_of_mem (fun {x y} hx hy hlt e => ?_)
  have gx := hin x hx
  have gy := hin y hy
  omega
 have h2 := nodup_lt f.kept.length _ h1 (fun n hn => by
  obtain ⟨m, hm, rfl⟩ := List.mem_map.1 hn
  have := hin m hm
  omega)
 simpa using h2
end Go.Proofs.YtamafdcnbcoegaaGreat
namespace Go.Proofs.YtamafdcnbcoegaaGreat
open Go.RowKit
section
variable {a : Mod.Ag} {op : Nat} {g : Nat → Nat} {free : List Nat} {sh : Nat → List (Nat × Value)} {pl : Nat → List Nat}
theorem sentF_snoc (f : Mod.Flow) (s : ByteArray) (n : Nat) : sentF { f with kept := f.kept ++ [(s, 0)] } n = sentF f n := by
 unfold sentF
 simp only
 split
 ·rfl
 ·by_cases h : n - f.base - 1 < f.kept.length
  ·rw [List.getElem?_append_left h]
  ·rw [List.getElem?_append_right (by omega)]
   have h2 : f.kept[n - f.base - 1]? = none := List.getElem?_eq_none (by omega)
   rw [h2]
   by_cases h3 : n - f.base - 1 - f.kept.length = 0
   ·rw [h3]; rfl
   ·have : ([(s, 0)] : List (ByteArray × Nat))[n - f.base - 1 - f.kept.length]? = none := List.getElem?_eq_none (by simp; omega)
    rw [this]
theorem perm_pl {i : Nat} (hi : i < 3) (p' : List Nat) (fr : List Nat) (h : (fr ++ p').Perm (free ++ pl i)) :
  (fr ++ (fun t => if t = i then p' else pl t) 0 ++ (fun t => if t = i then p' else pl t) 1 ++ (fun t => if t = i then p' else pl t) 2).Perm (free ++ pl 0 ++ pl 1 ++ pl 2) := by
 obtain rfl | rfl | rfl : i = 0 ∨ i = 1 ∨ i = 2 := by omega
 ·simp only [if_pos, if_neg (show ¬ (1 : Nat) = 0 by omega), if_neg (show ¬ (2 : Nat) = 0 by omega)]
  exact (h.append_right _).append_right _
 ·simp only [if_neg (show ¬ (0 : Nat) = 1 by omega), if_pos, if_neg (show ¬ (2 : Nat) = 1 by omega)]
  refine List.Perm.append_right _ ?_
  have h1 : (fr ++ pl 0 ++ p').Perm (fr ++ p' ++ pl 0) := by
   rw [List.append_assoc, List.append_assoc]
   exact List.perm_append_comm.append_left _
  have h2 : (free ++ pl 1 ++ pl 0).Perm (free ++ pl 0 ++ pl 1) := by
   rw [List.append_assoc, List.append_assoc]
   exact List.perm_append_comm.append_left _
  exact (h1.trans (h.append_right _)).trans h2
 ·simp only [if_neg (show ¬ (0 : Nat) = 2 by omega), if_neg (show ¬ (1 : Nat) = 2 by omega), if_pos]
  have h1 : (fr ++ pl 0 ++ pl 1 ++ p').Perm (fr ++ p' ++ (pl 0 ++ pl 1)) := by
   rw [List.append_assoc fr, List.append_assoc, List.append_assoc fr p']
   exact List.perm_append_comm.append_left _
  have h2 : (free ++ pl 2 ++ (pl 0 ++ pl 1)).Perm (free ++ pl 0 ++ pl 1 ++ pl 2) := by
   rw [List.append_assoc free (pl 0), List.append_assoc, List.append_assoc]
   exact List.perm_append_comm.append_left _
  exact (h1.trans (h.append_right _)).trans h2
theorem room_upd {i : Nat} (hi : i < 3) (f : Mod.Flow) : (Mod.Ag.room { a with fl := Mod.upd a.fl i f }) + (a.fl i).kept.length = a.room + f.kept.length := by
 obtain rfl | rfl | rfl : i = 0 ∨ i = 1 ∨ i = 2 := by omega
 all_goals
  simp [Mod.Ag.room, Mod.upd]
  omega
theorem onAg_submit {fr : List Nat} {q : Nat} (O : OnAg a op g (fr ++ [q]) sh pl) {i : Nat} (hi : i < 3) (s : ByteArray) :
  OnAg (a.submit i s) op g fr (fun t => if t = i * 3 then putL (sh (i * 3)) ((a.fl i).base + (a.fl i).kept.length + 1) (recA s q) else sh t) (fun t => if t = i then pl i ++ [q] else pl t) := by
 have hfl : ∀ j, (a.submit i s).fl j = if j = i then { a.fl i with kept := (a.fl i).kept ++ [(s, 0)] } else a.fl j := fun j => rfl
 refine ⟨O.ep, fun j hj => ?_, fun j hj => ?_, fun j hj => ?_, fun j hj n => ?_, fun j hj => ?_, fun j hj n => ?_, fun j hj => ?_, fun j hj => ?_, ?_, ?_, ?_⟩
 ·rw [hfl]
  by_cases e : j = i
  ·subst e; rw [if_pos rfl]; exact O.bs j hj
  ·rw [if_neg e]; exact O.bs j hj
 ·rw [hfl]
  show (if j = i then pl i ++ [q] else pl j).length = _
  by_cases e : j = i
  ·subst e; rw [if_pos rfl, if_pos rfl]; simp [O.pn j hj]
  ·rw [if_neg e, if_neg e]; exact O.pn j hj
 ·rw [hfl]
  show (if j * 3 = i * 3 then _ else sh (j * 3)) = keptL _ _ (if j = i then pl i ++ [q] else pl j)
  by_cases e : j = i
  ·subst e
   rw [if_pos rfl, if_pos rfl, if_pos rfl, O.kp j hj]
   exact keptL_put _ _ _ (O.pn j hj) s 0 q
  ·rw [if_neg (by omega), if_neg e, if_neg e]; exact O.kp j hj
 ·show look (if j * 3 + 1 = i * 3 then _ else sh (j * 3 + 1)) _ = _
  rw [if_neg (by omega), hfl, O.sn j hj n]
  by_cases e : j = i
  ·subst e; rw [if_pos rfl, sentF_snoc]
  ·rw [if_neg e]
 ·show AreI (if j * 3 + 1 = i * 3 then _ else sh (j * 3 + 1))
  rw [if_neg (by omega)]; exact O.si j hj
 ·show (look (if j * 3 + 2 = i * 3 then _ else sh (j * 3 + 2)) _).isSome = _
  rw [if_neg (by omega), hfl, O.hd j hj n]
  by_cases e : j = i
  ·subst e; rw [if_pos rfl]
  ·rw [if_neg e]
 ·show AreU (if j * 3 + 2 = i * 3 then _ else sh (j * 3 + 2))
  rw [if_neg (by omega)]; exact O.hu j hj
 ·show (if j * 3 + 2 = i * 3 then _ else sh (j * 3 + 2)).length ≤ 3
  rw [if_neg (by omega)]; exact O.hl j hj
 ·refine (perm_pl hi (pl i ++ [q]) fr ?_).nodup_iff.2 O.nd
  rw [List.append_assoc fr [q]]
  exact List.perm_append_comm.append_left _
 ·intro x hx
  refine O.lt x ((perm_pl hi (pl i ++ [q]) fr ?_).mem_iff.1 hx)
  rw [List.append_assoc fr [q]]
  exact List.perm_append_comm.append_left _
 ·have h1 := O.sum
  obtain ⟨f2, hf2⟩ : ∃ f2, f2 = ({ a.fl i with kept := (a.fl i).kept ++ [(s, 0)] } : Mod.Flow) := ⟨_, rfl⟩
  have hk : f2.kept.length = (a.fl i).kept.length + 1 := by rw [hf2]; simp
  have h3 : (a.submit i s).room = Mod.Ag.room { a with fl := Mod.upd a.fl i f2 } := by rw [hf2]; rfl
  have h2 := room_upd (a := a) hi f2
  rw [hk] at h2
  rw [h3]
  rw [List.length_append, List.length_singleton] at h1
  omega
theorem look_dropcut {l : List (Nat × Value)} (hs : (l.map (·.1)).Pairwise (· < ·)) (m n : Nat) : look (l.drop (cutAt l m)) (n : Int) = if n ≤ m then none else look l (n : Int) := by
 obtain ⟨h1, h2⟩ := cut_split (n := m) hs
 have hsplit : ∀ (l1 l2 : List (Nat × Value)) (k : Int), look (l1 ++ l2) k = match look l1 k with | some v => some v | none => look l2 k := by
  intro l1 l2 k
  induction l1 with
  | nil => rfl
  | cons x r ih =>
   show look (x :: (r ++ l2)) k = _
   rw [look_cons, look_cons]
   by_cases h : k = (x.1 : Int)
   ·rw [if_pos h, if_pos h]
   ·rw [if_neg h, if_neg h, ih]
 have hl : l = l.take (cutAt l m) ++ l.drop (cutAt l m) := (List.take_append_drop _ _).symm
 by_cases hn : n ≤ m
 ·rw [if_pos hn]
  cases hv : look (l.drop (cutAt l m)) (n : Int) with
  | none => rfl
  | some v =>
   obtain ⟨x, hx, e, _⟩ := look_mem hv
   have := h2 x hx
   omega
 ·rw [if_neg hn]
  conv => rhs; rw [hl]
  rw [hsplit]
  cases hv : look (l.take (cutAt l m)) (n : Int) with
  | none => rfl
  | some v =>
   obtain ⟨x, hx, e, _⟩ := look_mem hv
   have := h1 x hx
   omega
theorem sentF_drop (f : Mod.Flow) (m n : Nat) : sentF (f.drop m) n = if n ≤ f.base + m then none else sentF f n := by
 unfold sentF Mod.Flow.drop
 simp only
 by_cases h : n ≤ f.base + m
 ·rw [if_pos h, if_pos h]
 ·rw [if_neg h, if_neg h, if_neg (by omega), List.getElem?_drop, show m + (n - (f.base + m) - 1) = n - f.base - 1 by omega]
theorem onAg_drop1 (O : OnAg a op g free sh pl) {i n : Nat} (hi : i < 3) (hn : n ≤ (a.fl i).kept.length) (hs : ((sh (i * 3 + 1)).map (·.1)).Pairwise (· < ·)) :
  OnAg { a with fl := Mod.upd a.fl i ((a.fl i).drop n) } op (fun t => (Mod.upd a.fl i ((a.fl i).drop n) t).base) (free ++ (pl i).take n)
   (fun t => if t = i * 3 + 1 then (sh (i * 3 + 1)).drop (cutAt (sh (i * 3 + 1)) ((a.fl i).base + n)) else (fun t => if t = i * 3 then (sh (i * 3)).drop (cutAt (sh (i * 3)) ((a.fl i).base + n)) else sh t) t) (fun t => if t = i then (pl i).drop n else pl t) := by
 have hfl : ∀ j, Mod.upd a.fl i ((a.fl i).drop n) j = if j = i then (a.fl i).drop n else a.fl j := fun j => rfl
 refine ⟨O.ep, fun j hj => rfl, fun j hj => ?_, fun j hj => ?_, fun j hj m => ?_, fun j hj => ?_, fun j hj m => ?_, fun j hj => ?_, fun j hj => ?_, ?_, ?_, ?_⟩
 ·show (if j = i then (pl i).drop n else pl j).length = (Mod.upd a.fl i ((a.fl i).drop n) j).kept.length
  rw [hfl]
  by_cases e : j = i
  ·subst e; rw [if_pos rfl, if_pos rfl]; simp [Mod.Flow.drop, O.pn j hj]
  ·rw [if_neg e, if_neg e]; exact O.pn j hj
 ·show (if j * 3 = i * 3 + 1 then _ else if j * 3 = i * 3 then _ else sh (j * 3)) = keptL (Mod.upd a.fl i ((a.fl i).drop n) j).base (Mod.upd a.fl i ((a.fl i).drop n) j).kept (if j = i then (pl i).drop n else pl j)
  rw [hfl, if_neg (by omega)]
  by_cases e : j = i
  ·subst e
   rw [if_pos rfl, if_pos rfl, if_pos rfl, O.kp j hj, keptL_cut n _ _ _ hn (O.pn j hj)]
   exact keptL_drop n _ _ _ hn (O.pn j hj)
  ·rw [if_neg (by omega), if_neg e, if_neg e]; exact O.kp j hj
 ·show look (if j * 3 + 1 = i * 3 + 1 then _ else if j * 3 + 1 = i * 3 then _ else sh (j * 3 + 1)) _ = sentF (Mod.upd a.fl i ((a.fl i).drop n) j) m
  rw [hfl]
  by_cases e : j = i
  ·subst e
   rw [if_pos rfl, if_pos rfl, look_dropcut hs, sentF_drop, O.sn j hj m]
  ·rw [if_neg (by omega), if_neg (by omega), if_neg e]; exact O.sn j hj m
 ·show AreI (if j * 3 + 1 = i * 3 + 1 then _ else if j * 3 + 1 = i * 3 then _ else sh (j * 3 + 1))
  by_cases e : j = i
  ·subst e
   rw [if_pos rfl]
   exact fun x hx => O.si j hj x (List.mem_of_mem_drop hx)
  ·rw [if_neg (by omega), if_neg (by omega)]; exact O.si j hj
 ·show (look (if j * 3 + 2 = i * 3 + 1 then _ else if j * 3 + 2 = i * 3 then _ else sh (j * 3 + 2)) _).isSome = (Mod.upd a.fl i ((a.fl i).drop n) j).held.contains m
  rw [hfl, if_neg (by omega), if_neg (by omega), O.hd j hj m]
  by_cases e : j = i
  ·subst e; rw [if_pos rfl]; rfl
  ·rw [if_neg e]
 ·show AreU (if j * 3 + 2 = i * 3 + 1 then _ else if j * 3 + 2 = i * 3 then _ else sh (j * 3 + 2))
  rw [if_neg (by omega), if_neg (by omega)]; exact O.hu j hj
 ·show (if j * 3 + 2 = i * 3 + 1 then _ else if j * 3 + 2 = i * 3 then _ else sh (j * 3 + 2)).length ≤ 3
  rw [if_neg (by omega), if_neg (by omega)]; exact O.hl j hj
 ·refine (perm_pl hi ((pl i).drop n) (free ++ (pl i).take n) ?_).nodup_iff.2 O.nd
  rw [List.append_assoc, List.take_append_drop]
 ·intro x hx
  refine O.lt x ((perm_pl hi ((pl i).drop n) (free ++ (pl i).take n) ?_).mem_iff.1 hx)
  rw [List.append_assoc, List.take_append_drop]
 ·have h1 := O.sum
  have h2 := room_upd (a := a) hi ((a.fl i).drop n)
  have h3 := O.pn i hi
  have h4 : ((a.fl i).drop n).kept.length = (a.fl i).kept.length - n := by simp [Mod.Flow.drop]
  rw [h4] at h2
  rw [List.length_append, List.length_take]
  omega
end
end Go.Proofs.YtamafdcnbcoegaaGreat
namespace Go.Proofs.YtamafdcnbcoegaaGreat
open Go.RowKit
section
variable {w : World} {p : Nat} {g : Nat → Nat} {tk : Nat} {wel fen : Bool} {free : List Nat} {sh : Nat → List (Nat × Value)} {st : Mod.Stv} {c : Av} {a : Mod.Ag} {op : Nat} {go : Nat → Nat} {pl : Nat → List Nat}
theorem agEpoch_any (H : PaAt w p g tk wel fen free sh st c) :
  Calls Tryz.prog 66 #[ptrTo p] w fun r w' => r = .returned (.int .i64 st.opening) ∧ w' = w := by
 have c0 : w.cell? ⟨p, 0, none⟩ = some (ptrTo c.s) := by rw [blk_cell H.ks.blk, H.ks.a0]
 have HO := hide (storeOpening_any H.stt)
 clear H
 unfold ptrTo at *
 go_enter Tryz.func66, Tryz.ntmps66
 go_wp2_with (go_at_call 111; refine (unhide HO).mono ?_; rintro r y ⟨rfl, rfl⟩)
 go_ret
 exact ⟨rfl, rfl⟩
theorem agLast_any (H : PaAt w p g tk wel fen free sh st c) (O : OnAg a op go free sh pl) {i : Nat} (hi : i < 3) (hg : g i = (a.fl i).base) :
  Calls Tryz.prog 88 #[ptrTo p, .int .i64 i] w fun r w' => r = .returned (.int .i64 ((a.fl i).base + (a.fl i).kept.length : Nat)) ∧ ∃ n, w' = w.drewN n := by
 have hL := lastA_any H.ks.blk (H.ks.an (i * 3) (by omega)) (H.ks.shs (i * 3) (by omega))
 rw [O.kp i hi, show 4 + i * 3 * 2 = 4 + i * 6 by omega] at hL
 have hm := keptL_last (a.fl i).base (a.fl i).kept (pl i) (O.pn i hi)
 obtain ⟨m, fb, hm, hL⟩ : ∃ (m : Nat) (fb : Bool), max m (a.fl i).base = (a.fl i).base + (a.fl i).kept.length ∧ Calls Tryz.prog 129 #[.pointer (some ⟨p, 4 + i * 6, none⟩)] w fun e w' => e = .returned (.tuple #[.int .i64 m, .bool fb]) ∧ ∃ n, w' = w.drewN n := by
  cases hq : (keptL (a.fl i).base (a.fl i).kept (pl i)).getLast? with
  | none => rw [hq] at hL hm; exact ⟨0, false, hm, hL⟩
  | some x => rw [hq] at hL hm; exact ⟨x.1, true, hm, hL⟩
 have cg : w.cell? ⟨p, 1 + i, none⟩ = some (.int .i64 (g i)) := by rw [blk_cell H.ks.blk, H.ks.ag i hi]
 rw [hg] at cg
 obtain ⟨n, hn⟩ : ∃ n, n = (a.fl i).base + (a.fl i).kept.length := ⟨_, rfl⟩
 rw [← hn] at hm ⊢
 obtain ⟨b, hb⟩ : ∃ b, b = (a.fl i).base := ⟨_, rfl⟩
 rw [← hb] at hm cg
 have hmI : max (m : Int) (b : Int) = (n : Int) := by omega
 have HL := hide hL
 have hi0 : (0 : Int) ≤ (i : Int) := by omega
 have hi3 : (i : Int) < 3 := by omega
 clear H O hL hn hb hm hg
 unfold ptrTo
 go_enter Tryz.func88, Tryz.ntmps88
 go_wp2_with (go_at_call 129; refine (unhide HL).mono ?_; rintro r y ⟨rfl, q, rfl⟩)
 go_ret
 exact ⟨by first | rfl | simp [hmI], q, rfl⟩
set_option maxHeartbeats 1000000 in
theorem isDue_any (H : PaAt w p g tk wel fen free sh st c) (O : OnAg a op go free sh pl) {i : Nat} (hi : i < 3) (j : Nat) (hj : j < (a.fl i).kept.length) (tick t : Nat) (ht : (a.fl i).kept[j].2 = t) (htk : t ≤ 1000000000000) (htm : tick ≤ 1000000000000) :
  Calls Tryz.prog 138 #[.pointer (some ⟨p, 4 + i * 6, none⟩), .int .i64 ((a.fl i).base + 1 + j : Nat), .int .i64 tick] w fun r w' => r = .returned (.bool (Mod.due (a.fl i) tick j t)) ∧ Below w.heap.size w w' := by
 obtain ⟨n, hn⟩ : ∃ n, n = (a.fl i).base + 1 + j := ⟨_, rfl⟩
 have hH := hasU_any H.ks.blk (H.ks.am (i * 3 + 2) (by omega)) (H.ks.shs (i * 3 + 2) (by omega)) (O.hu i hi) (n : Int)
 rw [O.hd i hi n, show 4 + (i * 3 + 2) * 2 = 4 + i * 6 + 4 by omega] at hH
 have hG := fun y (hy : Below w.heap.size w y) => getI_any (H.below hy).ks.blk (H.ks.am (i * 3 + 1) (by omega)) ((H.below hy).ks.shs (i * 3 + 1) (by omega)) (O.si i hi) (n : Int)
 have hsn : sentF (a.fl i) n = if t = 0 then none else some (recI t) := by
  unfold sentF
  rw [if_neg (by omega), show n - (a.fl i).base - 1 = j by omega, List.getElem?_eq_getElem hj]
  simp only [ht]
 rw [O.sn i hi n, hsn, show 4 + (i * 3 + 1) * 2 = 4 + i * 6 + 2 by omega] at hG
 have hdue : Mod.due (a.fl i) tick j t = (!((a.fl i).held.contains n) && (t == 0 || decide (t + 4 ≤ tick))) := by unfold Mod.due; rw [← hn]
 rw [hdue, ← hn]
 obtain ⟨hc, hhc⟩ : ∃ hc, hc = (a.fl i).held.contains n := ⟨_, rfl⟩
 rw [← hhc] at hH ⊢
 have HH := hide hH
 have HG := fun y hy => hide (hG y hy)
 clear H O hH hG hsn hdue hhc ht hn
 cases hc
 ·by_cases h0 : t = 0
  ·simp only [h0, if_true, Option.getD_none, Option.isSome_none, zeroI] at HG
   go_enter Tryz.func138, Tryz.ntmps138
   go_wp2_with (first | (go_at_call 190; refine (unhide HH).mono ?_; rintro r y ⟨rfl, hy⟩) | (go_at_call 191; refine (unhide (HG _ hy)).mono ?_; rintro r z ⟨rfl, hyz⟩; obtain rfl : y = z := hyz.symm))
   go_ret
   exact ⟨by simp [h0], hy⟩
  ·simp only [h0, if_false, Option.getD_some, Option.isSome_some, recI] at HG
   have hw : IntKind.i64.wrap ((tick : Int) - (t : Int)) = (tick : Int) - (t : Int) := by rw [IntKind.wrap_i64]; omega
   by_cases h4 : t + 4 ≤ tick
   ·have h4' : (4 : Int) ≤ (tick : Int) - (t : Int) := by omega
    go_enter Tryz.func138, Tryz.ntmps138
    go_wp2_with (first | (go_at_call 190; refine (unhide HH).mono ?_; rintro r y ⟨rfl, hy⟩) | (go_at_call 191; refine (unhide (HG _ hy)).mono ?_; rintro r z ⟨rfl, hyz⟩; obtain rfl : y = z := hyz.symm))
    go_ret
    exact ⟨by simp [h4], hy⟩
   ·have h4' : ¬ (4 : Int) ≤ (tick : Int) - (t : Int) := by omega
    go_enter Tryz.func138, Tryz.ntmps138
    go_wp2_with (first | (go_at_call 190; refine (unhide HH).mono ?_; rintro r y ⟨rfl, hy⟩) | (go_at_call 191; refine (unhide (HG _ hy)).mono ?_; rintro r z ⟨rfl, hyz⟩; obtain rfl : y = z := hyz.symm))
    go_ret
    have hz : (t == 0) = false := by simp [h0]
    exact ⟨by simp [h4, hz]; omega, hy⟩
 ·go_enter Tryz.func138, Tryz.ntmps138
  go_wp2_with (go_at_call 190; refine (unhide HH).mono ?_; rintro r y ⟨rfl, hy⟩)
  go_ret
  exact ⟨by simp, hy⟩
theorem strClone_any (s : ByteArray) (w : World) (hs : s.size ≤ 1000) : Calls Tryz.prog 91 #[.string s] w fun r w' => r = .returned (.string s) ∧ Below w.heap.size w w' := by
 have HC := hide (Tryz.stringslite_Clone s w (by omega))
 go_enter Tryz.func91, Tryz.ntmps91
 go_wp2_with (go_at_call 134; refine (unhide HC).mono ?_; rintro r y ⟨rfl, hy⟩)
 go_ret
 exact ⟨rfl, hy⟩
end
end Go.Proofs.YtamafdcnbcoegaaGreat
