/-
  Part 6 of a proof: S7S, S8S, F2, F3, K1, K2, K3, K4, K5, K6.
-/
import Derived.Test.YtamafdcnbcoegaaGreatFe5
namespace Go.Proofs.YtamafdcnbcoegaaGreat
open Go.RowKit
def recS (b : ByteArray) : Value := .agg #[.string b]
def zeroS : Value := .agg #[.string ⟨#[]⟩]
theorem zero_S (w : World) : (zeroValue 235).run Tryz.prog w = .ok zeroS w := Tryz.zeroValue235 w
def AreS (l : List (Nat × Value)) : Prop := ∀ x ∈ l, ∃ b, x.2 = recS b
theorem areS_look {l : List (Nat × Value)} (h : AreS l) (k : Int) : (∃ b, look l k = some (recS b)) ∨ look l k = none := by
 cases hv : look l k with
 | none => exact .inr rfl
 | some v =>
  obtain ⟨x, hx, _, rfl⟩ := look_mem hv
  obtain ⟨b, e⟩ := h x hx
  exact .inl ⟨b, by rw [e]⟩
set_option maxHeartbeats 400000 in
theorem hasS_any {w : World} {p o : Nat} {arr : Array Value} {t : TypeId} {nv mv : Value} {l : List (Nat × Value)} (hb : w.heap[p]? = some (.cells arr t (0, 0))) (h1 : arr[o + 1]? = some mv) (S : ShelfIs w nv mv l) (A : AreS l) (n : Int) :
  Calls Tryz.prog 165 #[.pointer (some ⟨p, o, none⟩), .int .i64 n] w fun e w' => e = .returned (.bool (look l n).isSome) ∧ Below w.heap.size w w' := by
 have c1 : w.cell? ⟨p, o + 1, none⟩ = some mv := (blk_cell hb).trans h1
 have hrun := (run_lookup_i (P := Tryz.prog) (w := w) (t := 168) Tryz.underlying168 Tryz.underlying3 (zero_S w) S.map n).1
 clear S hb h1
 rcases areS_look A n with ⟨b, h⟩ | h
 all_goals
  rw [h] at hrun ⊢
  simp only [Option.getD_some, Option.getD_none, Option.isSome_some, Option.isSome_none, recS, zeroS] at hrun ⊢
  clear h A
  go_enter Tryz.func165, Tryz.ntmps165
  go_wp2
  go_ret
  refine ⟨rfl, ?_⟩
  exact (Below.refl _ _).alloc (Nat.le_refl _) _
set_option maxRecDepth 100000 in
set_option maxHeartbeats 1000000 in
theorem putS_any {w : World} {p o : Nat} {t : TypeId} {arr : Array Value} {nv mv : Value} {l : List (Nat × Value)} (S : ShAt w p o t arr nv mv l) (hl : l.length < 1000) (n : Nat) (b : ByteArray) :
  Calls Tryz.prog 206 #[.pointer (some ⟨p, o, none⟩), .int .i64 n, recS b] w fun e w' => e = .returned (.tuple #[]) ∧ ShStep w w' p o t arr nv mv (putL l n (recS b)) := by
 obtain ⟨hbW, h0, h1, S, ht⟩ := S
 obtain ⟨mv0, hmv0⟩ : ∃ m, m = mv := ⟨_, rfl⟩
 rw [← hmv0]
 have hmv0 := hide hmv0
 have c0 : w.cell? ⟨p, o, none⟩ = some nv := (blk_cell hbW).trans h0
 have c1 : w.cell? ⟨p, o + 1, none⟩ = some mv := (blk_cell hbW).trans h1
 unfold recS
 have hp := lt_of_block hbW
 go_enter Tryz.func206, Tryz.ntmps206
 go_upto_region 1 with fail
 refine wp_world (fun x => x.heap[p]? = some (.cells arr t (0, 0)) ∧ x.heap[w.heap.size]? = some (.cells #[.string b] 235 (0, 0)) ∧ ShelfIs x nv mv l ∧ Far (fun _ => False) w x ∧ w.heap.size < x.heap.size) ?_ ?_
 ·have hf : Far (fun _ => False) w (w.alloc (.cells #[.string b] 235)) := far_below ((Below.refl _ _).alloc (Nat.le_refl _) _)
  exact ⟨hf.blk hbW id, heap_alloc_new w _, S.far hf (fun _ _ h => h), hf, by simp⟩
 clear c0 c1 S
 rintro x ⟨hb, hbox, S, hf, hz⟩
 have c0 : x.cell? ⟨p, o, none⟩ = some nv := (blk_cell hb).trans h0
 have c1 : x.cell? ⟨p, o + 1, none⟩ = some mv := (blk_cell hb).trans h1
 have hfr : x.frozen? ⟨p, o + 1, none⟩ = false := by simp [World.frozen?, hb]
 have hmm := @run_makeMap Tryz.prog
 have eqN : ∀ y : World, (binOp .eql 168 (.map none) (.map none)).run Tryz.prog y = .ok (.bool true) y := fun y => by kernel_rfl
 have eqS : ∀ (y : World) (m : Nat), (binOp .eql 168 (.map (some m)) (.map none)).run Tryz.prog y = .ok (.bool false) y := fun y m => by kernel_rfl
 have pM : (x.alloc (.map #[] 0)).heap[p]? = some (.cells arr t (0, 0)) := (Below.heap_alloc x _ p (lt_of_block hb)).trans hb
 have cM : (x.alloc (.map #[] 0)).cell? ⟨p, o + 1, none⟩ = some mv := (blk_cell pM).trans h1
 have fM : (x.alloc (.map #[] 0)).frozen? ⟨p, o + 1, none⟩ = false := by simp [World.frozen?, pM]
 rcases S.map with ⟨rfl, hm⟩ | ⟨mb, rfl, hm⟩
 all_goals
  go_upto_region 3 with fail
  refine wp_world (fun y => ∃ mb, y.heap[p]? = some (.cells (arr.setIfInBounds (o + 1) (.map (some mb))) t (0, 0)) ∧ y.heap[w.heap.size]? = some (.cells #[.string b] 235 (0, 0)) ∧ NumsAt y nv (l.map (·.1)) ∧ MapAt y mb (look l) ∧
   Far (fun k => k = p) w y ∧ w.heap.size < y.heap.size ∧ (mapBlock mv0 = some mb ∨ w.heap.size ≤ mb)) ?_ ?_
 ·refine ⟨x.heap.size, blk_set pM, (blk_set_ne (by omega)).trans ((Below.heap_alloc x _ _ hz).trans hbox), ?_, ?_, ?_, ?_, .inr (Nat.le_of_lt hz)⟩
  ·exact S.nums.keep (fun g hg => (blk_set_ne (fun e => S.ne hb ht (.inl (by rw [← e]; exact hg)))).trans (Below.heap_alloc x _ g (World.ownsRow.lt S.nums g hg).2))
  ·rw [hm]
   exact (mapAt_new x).keep (blk_set_ne (by have := lt_of_block hb; omega))
  ·exact ((hf.mono (fun _ _ h => h.elim)).trans (far_below ((Below.refl _ x).alloc (Nat.le_refl _) _)) (fun _ _ h => h)).trans (far_set _ p (o + 1) _) (fun _ _ h => h)
  ·simp; omega
 rotate_left
 ·refine ⟨mb, by rw [set_same h1]; exact hb, hbox, S.nums, hm, hf.mono (fun _ _ h => h.elim), hz, .inl (by rw [unhide hmv0]; rfl)⟩
 all_goals
  have hs := hide S.sorted
  clear c0 c1 pM cM fM hfr hbox S hm hb hz hmm eqN eqS hf hp
  rintro y ⟨mb', hb, hbox, N, M, hfY, hz, hloc⟩
  have h0s : o < arr.size := (Array.getElem?_eq_some_iff.1 h0).1
  have h1s : o + 1 < arr.size := (Array.getElem?_eq_some_iff.1 h1).1
  have a0 : (arr.setIfInBounds (o + 1) (.map (some mb')))[o]? = some nv := by rw [Array.getElem?_setIfInBounds_ne (by omega)]; exact h0
  have a1 : (arr.setIfInBounds (o + 1) (.map (some mb')))[o + 1]? = some (.map (some mb')) := by simp [h1s]
  have c0 : y.cell? ⟨p, o, none⟩ = some nv := (blk_cell hb).trans a0
  have hk := keys_putL (v := recS b) (n := n) (unhide hs)
  have hsr := search_any N (unhide hs) (by simp; omega) n
  have hcl : (l.map (·.1)).countP (· < n) ≤ (l.map (·.1)).length := List.countP_le_length
  have hnl : (l.map (·.1)).length < 1000 := by simpa using hl
  generalize (l.map (·.1)).countP (· < n) = k at hk hsr hcl
  generalize (l.map (·.1)).contains n = c at hk hsr
  generalize l.map (·.1) = ns at hk hsr hcl N hnl
  replace hk := hide hk
  replace hsr := hide hsr
  cases c
  ·go_upto_region 4 with (go_at_call 132; refine (unhide hsr).mono ?_; rintro e y1 ⟨rfl, q, rfl⟩)
   go_upto_region 6 with fail
   refine (insert_any (w := (y.drewN q).alloc (.cells #[.int .i64 n] 3)) (ns := ns) (N.keep (fun g hg => Below.heap_alloc (y.drewN q) _ g (World.ownsRow.lt N g hg).2)) (by omega) k n y.heap.size hcl (heap_alloc_new (y.drewN q) _) (fun e => by have := (World.ownsRow.lt N _ e).2; omega)).mono ?_
   rintro e z ⟨nv', rfl, hN', hF', hL'⟩
   have hbz := hF'.blk ((Below.heap_alloc (y.drewN q) _ p (lt_of_block hb)).trans hb) (fun e => (RowO.of_own N).ne hb (fun e => ht e.symm) e)
   have hxz := hF'.blk ((Below.heap_alloc (y.drewN q) _ _ hz).trans hbox) (fun e => (RowO.of_own N).ne hbox (by decide) e)
   have cz := (blk_cell hbz).trans a0
   have fz : z.frozen? ⟨p, o, none⟩ = false := by simp [World.frozen?, hbz]
   obtain ⟨ns', hns'⟩ : ∃ x, x = ns.take k ++ n :: ns.drop k := ⟨_, rfl⟩
   rw [← hns'] at hN'
   obtain ⟨g', cap', rfl⟩ := own_shape hN' (by rw [hns']; simp only [List.length_append, List.length_cons]; omega)
   replace hns' := hide hns'
   go_upto_region 6 with fail
   refine wp_world (fun z => ∃ nv', z.heap[p]? = some (.cells ((arr.setIfInBounds o nv').setIfInBounds (o + 1) (.map (some mb'))) t (0, 0)) ∧ z.heap[w.heap.size]? = some (.cells #[.string b] 235 (0, 0)) ∧ NumsAt z nv' ((putL l n (recS b)).map (·.1)) ∧ MapAt z mb' (look l) ∧
    Far (fun k => k = p ∨ nv.ownBlock = some k) w z ∧ Loc w nv nv') ?_ ?_
   ·have hne : nv.ownBlock ≠ some mb' := N.notMap M
    have hpn : ∀ g, (Value.slice (some ⟨g', 0, none⟩) ns'.length cap').ownBlock = some g → g ≠ p := fun g hg e => (RowO.of_own hN').ne hbz (fun e => ht e.symm) (by rw [hg, e])
    have hk' := unhide hk
    simp only [Bool.false_eq_true, if_false] at hk'
    have hfal : Far (fun _ => False) y ((y.drewN q).alloc (.cells #[.int .i64 n] 3)) := (far_drewN (fun _ => False) y q).trans (far_below ((Below.refl _ _).alloc (Nat.le_refl _) _)) (fun _ _ h => h)
    have hfz : Far (fun b => b = p ∨ nv.ownBlock = some b) w z := (hfY.mono (fun _ _ h => .inl h)).trans ((hfal.mono (fun _ _ h => h.elim)).trans hF' (fun _ _ h => h)) (fun _ _ h => .inr h)
    refine ⟨_, ?_, (blk_set_ne (by have := lt_of_block hbW; omega)).trans hxz, ?_, ?_, hfz.trans (far_set z p o _) (fun _ _ h => .inl h), loc_less hL' (by simp; omega)⟩
    ·rw [set_comm _ _ (show o ≠ o + 1 by omega)]
     exact blk_set hbz
    ·rw [hk', ← unhide hns']
     exact hN'.keep (fun g hg => blk_set_ne (hpn g hg))
    ·exact M.keep ((blk_set_ne (fun e => M.not_cells (by rw [e]; exact hb))).trans ((hF'.rest _ (by have := M.lt; simp; omega) hne).trans (hfal.rest _ M.lt id)))
   ·skip
    rintro z ⟨nv', hb, hbox, N', M, hf, hl'⟩
    obtain ⟨ob, hU, hM⟩ := run_update_i (P := Tryz.prog) (w := z) (t := 168) Tryz.underlying168 Tryz.underlying3 M n (recS b)
    have hU' := hU z.drew rfl
    unfold recS at hU'
    have c1 : z.cell? ⟨p, o + 1, none⟩ = some (.map (some mb')) := (blk_cell hb).trans (by simp [h1s])
    have b0 := blk_cell (i := 0) hbox
    simp at b0
    go_region
    refine bodyPost_end (results_none rfl _ _ _) rfl ⟨rfl, ?_⟩
    exact put_end (v := recS b) (W := { z.drew with heap := z.drew.heap.setIfInBounds mb' ob }) h0s h1s hb ht N' M hf hl' hloc hM ((far_drewN _ z 1).trans (far_block mb' ob) (fun _ _ h => h)) (unhide hs) hl
  ·go_upto_region 4 with (go_at_call 132; refine (unhide hsr).mono ?_; rintro e y1 ⟨rfl, q, rfl⟩)
   go_upto_region 6 with fail
   refine wp_world (fun z => ∃ nv', z.heap[p]? = some (.cells ((arr.setIfInBounds o nv').setIfInBounds (o + 1) (.map (some mb'))) t (0, 0)) ∧ z.heap[w.heap.size]? = some (.cells #[.string b] 235 (0, 0)) ∧ NumsAt z nv' ((putL l n (recS b)).map (·.1)) ∧ MapAt z mb' (look l) ∧
    Far (fun k => k = p ∨ nv.ownBlock = some k) w z ∧ Loc w nv nv') ?_ ?_
   ·have hk' := unhide hk
    simp only [if_true] at hk'
    refine ⟨nv, ?_, hbox, by rw [hk']; exact N, M, (hfY.mono (fun _ _ h => .inl h)).trans (far_drewN _ y q) (fun _ _ h => h), .inr (.inl rfl)⟩
    rw [set_same h0]
    exact hb
   ·skip
    rintro z ⟨nv', hb, hbox, N', M, hf, hl'⟩
    obtain ⟨ob, hU, hM⟩ := run_update_i (P := Tryz.prog) (w := z) (t := 168) Tryz.underlying168 Tryz.underlying3 M n (recS b)
    have hU' := hU z.drew rfl
    unfold recS at hU'
    have c1 : z.cell? ⟨p, o + 1, none⟩ = some (.map (some mb')) := (blk_cell hb).trans (by simp [h1s])
    have b0 := blk_cell (i := 0) hbox
    simp at b0
    go_region
    refine bodyPost_end (results_none rfl _ _ _) rfl ⟨rfl, ?_⟩
    exact put_end (v := recS b) (W := { z.drew with heap := z.drew.heap.setIfInBounds mb' ob }) h0s h1s hb ht N' M hf hl' hloc hM ((far_drewN _ z 1).trans (far_block mb' ob) (fun _ _ h => h)) (unhide hs) hl
end Go.Proofs.YtamafdcnbcoegaaGreat
namespace Go.Proofs.YtamafdcnbcoegaaGreat
open Go.RowKit
set_option maxRecDepth 100000 in
set_option maxHeartbeats 1000000 in
theorem clearS_any {w : World} {p o : Nat} {t : TypeId} {arr : Array Value} {nv mv : Value} {l : List (Nat × Value)} (S : ShAt w p o t arr nv mv l) :
  Calls Tryz.prog 203 #[.pointer (some ⟨p, o, none⟩)] w fun e w' => e = .returned (.tuple #[]) ∧ ShStep w w' p o t arr nv mv [] := by
 obtain ⟨hbW, h0, h1, S, ht⟩ := S
 have h0s : o < arr.size := (Array.getElem?_eq_some_iff.1 h0).1
 have h1s : o + 1 < arr.size := (Array.getElem?_eq_some_iff.1 h1).1
 obtain ⟨mv0, hmv0⟩ : ∃ m, m = mv := ⟨_, rfl⟩
 rw [← hmv0]
 replace hmv0 := hide hmv0
 have c1 : w.cell? ⟨p, o + 1, none⟩ = some mv := (blk_cell hbW).trans h1
 have e0 := S.nums.cases
 have hm : (mv = .map none ∧ ∀ ty, (Builtin.clear_ #[168] ty #[.map none]).run Tryz.prog w = .ok (.tuple #[]) w) ∨
   ∃ b o, mv = .map (some b) ∧ b ≠ p ∧ nv.ownBlock ≠ some b ∧ (∀ ty, (Builtin.clear_ #[168] ty #[.map (some b)]).run Tryz.prog w = .ok (.tuple #[]) { w with heap := w.heap.setIfInBounds b o }) ∧ MapAt { w with heap := w.heap.setIfInBounds b o } b (fun _ => none) := by
  rcases S.map with ⟨rfl, hm⟩ | ⟨mb, rfl, hm⟩
  ·exact .inl ⟨rfl, fun ty => run_clear_n Tryz.underlying168⟩
  ·obtain ⟨ob, hU, hM⟩ := run_clear_m (P := Tryz.prog) (w := w) (t := 168) Tryz.underlying168 hm
   exact .inr ⟨mb, ob, rfl, fun e => hm.not_cells (by rw [e]; exact hbW), S.nums.notMap hm, fun ty => hU ty w rfl, hM⟩
 rcases hm with ⟨rfl, hrun⟩ | ⟨mb, ob, rfl, hmp, hmn, hrun, hM⟩
 all_goals
  go_enter Tryz.func203, Tryz.ntmps203
  go_upto_region 1 with fail
  refine wp_world (fun x => x.heap[p]? = some (.cells arr t (0, 0)) ∧ NumsAt x nv (l.map (·.1)) ∧ MapV x mv0 (look []) ∧ Far (fun k => k = p ∨ ShU nv mv0 k) w x) ?_ ?_
 ·exact ⟨hbW, S.nums, by rw [unhide hmv0]; exact .inl ⟨rfl, look_nil⟩, Far.refl _ _⟩
 rotate_left
 ·have hf := far_block (w := w) mb ob
  refine ⟨hf.blk hbW (fun e => hmp e.symm), S.nums.keep (fun g hg => hf.rest g (World.ownsRow.lt S.nums g hg).2 (fun e => hmn (by rw [hg, e]))), by rw [unhide hmv0]; exact .inr ⟨mb, rfl, by rw [look_nil]; exact hM⟩, hf.mono (fun k _ e => .inr (.inr (by rw [unhide hmv0, e]; rfl)))⟩
 all_goals
  clear S
  rintro x ⟨hb, N, M, hf⟩
  have c0 : x.cell? ⟨p, o, none⟩ = some nv := (blk_cell hb).trans h0
  have f0 : x.frozen? ⟨p, o, none⟩ = false := by simp [World.frozen?, hb]
  rcases e0 with ⟨rfl, _⟩ | ⟨g, cap, cur, rfl, hh, hn, hc, hz, htk⟩
  ·go_wp2
   refine bodyPost_end (results_none rfl _ _ _) rfl ⟨rfl, ?_⟩
   refine ⟨⟨_, mv0, ⟨?_, ?_, ?_, ⟨numsAt_nil _, M.keep (fun b hb' => blk_set_ne (fun e => ?_)), by simp, by simp⟩, ht⟩, .inr (.inl rfl), .inl rfl⟩, hf.trans (far_set x p o _) (fun _ _ h => .inl h)⟩
   ·have := blk_set (j := o) (v := .slice none 0 0) hb
    rw [set_same (i := o + 1)]
    ·exact this
    ·rw [Array.getElem?_setIfInBounds_ne (by omega), h1, unhide hmv0]
   ·rw [Array.getElem?_setIfInBounds_ne (by omega)]; simp [h0s]
   ·simp [h1s]
   ·rcases M with ⟨h, _⟩ | ⟨b', h, hM'⟩
    ·rw [h] at hb'; cases hb'
    ·rw [h] at hb'; cases hb'; exact hM'.not_cells (by rw [e]; exact hb)
  ·go_wp2
   refine bodyPost_end (results_none rfl _ _ _) rfl ⟨rfl, ?_⟩
   rcases N.cases with ⟨h, _⟩ | ⟨g', cap', cur', h, hh', hn', hc', hz', htk'⟩
   ·cases h
   ·injection h with h _ h3
    injection h with h
    injection h with h
    subst h h3
    have hgp : g ≠ p := fun e => by
     subst e
     rw [hh'] at hb
     injection hb with hb
     injection hb with _ hb _
     exact ht hb.symm
    refine ⟨⟨_, mv0, ⟨?_, ?_, ?_, ⟨numsAt_mk (ns := []) ((blk_set_ne hgp).trans hh') (Nat.zero_le _) hc hz' rfl, M.keep (fun b hb' => blk_set_ne (fun e => ?_)), by simp, by simp⟩, ht⟩, .inr (.inl rfl), .inl rfl⟩, hf.trans (far_set x p o _) (fun _ _ h => .inl h)⟩
    ·rw [set_same (i := o + 1)]
     ·exact blk_set (j := o) hb
     ·rw [Array.getElem?_setIfInBounds_ne (by omega), h1, unhide hmv0]
    ·rw [Array.getElem?_setIfInBounds_ne (by omega)]; simp [h0s]
    ·simp [h1s]
    ·rcases M with ⟨h, _⟩ | ⟨b', h, hM'⟩
     ·rw [h] at hb'; cases hb'
     ·rw [h] at hb'; cases hb'; exact hM'.not_cells (by rw [e]; exact hb)
end Go.Proofs.YtamafdcnbcoegaaGreat
namespace Go.Proofs.YtamafdcnbcoegaaGreat
open Go.RowKit
def ackTo (l : List (Nat × Value)) (q : Nat) : Nat → Nat
 | 0 => 0
 | j + 1 => ackTo l q j + if (look l ((q + 2 + j : Nat) : Int)).isSome = true then 2 ^ j else 0
theorem ackTo_lt (l : List (Nat × Value)) (q : Nat) : ∀ j, ackTo l q j < 2 ^ j
 | 0 => by simp [ackTo]
 | j + 1 => by
  have := ackTo_lt l q j
  unfold ackTo
  split
  ·rw [Nat.pow_succ]; omega
  ·rw [Nat.pow_succ]; omega
theorem or0 : bits BinOp.or IntKind.u8 0 1 = 1 := by decide +kernel
theorem or1 : ∀ x : Fin 2, bits BinOp.or IntKind.u8 ((x.val : Nat) : Int) 2 = ((x.val + 2 : Nat) : Int) := by decide +kernel
theorem or2 : ∀ x : Fin 4, bits BinOp.or IntKind.u8 ((x.val : Nat) : Int) 4 = ((x.val + 4 : Nat) : Int) := by decide +kernel
set_option maxRecDepth 100000 in
set_option maxHeartbeats 2000000 in
theorem ackBody_any {w : World} {p o : Nat} {t : TypeId} {arr : Array Value} {nv mv : Value} {l : List (Nat × Value)} (S : ShAt w p o t arr nv mv l) (A : AreS l) (q : Nat) (hq : q ≤ 1000000000) :
  Calls Tryz.prog 164 #[.int .i64 q, .func (.func 165) #[.pointer (some ⟨p, o, none⟩)] #[]] w fun e w' => e = .returned (.string ⟨#[UInt8.ofNat (ackTo l q 3)]⟩) ∧ Below w.heap.size w w' := by
 have HS := hide S
 have hlt := fun k (hk : ShU nv mv k) => S.sh.lt k hk
 have hp := lt_of_block S.blk
 go_enter Tryz.func164, Tryz.ntmps164
 go_wp2
 go_loopw [5, 6, 7] (fun v5 _ i wr => ∃ j : Nat, j ≤ 3 ∧ i = .int .i64 j ∧ v5 = .int .u8 (ackTo l q j : Nat) ∧ Below w.heap.size w wr) (fun _ _ i _ => 3 - (intOf i).toNat)
 case atStart => exact ⟨0, by omega, rfl, rfl, Below.refl _ _⟩
 case round =>
  obtain ⟨j, hj, rfl, rfl, hb⟩ := hrel
  have S1 : ShAt wr p o t arr nv mv l := by
   have S0 := unhide HS
   exact ⟨(hb.block p hp).trans S0.blk, S0.c0, S0.c1, S0.sh.keep (fun g hg => hb.block g (hlt g (.inl hg))) (fun g hg => hb.block g (hlt g (.inr hg))), S0.ty⟩
  have hHas := fun k : Int => hide (hasS_any S1.blk S1.c1 S1.sh A k)
  have HB := hide hb
  have hz := hb.size
  clear hb S1
  have hq2 := fun y => firstHeld_any q (by omega) y
  have hlj := ackTo_lt l q j
  rcases (show j = 0 ∨ j = 1 ∨ j = 2 ∨ j = 3 by omega) with rfl | rfl | rfl | rfl
  ·have hw : IntKind.i64.wrap ((q : Int) + 2 + 0) = (q : Int) + 2 + 0 := by rw [IntKind.wrap_i64]; omega
   have hH := hHas ((q : Int) + 2)
   have HX : Hid (ackTo l q (0 + 1) = ackTo l q 0 + if (look l ((q : Int) + 2)).isSome = true then 2 ^ 0 else 0) := rfl
   generalize hx : ackTo l q 0 = x at *
   have ho := or0
   obtain rfl : x = 0 := by omega
   cases hc : (look l ((q : Int) + 2)).isSome
   ·rw [hc] at hH HX
    go_upto_region 6 with (first | (go_at_call 202; refine (hq2 _).mono ?_; rintro e y ⟨rfl, rfl⟩) | (go_at_call 165; refine (unhide hH).mono ?_; rintro e z ⟨rfl, hbz⟩; have HB2 := hide ((unhide HB).trans (hbz.mono hz)); clear hbz))
    exact ⟨⟨0 + 1, by omega, by go_num, by rw [unhide HX]; simp, unhide HB2⟩, by simp [intOf]⟩
   ·rw [hc] at hH HX
    go_upto_region 6 with (first | (go_at_call 202; refine (hq2 _).mono ?_; rintro e y ⟨rfl, rfl⟩) | (go_at_call 165; refine (unhide hH).mono ?_; rintro e z ⟨rfl, hbz⟩; have HB2 := hide ((unhide HB).trans (hbz.mono hz)); clear hbz))
    go_wp2
    exact ⟨⟨0 + 1, by omega, by go_num, by rw [unhide HX]; simp, unhide HB2⟩, by simp [intOf]⟩
  ·have hw : IntKind.i64.wrap ((q : Int) + 2 + 1) = (q : Int) + 2 + 1 := by rw [IntKind.wrap_i64]; omega
   have hH := hHas ((q : Int) + 2 + 1)
   have HX : Hid (ackTo l q (1 + 1) = ackTo l q 1 + if (look l ((q : Int) + 2 + 1)).isSome = true then 2 ^ 1 else 0) := rfl
   generalize hx : ackTo l q 1 = x at *
   have ho := or1 ⟨x, hlj⟩
   replace hx := hide hx
   cases hc : (look l ((q : Int) + 2 + 1)).isSome
   ·rw [hc] at hH HX
    go_upto_region 6 with (first | (go_at_call 202; refine (hq2 _).mono ?_; rintro e y ⟨rfl, rfl⟩) | (go_at_call 165; refine (unhide hH).mono ?_; rintro e z ⟨rfl, hbz⟩; have HB2 := hide ((unhide HB).trans (hbz.mono hz)); clear hbz))
    exact ⟨⟨1 + 1, by omega, by go_num, by rw [unhide HX]; simp, unhide HB2⟩, by simp [intOf]⟩
   ·rw [hc] at hH HX
    go_upto_region 6 with (first | (go_at_call 202; refine (hq2 _).mono ?_; rintro e y ⟨rfl, rfl⟩) | (go_at_call 165; refine (unhide hH).mono ?_; rintro e z ⟨rfl, hbz⟩; have HB2 := hide ((unhide HB).trans (hbz.mono hz)); clear hbz))
    go_wp2
    exact ⟨⟨1 + 1, by omega, by go_num, by rw [unhide HX]; simp, unhide HB2⟩, by simp [intOf]⟩
  ·have hw : IntKind.i64.wrap ((q : Int) + 2 + 2) = (q : Int) + 2 + 2 := by rw [IntKind.wrap_i64]; omega
   have hH := hHas ((q : Int) + 2 + 2)
   have HX : Hid (ackTo l q (2 + 1) = ackTo l q 2 + if (look l ((q : Int) + 2 + 2)).isSome = true then 2 ^ 2 else 0) := rfl
   generalize hx : ackTo l q 2 = x at *
   have ho := or2 ⟨x, hlj⟩
   replace hx := hide hx
   cases hc : (look l ((q : Int) + 2 + 2)).isSome
   ·rw [hc] at hH HX
    go_upto_region 6 with (first | (go_at_call 202; refine (hq2 _).mono ?_; rintro e y ⟨rfl, rfl⟩) | (go_at_call 165; refine (unhide hH).mono ?_; rintro e z ⟨rfl, hbz⟩; have HB2 := hide ((unhide HB).trans (hbz.mono hz)); clear hbz))
    exact ⟨⟨2 + 1, by omega, by go_num, by rw [unhide HX]; simp, unhide HB2⟩, by simp [intOf]⟩
   ·rw [hc] at hH HX
    go_upto_region 6 with (first | (go_at_call 202; refine (hq2 _).mono ?_; rintro e y ⟨rfl, rfl⟩) | (go_at_call 165; refine (unhide hH).mono ?_; rintro e z ⟨rfl, hbz⟩; have HB2 := hide ((unhide HB).trans (hbz.mono hz)); clear hbz))
    go_wp2
    exact ⟨⟨2 + 1, by omega, by go_num, by rw [unhide HX]; simp, unhide HB2⟩, by simp [intOf]⟩
  ·have hx8 : ackTo l q 3 < 8 := hlj
   have hconv : ∀ z : World, (convert 44 9 (.slice (some ⟨z.heap.size, 0, none⟩) 1 1)).run Tryz.prog (z.alloc (.cells #[.int .u8 (ackTo l q 3 : Nat)] 5)) = .ok (.string ⟨#[UInt8.ofNat (ackTo l q 3)]⟩) (z.alloc (.cells #[.int .u8 (ackTo l q 3 : Nat)] 5)) := fun z =>
    conv_str (l := [UInt8.ofNat (ackTo l q 3)]) (b := z.heap.size) (off := 0) (n := 1) (cap := 1) rfl (fun i hi => by
     obtain rfl : i = 0 := by omega
     rw [blk_cell (heap_alloc_new z _)]
     simp
     omega)
   generalize hx3 : ackTo l q 3 = x at *
   replace hx3 := hide hx3
   go_wp2
   go_ret
   exact ⟨(congrArg (fun x => Ending.returned (Value.string ⟨#[UInt8.ofNat x]⟩)) (unhide hx3)).symm, ((unhide HB).alloc hz _)⟩
end Go.Proofs.YtamafdcnbcoegaaGreat
namespace Go.Proofs.YtamafdcnbcoegaaGreat
open Go.RowKit
set_option maxRecDepth 100000 in
set_option maxHeartbeats 2000000 in
theorem welcomeBody_any (a b c : Nat) (ha : a < 4294967296) (hb : b < 4294967296) (hc : c < 4294967296) (w : World) :
  Calls Tryz.prog 162 #[.agg #[.int .i64 a, .int .i64 b, .int .i64 c]] w fun e w' => e = .returned (.string ⟨(Wire.le4 a ++ Wire.le4 b ++ Wire.le4 c).toArray⟩) ∧ Below w.heap.size w w' := by
 have e0 : ∀ y : World, (Instr.index 98 (.agg #[.int .i64 a, .int .i64 b, .int .i64 c]) (.int .i64 0)).run Tryz.prog y = .ok (.int .i64 a) y := fun y => by kernel_rfl
 have e1 : ∀ y : World, (Instr.index 98 (.agg #[.int .i64 a, .int .i64 b, .int .i64 c]) (.int .i64 1)).run Tryz.prog y = .ok (.int .i64 b) y := fun y => by kernel_rfl
 have e2 : ∀ y : World, (Instr.index 98 (.agg #[.int .i64 a, .int .i64 b, .int .i64 c]) (.int .i64 2)).run Tryz.prog y = .ok (.int .i64 c) y := fun y => by kernel_rfl
 have hl : ∀ n : Int, (Wire.le4 n).length = 4 := fun n => Wire.length_le4 n
 go_enter Tryz.func162, Tryz.ntmps162
 go_upto_region 2 with fail
 refine wp_world (fun x => x.cell? ⟨w.heap.size, 0, none⟩ = some (.int .i64 a) ∧ x.cell? ⟨w.heap.size, 1, none⟩ = some (.int .i64 b) ∧ x.cell? ⟨w.heap.size, 2, none⟩ = some (.int .i64 c) ∧ Below w.heap.size w x ∧ w.heap.size < x.heap.size) ?_ ?_
 ·have := heap_alloc_new w (.cells #[.int .i64 a, .int .i64 b, .int .i64 c] 98)
  exact ⟨blk_cell this, blk_cell this, blk_cell this, (Below.refl _ _).alloc (Nat.le_refl _) _, by simp⟩
 rintro x ⟨c0, c1, c2, hB, hz⟩
 go_wp2
 go_loopw [3, 5, 7] (fun v _ i wr => ∃ j : Nat, j ≤ 3 ∧ i = .int .i64 j ∧ Owns (w.heap.size + 1) wr v ((Wire.le4 a ++ Wire.le4 b ++ Wire.le4 c).take (4 * j)) ∧ Below w.heap.size w wr ∧ w.heap.size < wr.heap.size) (fun _ _ i _ => 3 - (intOf i).toNat)
 case atStart => exact ⟨0, by omega, rfl, owns_nil _ _, hB, hz⟩
 case round =>
  obtain ⟨j, hj, rfl, ho, hb', hz'⟩ := hrel
  have HO := hide ho
  have HB := hide hb'
  clear ho hb'
  rcases (show j = 0 ∨ j = 1 ∨ j = 2 ∨ j = 3 by omega) with rfl | rfl | rfl | rfl
  ·have HL := hide (show (Wire.le4 a ++ Wire.le4 b ++ Wire.le4 c).take (4 * (0 + 1)) = (Wire.le4 a ++ Wire.le4 b ++ Wire.le4 c).take (4 * 0) ++ Wire.le4 a by simp [Wire.le4])
   go_upto_region 6 with (go_at_call 135; refine (appendNumber_any (w.heap.size + 1) (a : Int) u3 _ wr (by simp only [List.length_take, List.length_append, hl]; omega) (by omega) (by omega) (unhide HO)).mono ?_; rintro r z ⟨v', rfl, hown, hg⟩; have hb2 : Below (w.heap.size + 1) wr z := below_grown_new hg (by omega) (fun g hg => ((unhide HO).lt g hg).1); have HO2 := hide hown; have HB2 := hide ((unhide HB).trans (hb2.mono (by omega))); have hz2 := Nat.lt_of_lt_of_le hz' hb2.size; clear hown hg hb2)
   go_wp2
   exact ⟨⟨0 + 1, by omega, by go_num, by rw [unhide HL]; exact unhide HO2, unhide HB2, hz2⟩, by simp [intOf]⟩
  ·have HL := hide (show (Wire.le4 a ++ Wire.le4 b ++ Wire.le4 c).take (4 * (1 + 1)) = (Wire.le4 a ++ Wire.le4 b ++ Wire.le4 c).take (4 * 1) ++ Wire.le4 b by simp [Wire.le4])
   go_upto_region 6 with (go_at_call 135; refine (appendNumber_any (w.heap.size + 1) (b : Int) u3 _ wr (by simp only [List.length_take, List.length_append, hl]; omega) (by omega) (by omega) (unhide HO)).mono ?_; rintro r z ⟨v', rfl, hown, hg⟩; have hb2 : Below (w.heap.size + 1) wr z := below_grown_new hg (by omega) (fun g hg => ((unhide HO).lt g hg).1); have HO2 := hide hown; have HB2 := hide ((unhide HB).trans (hb2.mono (by omega))); have hz2 := Nat.lt_of_lt_of_le hz' hb2.size; clear hown hg hb2)
   go_wp2
   exact ⟨⟨1 + 1, by omega, by go_num, by rw [unhide HL]; exact unhide HO2, unhide HB2, hz2⟩, by simp [intOf]⟩
  ·have HL := hide (show (Wire.le4 a ++ Wire.le4 b ++ Wire.le4 c).take (4 * (2 + 1)) = (Wire.le4 a ++ Wire.le4 b ++ Wire.le4 c).take (4 * 2) ++ Wire.le4 c by simp [Wire.le4])
   go_upto_region 6 with (go_at_call 135; refine (appendNumber_any (w.heap.size + 1) (c : Int) u3 _ wr (by simp only [List.length_take, List.length_append, hl]; omega) (by omega) (by omega) (unhide HO)).mono ?_; rintro r z ⟨v', rfl, hown, hg⟩; have hb2 : Below (w.heap.size + 1) wr z := below_grown_new hg (by omega) (fun g hg => ((unhide HO).lt g hg).1); have HO2 := hide hown; have HB2 := hide ((unhide HB).trans (hb2.mono (by omega))); have hz2 := Nat.lt_of_lt_of_le hz' hb2.size; clear hown hg hb2)
   go_wp2
   exact ⟨⟨2 + 1, by omega, by go_num, by rw [unhide HL]; exact unhide HO2, unhide HB2, hz2⟩, by simp [intOf]⟩
  ·have hlen : (Wire.le4 a ++ Wire.le4 b ++ Wire.le4 c).length = 12 := by simp [hl]
   rw [List.take_of_length_le (by rw [hlen]; omega)] at HO
   have had := (unhide HO).addr (by rw [hlen]; omega)
   rw [hlen] at had
   obtain ⟨g, cap, rfl, hgB, hgl, hcap1, hcap2, hcell⟩ := had
   have hconv := conv_str (w := wr) (b := g) (off := 0) (cap := cap) hlen hcell
   generalize hfr : Wire.le4 a ++ Wire.le4 b ++ Wire.le4 c = fr at *
   replace hfr := hide hfr
   clear hcell HO
   go_wp2
   go_ret
   exact ⟨(congrArg (fun x : List UInt8 => Ending.returned (Value.string ⟨x.toArray⟩)) (unhide hfr)).symm, unhide HB⟩
end Go.Proofs.YtamafdcnbcoegaaGreat
namespace Go.Proofs.YtamafdcnbcoegaaGreat
open Go.RowKit
structure KsAt (w : World) (p : Nat) (e : Nat) (logs : Nat → List ByteArray) (sh : Nat → List (Nat × Value)) (arr : Array Value) (s : Nat) (lv nv mv : Nat → Value) (rv : Value) : Prop where
 blk : w.heap[p]? = some (.cells arr 176 (0, 0))
 sz : arr.size = 12
 a0 : arr[0]? = some (ptrTo s)
 a1 : arr[1]? = some (.int .i64 e)
 al : ∀ i, i < 3 → arr[2 + i * 3]? = some (lv i)
 an : ∀ i, i < 3 → arr[2 + i * 3 + 1]? = some (nv i)
 am : ∀ i, i < 3 → arr[2 + i * 3 + 2]? = some (mv i)
 ar : arr[11]? = some rv
 lgs : ∀ i, i < 3 → RowO w 9 1 (lv i) (logs i).length (strs (logs i))
 shs : ∀ i, i < 3 → ShelfIs w (nv i) (mv i) (sh i)
 are : ∀ i, i < 3 → AreS (sh i)
 apl : ∀ i j, i < 3 → j < 3 → i ≠ j → ∀ g, (lv i).ownBlock = some g → (lv j).ownBlock ≠ some g
 aps : ∀ i j, i < 3 → j < 3 → i ≠ j → ∀ k, ShU (nv i) (mv i) k → ¬ ShU (nv j) (mv j) k
 cnt : (logs 0).length + (logs 1).length + (logs 2).length ≤ 120
 ep : e ≤ 2147483647
def KsU (p : Nat) (lv nv mv : Nat → Value) (k : Nat) : Prop := k = p ∨ (∃ i, i < 3 ∧ (lv i).ownBlock = some k) ∨ ∃ i, i < 3 ∧ ShU (nv i) (mv i) k
section
variable {w x : World} {p e s : Nat} {logs : Nat → List ByteArray} {sh : Nat → List (Nat × Value)} {arr : Array Value} {lv nv mv : Nat → Value} {rv : Value}
theorem KsAt.far {E : Nat → Prop} (h : KsAt w p e logs sh arr s lv nv mv rv) (hf : Far E w x) (hE : ∀ k, KsU p lv nv mv k → ¬ E k) : KsAt x p e logs sh arr s lv nv mv rv :=
 ⟨hf.blk h.blk (hE p (.inl rfl)), h.sz, h.a0, h.a1, h.al, h.an, h.am, h.ar, fun i hi => (h.lgs i hi).far hf (fun g hg => hE g (.inr (.inl ⟨i, hi, hg⟩))), fun i hi => (h.shs i hi).far hf (fun k hk => hE k (.inr (.inr ⟨i, hi, hk⟩))), h.are, h.apl, h.aps, h.cnt, h.ep⟩
theorem KsAt.lt (h : KsAt w p e logs sh arr s lv nv mv rv) : ∀ k, KsU p lv nv mv k → k < w.heap.size := by
 rintro k (rfl | ⟨i, hi, hk⟩ | ⟨i, hi, hk⟩)
 ·exact lt_of_block h.blk
 ·exact (h.lgs i hi).lt k hk
 ·exact (h.shs i hi).lt k hk
theorem KsAt.logc (h : KsAt w p e logs sh arr s lv nv mv rv) {i : Nat} (hi : i < 3) : ∃ ad cap, lv i = .slice ad (logs i).length cap ∧ w.cell? ⟨p, 2 + i * 3, none⟩ = some (.slice ad (logs i).length cap) := by
 obtain ⟨ad, cap, e, _⟩ := (h.lgs i hi).shape
 exact ⟨ad, cap, e, by rw [blk_cell h.blk, h.al i hi, e]⟩
theorem KsAt.loglen (h : KsAt w p e logs sh arr s lv nv mv rv) {i : Nat} (hi : i < 3) : (logs i).length ≤ 120 := by
 have := h.cnt
 obtain rfl | rfl | rfl : i = 0 ∨ i = 1 ∨ i = 2 := by omega
 all_goals omega
end
theorem sinkLast_any (w : World) (p o n cap : Nat) (ad : Option Addr) (hc : w.cell? ⟨p, o, none⟩ = some (.slice ad n cap)) :
  Calls Tryz.prog 161 #[.pointer (some ⟨p, o, none⟩)] w fun r w' => r = .returned (.int .i64 n) ∧ w' = w := by
 go_enter Tryz.func161, Tryz.ntmps161
 go_wp2
 go_ret
 exact ⟨rfl, rfl⟩
theorem sinkNext_any (w : World) (p o n cap : Nat) (ad : Option Addr) (hc : w.cell? ⟨p, o, none⟩ = some (.slice ad n cap)) (hn : n ≤ 1000) :
  Calls Tryz.prog 158 #[.pointer (some ⟨p, o, none⟩)] w fun r w' => r = .returned (.int .i64 (n + 1 : Nat)) ∧ w' = w := by
 have HL := hide (sinkLast_any w p o n cap ad hc)
 have hw : IntKind.i64.wrap ((n : Int) + 1) = (n : Int) + 1 := by rw [IntKind.wrap_i64]; omega
 clear hc
 go_enter Tryz.func158, Tryz.ntmps158
 go_wp2_with (go_at_call 161; refine (unhide HL).mono ?_; rintro r y ⟨rfl, rfl⟩)
 go_ret
 exact ⟨by simp, rfl⟩
set_option maxHeartbeats 1000000 in
theorem committed_any {w : World} {p e s : Nat} {logs : Nat → List ByteArray} {sh : Nat → List (Nat × Value)} {arr : Array Value} {lv nv mv : Nat → Value} {rv : Value} (H : KsAt w p e logs sh arr s lv nv mv rv) :
  Calls Tryz.prog 157 #[ptrTo p] w fun r w' => r = .returned (.int .i64 ((logs 0).length + (logs 1).length + (logs 2).length : Nat)) ∧ w' = w := by
 obtain ⟨a0, k0, _, c0⟩ := H.logc (i := 0) (by omega)
 obtain ⟨a1, k1, _, c1⟩ := H.logc (i := 1) (by omega)
 obtain ⟨a2, k2, _, c2⟩ := H.logc (i := 2) (by omega)
 have hcnt := H.cnt
 have L0 := hide (sinkLast_any w p 2 _ k0 a0 c0)
 have L1 := hide (sinkLast_any w p 5 _ k1 a1 c1)
 have L2 := hide (sinkLast_any w p 8 _ k2 a2 c2)
 generalize (logs 0).length = n0 at *
 generalize (logs 1).length = n1 at *
 generalize (logs 2).length = n2 at *
 clear H c0 c1 c2
 unfold ptrTo
 go_enter Tryz.func157, Tryz.ntmps157
 go_wp2
 go_loopw [3, 4, 5] (fun v _ i wr => ∃ j : Nat, j ≤ 3 ∧ i = .int .i64 j ∧ v = .int .i64 (if j = 0 then 0 else if j = 1 then n0 else if j = 2 then n0 + n1 else n0 + n1 + n2 : Nat) ∧ wr = w) (fun _ _ i _ => 3 - (intOf i).toNat)
 case atStart => exact ⟨0, by omega, rfl, rfl, rfl⟩
 case round =>
  obtain ⟨j, hj, rfl, rfl, rfl⟩ := hrel
  rcases (show j = 0 ∨ j = 1 ∨ j = 2 ∨ j = 3 by omega) with rfl | rfl | rfl | rfl
  ·have hw : IntKind.i64.wrap (n0 : Int) = (n0 : Int) := by rw [IntKind.wrap_i64]; omega
   go_wp2_with (go_at_call 161; refine (unhide L0).mono ?_; rintro r y ⟨rfl, rfl⟩)
   exact ⟨⟨1, by omega, by go_num, by simp, by first | rfl | trivial⟩, by simp [intOf]⟩
  ·have hw : IntKind.i64.wrap ((n0 : Int) + (n1 : Int)) = (n0 : Int) + (n1 : Int) := by rw [IntKind.wrap_i64]; omega
   go_wp2_with (go_at_call 161; refine (unhide L1).mono ?_; rintro r y ⟨rfl, rfl⟩)
   exact ⟨⟨2, by omega, by go_num, by simp, by first | rfl | trivial⟩, by simp [intOf]⟩
  ·have hw : IntKind.i64.wrap ((n0 : Int) + (n1 : Int) + (n2 : Int)) = (n0 : Int) + (n1 : Int) + (n2 : Int) := by rw [IntKind.wrap_i64]; omega
   go_wp2_with (go_at_call 161; refine (unhide L2).mono ?_; rintro r y ⟨rfl, rfl⟩)
   exact ⟨⟨3, by omega, by go_num, by simp, by first | rfl | trivial⟩, by simp [intOf]⟩
  ·go_wp2
   go_ret
   exact ⟨by simp, rfl⟩
theorem hasRoom_any {w : World} {p e s : Nat} {logs : Nat → List ByteArray} {sh : Nat → List (Nat × Value)} {arr : Array Value} {lv nv mv : Nat → Value} {rv : Value} (H : KsAt w p e logs sh arr s lv nv mv rv) :
  Calls Tryz.prog 204 #[ptrTo p] w fun r w' => r = .returned (.bool (decide ((logs 0).length + (logs 1).length + (logs 2).length < 120))) ∧ w' = w := by
 have HC := hide (committed_any H)
 have hcnt := H.cnt
 generalize (logs 0).length + (logs 1).length + (logs 2).length = n at *
 clear H
 unfold ptrTo at *
 by_cases h : n < 120
 ·rw [decide_eq_true h]
  have h' : (n : Int) < 120 := by omega
  go_enter Tryz.func204, Tryz.ntmps204
  go_wp2_with (go_at_call 157; refine (unhide HC).mono ?_; rintro r y ⟨rfl, rfl⟩)
  go_ret
  exact ⟨by simp, rfl⟩
 ·rw [decide_eq_false h]
  have h' : ¬ (n : Int) < 120 := by omega
  go_enter Tryz.func204, Tryz.ntmps204
  go_wp2_with (go_at_call 157; refine (unhide HC).mono ?_; rintro r y ⟨rfl, rfl⟩)
  go_ret
  exact ⟨by simp; omega, rfl⟩
end Go.Proofs.YtamafdcnbcoegaaGreat
namespace Go.Proofs.YtamafdcnbcoegaaGreat
open Go.RowKit
structure Sv where
 arr : Array Value
 s : Nat
 dp : Nat
 lv : Nat → Value
 nv : Nat → Value
 mv : Nat → Value
 rv : Value
 dlv : Value
 duv : Value
def rulesOf (p : Nat) : List Value := [.int .i64 1, .func (.func 109) #[ptrTo p] #[], .int .i64 3, .func (.func 110) #[ptrTo p] #[]]
structure PkAt (w : World) (p e : Nat) (logs : Nat → List ByteArray) (sh : Nat → List (Nat × Value)) (st : Mod.Stv) (c : Sv) : Prop where
 ks : KsAt w p e logs sh c.arr c.s c.lv c.nv c.mv c.rv
 stt : StAt w c.s c.dp st c.dlv c.duv
 rl : RowO w 179 2 c.rv 2 (rulesOf p)
 len : st.dk.bytes.length = 7808
def PkU (p : Nat) (c : Sv) (k : Nat) : Prop := KsU p c.lv c.nv c.mv k ∨ StU c.s c.dp c.dlv c.duv k ∨ c.rv.ownBlock = some k
section
variable {w x y : World} {p e : Nat} {logs : Nat → List ByteArray} {sh : Nat → List (Nat × Value)} {st : Mod.Stv} {c : Sv}
theorem PkAt.lt (h : PkAt w p e logs sh st c) : ∀ k, PkU p c k → k < w.heap.size := by
 rintro k (hk | hk | hk)
 ·exact h.ks.lt k hk
 ·exact h.stt.lt k hk
 ·exact h.rl.lt k hk
theorem PkAt.far {E : Nat → Prop} (h : PkAt w p e logs sh st c) (hf : Far E w x) (hE : ∀ k, PkU p c k → ¬ E k) : PkAt x p e logs sh st c :=
 ⟨h.ks.far hf (fun k hk => hE k (.inl hk)), h.stt.far hf (fun k hk => hE k (.inr (.inl hk))), h.rl.far hf (fun g hg => hE g (.inr (.inr hg))), h.len⟩
theorem ks_not_cells {arr : Array Value} {s : Nat} {lv nv mv : Nat → Value} {rv : Value} (h : KsAt w p e logs sh arr s lv nv mv rv) {q : Nat} {cs : Array Value} {t : TypeId} {fr : Nat × Nat} (hb : w.heap[q]? = some (.cells cs t fr)) (h1 : t ≠ 176) (h2 : t ≠ 9) (h3 : t ≠ 3) : ¬ KsU p lv nv mv q := by
 rintro (rfl | ⟨i, hi, hk⟩ | ⟨i, hi, hk⟩)
 ·have := h.blk
  rw [hb] at this
  injection this with this
  injection this with _ this _
  exact h1 this
 ·exact (h.lgs i hi).ne hb (fun e => h2 e.symm) hk
 ·rcases hk with hk | hk
  ·exact (RowO.of_own (h.shs i hi).nums).ne hb (fun e => h3 e.symm) hk
  ·rcases (h.shs i hi).map with ⟨e, _⟩ | ⟨b, e, M⟩
   ·rw [e] at hk; cases hk
   ·rw [e] at hk; cases hk; exact M.not_cells hb
theorem row_cells {e' : TypeId} {size n : Nat} {v : Value} {xs : List Value} (h : RowO w e' size v n xs) {g : Nat} (hg : v.ownBlock = some g) : ∃ cur, w.heap[g]? = some (.cells cur e' (0, 0)) := by
 obtain ⟨_, h2⟩ := h
 rcases h2 with ⟨rfl, _⟩ | ⟨g', o, cap, cur, rfl, hh, _⟩
 ·cases hg
 ·cases hg; exact ⟨cur, hh⟩
theorem PkAt.sep (h : PkAt w p e logs sh st c) : ∀ k, KsU p c.lv c.nv c.mv k → ¬ StU c.s c.dp c.dlv c.duv k := by
 rintro k hk (hs | hs | hs | hs)
 ·subst hs; exact ks_not_cells h.ks h.stt.blk (by decide) (by decide) (by decide) hk
 ·subst hs; exact ks_not_cells h.ks h.stt.dk.blk (by decide) (by decide) (by decide) hk
 ·obtain ⟨cur, hc⟩ := row_cells (RowO.of_own h.stt.dk.row) hs
  exact ks_not_cells h.ks hc (by decide) (by decide) (by decide) hk
 ·obtain ⟨cur, hc⟩ := row_cells h.stt.dk.un hs
  exact ks_not_cells h.ks hc (by decide) (by decide) (by decide) hk
theorem PkAt.sepr (h : PkAt w p e logs sh st c) : ∀ k, c.rv.ownBlock = some k → ¬ KsU p c.lv c.nv c.mv k ∧ ¬ StU c.s c.dp c.dlv c.duv k := by
 intro k hk
 obtain ⟨cur, hc⟩ := row_cells h.rl hk
 refine ⟨ks_not_cells h.ks hc (by decide) (by decide) (by decide), ?_⟩
 rintro (hs | hs)
 ·rw [hs, h.stt.blk] at hc
  injection hc with hc
  injection hc with _ hc _
  exact absurd hc (by decide)
 ·exact dk_ne h.stt.dk hc (by decide) (by decide) (by decide) hs
end
def PkStep (w x : World) (p e : Nat) (logs : Nat → List ByteArray) (sh : Nat → List (Nat × Value)) (st : Mod.Stv) (c : Sv) : Prop :=
 ∃ c', PkAt x p e logs sh st c' ∧ Far (PkU p c) w x ∧ (∀ k, PkU p c' k → PkU p c k ∨ w.heap.size ≤ k) ∧ c'.s = c.s ∧ c'.rv = c.rv
theorem ksAt_log {x y : World} {p e s : Nat} {logs : Nat → List ByteArray} {sh : Nat → List (Nat × Value)} {arr : Array Value} {lv nv mv : Nat → Value} {rv : Value} (h : KsAt x p e logs sh arr s lv nv mv rv) (i : Nat) (hi : i < 3) (b : ByteArray) (v' : Value)
  (hF : Far (fun k => (lv i).ownBlock = some k) x y) (hv : RowO y 9 1 v' ((logs i).length + 1) (strs (logs i ++ [b]))) (hl : Loc x (lv i) v') (hc : (logs 0).length + (logs 1).length + (logs 2).length < 120) :
  KsAt (y.setCell ⟨p, 2 + i * 3, none⟩ v') p e (fun j => if j = i then logs i ++ [b] else logs j) sh (arr.setIfInBounds (2 + i * 3) v') s (fun j => if j = i then v' else lv j) nv mv rv := by
 have hpl : ∀ j, j < 3 → (lv j).ownBlock ≠ some p := fun j hj => (h.lgs j hj).ne h.blk (by decide)
 have hby := hF.blk h.blk (hpl i hi)
 have hs := far_set y p (2 + i * 3) v'
 have hF2 : Far (fun k => k = p ∨ (lv i).ownBlock = some k) x (y.setCell ⟨p, 2 + i * 3, none⟩ v') := (hF.mono (fun _ _ h => .inr h)).trans hs (fun _ _ h => .inl h)
 have hpv : v'.ownBlock ≠ some p := hv.ne hby (by decide)
 have hget : ∀ j, j ≠ 2 + i * 3 → (arr.setIfInBounds (2 + i * 3) v')[j]? = arr[j]? := fun j hj => Array.getElem?_setIfInBounds_ne (fun e => hj e.symm)
 refine ⟨blk_set hby, by simpa using h.sz, ?_, ?_, ?_, ?_, ?_, ?_, ?_, ?_, h.are, ?_, h.aps, ?_, h.ep⟩
 ·rw [hget _ (by omega)]; exact h.a0
 ·rw [hget _ (by omega)]; exact h.a1
 ·intro j hj
  by_cases hji : j = i
  ·subst hji
   have hlt : 2 + j * 3 < arr.size := by rw [h.sz]; omega
   simp [hlt]
  ·rw [if_neg hji, hget _ (by omega)]; exact h.al j hj
 ·intro j hj; rw [hget _ (by omega)]; exact h.an j hj
 ·intro j hj; rw [hget _ (by omega)]; exact h.am j hj
 ·rw [hget _ (by omega)]; exact h.ar
 ·intro j hj
  by_cases hji : j = i
  ·subst hji
   have := hv.far hs (fun g hg e => hpv (by rw [hg, e]))
   simpa using this
  ·simp only [if_neg hji]
   exact (h.lgs j hj).far hF2 (fun g hg e => e.elim (fun e => hpl j hj (by rw [hg, e])) (fun e => h.apl j i hj hi hji g hg e))
 ·intro j hj
  refine (h.shs j hj).far hF2 (fun k hk e => ?_)
  have hc : ∃ cs t, x.heap[k]? = some (.cells cs t (0, 0)) ∧ t ≠ 3 := by
   rcases e with rfl | e
   ·exact ⟨_, _, h.blk, by decide⟩
   ·obtain ⟨cur, hh⟩ := row_cells (h.lgs i hi) e
    exact ⟨_, _, hh, by decide⟩
  obtain ⟨cs, t, hh, ht⟩ := hc
  exact (h.shs j hj).ne hh ht hk
 ·intro j j2 hj hj2 hne g hg
  by_cases h1 : j = i
  ·subst h1
   rw [if_pos rfl] at hg
   rw [if_neg (fun e => hne e.symm)]
   intro hg2
   rcases hl with hl | hl | ⟨g3, hl, hg3⟩
   ·rw [hl] at hg; cases hg
   ·rw [hl] at hg; exact h.apl j j2 hj hj2 hne g hg hg2
   ·rw [hl] at hg; cases hg
    have := (h.lgs j2 hj2).lt g hg2
    omega
  ·rw [if_neg h1] at hg
   by_cases h2 : j2 = i
   ·subst h2
    rw [if_pos rfl]
    intro hg2
    rcases hl with hl | hl | ⟨g3, hl, hg3⟩
    ·rw [hl] at hg2; cases hg2
    ·rw [hl] at hg2; exact h.apl j j2 hj hj2 hne g hg hg2
    ·rw [hl] at hg2; cases hg2
     have := (h.lgs j hj).lt g hg
     omega
   ·rw [if_neg h2]
    exact h.apl j j2 hj hj2 hne g hg
 ·obtain rfl | rfl | rfl : i = 0 ∨ i = 1 ∨ i = 2 := by omega
  all_goals
   simp
   omega
end Go.Proofs.YtamafdcnbcoegaaGreat
namespace Go.Proofs.YtamafdcnbcoegaaGreat
open Go.RowKit
set_option maxRecDepth 100000 in
set_option maxHeartbeats 2000000 in
theorem commit_any {w : World} {p e : Nat} {logs : Nat → List ByteArray} {sh : Nat → List (Nat × Value)} {st : Mod.Stv} {c : Sv} (H : PkAt w p e logs sh st c) (i : Nat) (hi : i < 3) (b : ByteArray) (hb : b.size ≤ 20)
  (hroom : (logs 0).length + (logs 1).length + (logs 2).length < 120) :
  Calls Tryz.prog 222 #[ptrTo p, .int .i64 i, .string b] w fun r w' =>
   r = .returned (.int .i64 (st.putRecord ((logs 0).length + (logs 1).length + (logs 2).length) i ((logs i).length + 1) b.data.toList).1) ∧
   PkStep w w' p e (if (st.putRecord ((logs 0).length + (logs 1).length + (logs 2).length) i ((logs i).length + 1) b.data.toList).1 = 0 then fun j => if j = i then logs i ++ [b] else logs j else logs) sh
    (st.putRecord ((logs 0).length + (logs 1).length + (logs 2).length) i ((logs i).length + 1) b.data.toList).2 c := by
 obtain ⟨n, hn⟩ : ∃ n, n = (logs 0).length + (logs 1).length + (logs 2).length := ⟨_, rfl⟩
 obtain ⟨q, hq⟩ : ∃ q, q = (logs i).length + 1 := ⟨_, rfl⟩
 obtain ⟨ad, cap, hlv, clog⟩ := H.ks.logc hi
 have hll := H.ks.loglen hi
 have hpl := lt_of_block H.ks.blk
 have hNX := fun y (hy : Below w.heap.size w y) => hide (sinkNext_any y p (2 + i * 3) _ cap ad ((hy.cell (p := ⟨p, 2 + i * 3, none⟩) hpl).trans clog) (by omega))
 have hCM := fun y (hy : Below w.heap.size w y) => hide (committed_any (H.ks.far (far_below (E := fun _ => False) hy) (fun _ _ h => h)))
 rw [← hq] at hNX
 rw [← hn] at hCM hroom ⊢
 rw [← hq]
 have hWR := fun y (hy : Below w.heap.size w y) => hide (writeRecord_any y c.s c.dp st c.dlv c.duv (H.stt.far (far_below (E := fun _ => False) hy) (fun _ _ h => h)) n i q b (by rw [H.len]; omega) (by omega) (by omega) hb)
 have c0 : w.cell? ⟨p, 0, none⟩ = some (ptrTo c.s) := by rw [blk_cell H.ks.blk, H.ks.a0]
 obtain ⟨ee, hee⟩ : ∃ ee, ee = (st.putRecord n i q b.data.toList).1 := ⟨_, rfl⟩
 obtain ⟨st2, hst⟩ : ∃ st2, st2 = (st.putRecord n i q b.data.toList).2 := ⟨_, rfl⟩
 rw [← hee, ← hst] at hWR ⊢
 have hlen2 : st2.dk.bytes.length = 7808 := by
  rw [hst]
  unfold Mod.Stv.putRecord Mod.Dk.put
  simp only
  split
  ·exact H.len
  ·split
   ·exact H.len
   ·simp only
    rw [Mod.length_setSec (Mod.length_sealB _ _ (by rw [Mod.length_recIn]; simp; omega)) (by rw [H.len]; omega)]
    exact H.len
 have HEQ := hide (And.intro hn (And.intro hq (And.intro hee hst)))
 have hi0 : (0 : Int) ≤ (i : Int) := by omega
 have hi3 : (i : Int) < 3 := by omega
 have HH := hide H
 have HLV := hide hlv
 clear H hlv hn hq hee hst clog
 unfold ptrTo at *
 go_enter Tryz.func222, Tryz.ntmps222
 go_upto_region 2 with fail
 refine wp_region_foot (by kernel_rfl)
  [fun v _ => v = .pointer (some ⟨p, 0, none⟩), fun v _ => v = .pointer (some ⟨p, 0, none⟩), fun v _ => v = .pointer (some ⟨p, 0, none⟩), fun v _ => v = .pointer (some ⟨c.s, 0, none⟩), fun v _ => v = .pointer (some ⟨p, 0, none⟩), fun v _ => v = .int .i64 n, fun v _ => v = .int .i64 i, fun v _ => v = .pointer (some ⟨p, 2 + i * 3, none⟩), fun v _ => v = .int .i64 q, fun v _ => v = .string b,
   fun v _ => v = .agg #[.int .i64 i, .int .i64 q, .string b], fun v y => v = .int .i64 ee ∧ ∃ uv', StAt y c.s c.dp st2 c.dlv uv' ∧ Loc w c.duv uv', fun v _ => v = .int .i64 ee]
  [[(0, none)], [(14, some 0)], [(15, some 1)], [(16, some 2)], [(0, none)], [(18, some 4)], [(1, none)], [(7, none)], [(21, some 7)], [(2, none)], [(20, some 6), (22, some 8), (23, some 9)], [(17, some 3), (19, some 5), (24, some 10)], [(25, some 11)]] [some 14, some 15, some 16, some 17, some 18, some 19, some 20, some 21, some 22, some 23, some 24, some 25, some 8] [false, false, false, false, false, false, false, false, true, false, false, false, false, false, true, true, true, true, true, true, true, true, true, true, true, true, false, false, false, false, false, false, false, false, false, false, false, false, false]
  [(11, StU c.s c.dp c.dlv c.duv)]
  (by kernel_rfl) (by kernel_rfl) (by kernel_rfl) (by kernel_rfl) (by kernel_rfl) ?_ ?_ ?_ ?_
 ·repeat' (first | exact stable_eq _ | exact (fun _ _ _ h hb => ⟨h.1, h.2.imp fun _ h => ⟨h.1.far (far_below (E := fun _ => False) hb) (fun _ _ h => h), h.2⟩⟩) | exact trivial | apply And.intro)
 ·repeat' (first | exact trivial | exact .inl rfl | exact .inr (.inr (stableF_eq _ _)) | apply And.intro)
 ·refine ⟨?_, ?_, ?_, ?_, ?_, ?_, ?_, ?_, ?_, ?_, ?_, ?_, ?_, trivial⟩
  all_goals
   intro a z hb hf
   simp only [PlanFacts, List.getD_cons_zero, List.getD_cons_succ, Array.getD_eq_getD_getElem?] at hf
   try simp at hf
  iterate 3
   ·clear hb
    go_simp
    exact ⟨_, rfl, Far.refl _ _, rfl⟩
  ·have z0 : z.cell? ⟨p, 0, none⟩ = some (.pointer (some ⟨c.s, 0, none⟩)) := by
    have := hb.blk (unhide HH).ks.blk (footBut_no (by intro q hq; simp at hq; subst hq; exact fun h => (unhide HH).sep p (.inl rfl) h))
    rw [blk_cell this, (unhide HH).ks.a0]
    rfl
   clear hb
   go_simp
   exact ⟨_, rfl, Far.refl _ _, rfl⟩
  ·clear hb
   go_simp
   exact ⟨_, rfl, Far.refl _ _, rfl⟩
  ·have hbz := foot_below hb (by intro q hq; simp at hq; subst hq; show depB _ 11 5 = true; decide +kernel)
   have HC := hide (unhide (hCM z hbz))
   clear hb hbz
   go_simp
   refine (unhide HC).mono ?_
   rintro r z2 ⟨rfl, rfl⟩
   exact ⟨_, rfl, Far.refl _ _, rfl⟩
  iterate 2
   ·clear hb
    go_simp
    exact ⟨_, rfl, Far.refl _ _, rfl⟩
  ·have hbz := foot_below hb (by intro q hq; simp at hq; subst hq; show depB _ 11 8 = true; decide +kernel)
   have HC := hide (unhide (hNX z hbz))
   clear hb hbz
   go_simp
   refine (unhide HC).mono ?_
   rintro r z2 ⟨rfl, rfl⟩
   exact ⟨_, rfl, Far.refl _ _, rfl⟩
  iterate 2
   ·clear hb
    go_simp
    exact ⟨_, rfl, Far.refl _ _, rfl⟩
  ·have hbz : Below w.heap.size w z := hb.below (Nat.le_refl _) (by
    rintro j _ ⟨q, hq, g1, g2, g3⟩
    simp at hq
    subst hq
    exact g1 rfl)
   have HC := hide (unhide (hWR z hbz))
   have hzz := hbz.size
   clear hb hbz
   go_simp
   refine (unhide HC).mono ?_
   rintro r z2 ⟨rfl, uv', k1, k2, k3⟩
   exact ⟨_, rfl, footOf_of (.head _) k3, rfl, uv', k1, loc_less k2 hzz⟩
  ·clear hb
   obtain ⟨hf, _⟩ := hf
   go_simp
   exact ⟨_, rfl, Far.refl _ _, rfl⟩
 ·intro f z hF hwd
  obtain ⟨_, uv', k1, k2⟩ := hwd.2.2.2.2.2.2.2.2.2.2.2.1
  have h12 := hwd.2.2.2.2.2.2.2.2.2.2.2.2.1
  have hF : Far (StU c.s c.dp c.dlv c.duv) w z := hF.mono (fun k _ h => by
   obtain ⟨q, hq, h⟩ := h
   simp at hq
   subst hq
   exact h)
  have hPK : PkAt z p e logs sh st2 { c with duv := uv' } := ⟨(unhide HH).ks.far hF (fun k hk h => (unhide HH).sep k hk h), k1, (unhide HH).rl.far hF (fun g hg h => ((unhide HH).sepr g hg).2 h), hlen2⟩
  have HPK := hide hPK
  have HF := hide hF
  have HK2 := hide k2
  clear hwd hF k1 k2 hPK
  simp only [mergeT, h12]
  generalize f 14 = x14
  generalize f 15 = x15
  generalize f 16 = x16
  generalize f 17 = x17
  generalize f 18 = x18
  generalize f 19 = x19
  generalize f 20 = x20
  generalize f 21 = x21
  generalize f 22 = x22
  generalize f 23 = x23
  generalize f 24 = x24
  generalize f 25 = x25
  have hmk : ∀ (logs' : Nat → List ByteArray) (z' : World) (arr' : Array Value) (lv' : Nat → Value), KsAt z' p e logs' sh arr' c.s lv' c.nv c.mv c.rv → Far (fun k => k = p ∨ (c.lv i).ownBlock = some k) z z' → (∀ j, j < 3 → Loc z (c.lv j) (lv' j)) → PkStep w z' p e logs' sh st2 c := by
   intro logs' z' arr' lv' hks hf hl
   have hP := unhide HPK
   have hFw := unhide HF
   refine ⟨{ c with arr := arr', lv := lv', duv := uv' }, ⟨hks, hP.stt.far hf (fun k hk hh => ?_), hP.rl.far hf (fun g hg hh => ?_), hP.len⟩, ?_, ?_, rfl, rfl⟩
   ·rcases hh with rfl | hh
    ·exact hP.sep _ (.inl rfl) hk
    ·exact hP.sep k (.inr (.inl ⟨i, hi, hh⟩)) hk
   ·rcases hh with rfl | hh
    ·exact (hP.sepr _ hg).1 (.inl rfl)
    ·exact (hP.sepr _ hg).1 (.inr (.inl ⟨i, hi, hh⟩))
   ·exact (hFw.mono (fun _ _ h => .inr (.inl h))).trans hf (fun k _ h => h.elim (fun h => .inl (.inl h)) (fun h => .inl (.inr (.inl ⟨i, hi, h⟩))))
   ·have hwz := hFw.size
    have K2 := unhide HK2
    rintro k ((rfl | ⟨j, hj, hk⟩ | hk) | (rfl | rfl | hk | hk) | hk)
    ·exact .inl (.inl (.inl rfl))
    ·rcases hl j hj with h | h | ⟨g, h, hg⟩
     ·rw [h] at hk; cases hk
     ·exact .inl (.inl (.inr (.inl ⟨j, hj, by rw [← h]; exact hk⟩)))
     ·rw [h] at hk; cases hk; exact .inr (by omega)
    ·exact .inl (.inl (.inr (.inr hk)))
    ·exact .inl (.inr (.inl (.inl rfl)))
    ·exact .inl (.inr (.inl (.inr (.inl rfl))))
    ·exact .inl (.inr (.inl (.inr (.inr (.inl hk)))))
    ·rcases K2 with h | h | ⟨g, h, hg⟩
     ·rw [h] at hk; cases hk
     ·exact .inl (.inr (.inl (.inr (.inr (.inr (by rw [← h]; exact hk))))))
     ·rw [h] at hk; cases hk; exact .inr hg
    ·exact .inl (.inr (.inr hk))
  by_cases h0 : ee = 0
  ·subst h0
   have hP := (unhide HPK).ks
   have y0 : z.cell? ⟨p, 2 + i * 3, none⟩ = some (.slice ad (logs i).length cap) := by rw [blk_cell hP.blk, hP.al i hi, unhide HLV]
   have yf : z.frozen? ⟨p, 2 + i * 3, none⟩ = false := blk_free (i := 2 + i * 3) hP.blk
   have hrow := hP.lgs i hi
   have HR := hide hrow
   have HMK := hide hmk
   clear hP hrow hmk
   have hl120 : (logs i).length ≤ 1000 := by omega
   have hrz : RowO z 9 1 (.slice ad (logs i).length cap) (logs i).length (strs (logs i)) := by
    have := unhide HR
    rw [show ({ c with duv := uv' } : Sv).lv i = .slice ad (logs i).length cap from unhide HLV] at this
    exact this
   have hra := fun ob => hide (hrz.keep (w' := z.alloc ob) (fun g hg => hao _ _ (hrz.lt g hg)))
   obtain ⟨m, hm⟩ : ∃ m, m = (logs i).length := ⟨_, rfl⟩
   obtain ⟨ss, hss⟩ : ∃ ss, ss = strs (logs i) := ⟨_, rfl⟩
   rw [← hm] at hl120 y0
   rw [← hm, ← hss] at hra
   have HM := hide (And.intro hm hss)
   have HAPP : ∀ ob v' w1, RowO w1 9 1 v' (m + 1) (ss ++ [.string b]) → App (z.alloc ob) w1 (.slice ad m cap) v' → ∃ ad2 cap2, v' = .slice ad2 (m + 1) cap2 ∧ w1.cell? ⟨p, 2 + i * 3, none⟩ = some (.slice ad m cap) ∧ w1.frozen? ⟨p, 2 + i * 3, none⟩ = false ∧
     Hid (RowO w1 9 1 v' (m + 1) (ss ++ [.string b]) ∧ Loc z (.slice ad m cap) v' ∧ Far (fun k => (Value.slice ad m cap).ownBlock = some k) z w1) := by
    intro ob v' w1 h1 h2
    obtain ⟨ad2, cap2, hv2, _⟩ := h1.shape
    have hFz : Far (fun k => (Value.slice ad m cap).ownBlock = some k) z w1 := (far_below (E := fun k => (Value.slice ad m cap).ownBlock = some k) ((Below.refl _ _).alloc (Nat.le_refl _) ob)).trans (far_grown h2.grown) (fun _ _ h => h)
    have hne : (Value.slice ad m cap).ownBlock ≠ some p := by
     rw [hm]
     exact hrz.ne (unhide HPK).ks.blk (by decide)
    have hpb := hFz.blk (unhide HPK).ks.blk hne
    refine ⟨ad2, cap2, hv2, ?_, blk_free (i := 2 + i * 3) hpb, hide ⟨h1, loc_app (w := z) (by simp) h2, hFz⟩⟩
    rw [blk_cell hpb, (unhide HPK).ks.al i hi, hm]
    exact congrArg some (unhide HLV)
   clear hrz hm hss
   go_upto_region 6 with (at_builtin; refine wpList_app_o rfl (.tmp 33) (.tmp 35) 45 rfl 9 _ 1 16 Tryz.underlying45 infoStr rfl _ m ss (unhide (hra _)) rfl ⟨z.heap.size, 0, none⟩ 1 1 [.string b] rfl rfl cells_new (by intro u hu; simp at hu; subst hu; rfl) (by omega) (by omega) (by omega) ?_; intro v' w1 h1 h2; obtain ⟨ad2, cap2, rfl, z1, zf, HA⟩ := HAPP _ _ _ h1 h2; clear h1 h2; go_simp)
   go_wp2
   go_ret
   obtain ⟨A1, A2, A3⟩ := unhide HA
   obtain ⟨q1, q2⟩ := unhide HM
   have hlvi : c.lv i = .slice ad m cap := by rw [q1]; exact unhide HLV
   refine ⟨rfl, (unhide HMK) _ _ _ _ (ksAt_log (unhide HPK).ks i hi b _ ?_ ?_ ?_ ?_) ?_ ?_⟩
   ·show Far (fun k => (c.lv i).ownBlock = some k) z w1
    rw [hlvi]; exact A3
   ·rw [← q1, show strs (logs i ++ [b]) = ss ++ [.string b] by rw [q2]; simp [strs]]
    exact A1
   ·show Loc z (c.lv i) _
    rw [hlvi]; exact A2
   ·rw [← (unhide HEQ).1]; exact hroom
   ·rw [hlvi]
    exact (A3.mono (fun _ _ h => .inr h)).trans (far_set w1 p (2 + i * 3) _) (fun _ _ h => .inl h)
   ·intro j hj
    show Loc z (c.lv j) (if j = i then _ else c.lv j)
    by_cases hji : j = i
    ·rw [if_pos hji, hji, hlvi]; exact A2
    ·rw [if_neg hji]; exact .inr (.inl rfl)
  ·have hne : (ee == 0) = false := by simpa using h0
   have HMK := hide (hmk logs z c.arr c.lv (unhide HPK).ks (Far.refl _ _) (fun _ _ => .inr (.inl rfl)))
   clear hmk
   go_wp2
   go_ret
   exact ⟨rfl, unhide HMK⟩
end Go.Proofs.YtamafdcnbcoegaaGreat
namespace Go.Proofs.YtamafdcnbcoegaaGreat
open Go.RowKit
def delL : List (Nat × Value) → Nat → List (Nat × Value)
 | [], _ => []
 | x :: r, n => if x.1 = n then r else x :: delL r n
theorem delL_sub : ∀ (l : List (Nat × Value)) (n : Nat), (delL l n).Sublist l
 | [], _ => List.Sublist.refl _
 | x :: r, n => by
  unfold delL
  split
  ·exact List.sublist_cons_self _ _
  ·exact (delL_sub r n).cons_cons _
theorem delL_look {l : List (Nat × Value)} (hs : (l.map (·.1)).Pairwise (· < ·)) (n : Nat) : look (delL l n) = delF (look l) n := by
 induction l with
 | nil => funext k; simp [delL, look, delF]
 | cons x r ih =>
  rw [List.map_cons, List.pairwise_cons] at hs
  unfold delL
  split
  ·rename_i h
   subst h
   exact (del_look (fun y hy => hs.1 y.1 (List.mem_map.2 ⟨y, hy, rfl⟩))).symm
  ·rename_i h
   funext k
   have := congrFun (ih hs.2) k
   unfold delF at this ⊢
   rw [look_cons, look_cons, this]
   by_cases h1 : k = (x.1 : Int)
   ·rw [if_pos h1, if_pos h1, if_neg (by omega)]
   ·rw [if_neg h1, if_neg h1]
theorem delL_keys {l : List (Nat × Value)} (hs : (l.map (·.1)).Pairwise (· < ·)) {n : Nat} (hc : (l.map (·.1)).contains n = true) :
  (delL l n).map (·.1) = (l.map (·.1)).take ((l.map (·.1)).countP (· < n)) ++ (l.map (·.1)).drop ((l.map (·.1)).countP (· < n) + 1) := by
 induction l with
 | nil => simp at hc
 | cons x r ih =>
  have hs0 := hs
  rw [List.map_cons, List.pairwise_cons] at hs
  unfold delL
  split
  ·rename_i h
   subst h
   have hz : (r.map (·.1)).countP (· < x.1) = 0 := countP_zero_of (fun y hy => by have := hs.1 y hy; omega)
   rw [List.map_cons, List.countP_cons, hz]
   simp
  ·rename_i h
   have hc2 : (r.map (·.1)).contains n = true := by
    rw [List.map_cons, List.contains_cons] at hc
    have hne : (n == x.1) = false := by simp; omega
    rw [hne, Bool.false_or] at hc
    exact hc
   have hlt : x.1 < n := by
    have : n ∈ r.map (·.1) := by simpa using hc2
    exact hs.1 n this
   rw [List.map_cons, ih hs.2 hc2, List.map_cons, List.countP_cons]
   simp [hlt]
theorem takeS_none {w : World} {p o : Nat} {t : TypeId} {arr : Array Value} {nv mv : Value} {l : List (Nat × Value)} (S : ShAt w p o t arr nv mv l) (n : Nat) (hn : look l n = none) :
  Calls Tryz.prog 223 #[.pointer (some ⟨p, o, none⟩), .int .i64 n] w fun e w' => e = .returned (.tuple #[zeroS, .bool false]) ∧ Below w.heap.size w w' := by
 have hpl := lt_of_block S.blk
 have c1 : ∀ ob, (w.alloc ob).cell? ⟨p, o + 1, none⟩ = some mv := fun ob => (World.cell?_alloc_lt w _ ⟨p, o + 1, none⟩ hpl).trans ((blk_cell S.blk).trans S.c1)
 have hrun := fun ob => (run_lookup_i (P := Tryz.prog) (w := w.alloc ob) (t := 168) Tryz.underlying168 Tryz.underlying3 (zero_S _) (S.sh.map.keep (fun g hg => hao _ _ (S.sh.lt g (.inr hg)))) n).1
 rw [hn] at hrun
 simp only [Option.getD_none, Option.isSome_none, zeroS] at hrun ⊢
 clear S hn
 go_enter Tryz.func223, Tryz.ntmps223
 go_wp2
 refine bodyPost_ret (v := .tuple #[.agg #[.string ⟨#[]⟩], .bool false]) (by simp [results, Tryz.results223, go_sem]) rfl ⟨rfl, ?_⟩
 exact ((Below.refl _ _).alloc (Nat.le_refl _) _).alloc (by simp) _
set_option maxRecDepth 100000 in
set_option maxHeartbeats 1000000 in
theorem takeS_some {w : World} {p o : Nat} {t : TypeId} {arr : Array Value} {nv mv : Value} {l : List (Nat × Value)} (S : ShAt w p o t arr nv mv l) (n : Nat) (b : ByteArray) (hn : look l n = some (recS b)) :
  Calls Tryz.prog 223 #[.pointer (some ⟨p, o, none⟩), .int .i64 n] w fun e w' => e = .returned (.tuple #[recS b, .bool true]) ∧ ShTook w w' p o t arr nv mv (delL l n) := by
 have h0s : o < arr.size := (Array.getElem?_eq_some_iff.1 S.c0).1
 have h1s : o + 1 < arr.size := (Array.getElem?_eq_some_iff.1 S.c1).1
 have hpl := lt_of_block S.blk
 have hc : (l.map (·.1)).contains n = true := by
  obtain ⟨x, hx, h1, _⟩ := look_mem hn
  have : x.1 = n := by omega
  simp only [List.contains_eq_mem, decide_eq_true_eq]
  exact List.mem_map.2 ⟨x, hx, this⟩
 have hlen0 : l.length ≤ 1000 := S.sh.len
 have hcnt : (l.map (·.1)).countP (· < n) + 1 ≤ (l.map (·.1)).length := by
  have h1 : (l.map (·.1)).countP (· < n) ≠ (l.map (·.1)).length := by
   intro e
   have h2 := List.countP_eq_length.1 e n (by simpa using hc)
   simp at h2
  have h2 : (l.map (·.1)).countP (· < n) ≤ (l.map (·.1)).length := List.countP_le_length
  omega
 obtain ⟨mb, rfl, hM⟩ : ∃ mb, mv = .map (some mb) ∧ MapAt w mb (look l) := by
  rcases S.sh.map with ⟨_, h⟩ | ⟨mb, h1, h2⟩
  ·rw [h] at hn; cases hn
  ·exact ⟨mb, h1, h2⟩
 have hmb := hM.lt
 have hmp : p ≠ mb := fun e => hM.not_cells (by rw [← e]; exact S.blk)
 have hnm := S.sh.nums.notMap hM
 have hnp : nv.ownBlock ≠ some p := fun e => S.sh.ne S.blk S.ty (.inl e)
 obtain ⟨ad, cap, hnv, _⟩ := (RowO.of_own S.sh.nums).shape
 rw [List.length_map] at hnv
 have c1 : ∀ ob, (w.alloc ob).cell? ⟨p, o + 1, none⟩ = some (.map (some mb)) := fun ob => (World.cell?_alloc_lt w _ ⟨p, o + 1, none⟩ hpl).trans ((blk_cell S.blk).trans S.c1)
 have hrun := fun ob => (run_lookup_i (P := Tryz.prog) (w := w.alloc ob) (t := 168) Tryz.underlying168 Tryz.underlying3 (zero_S _) (S.sh.map.keep (fun g hg => hao _ _ (S.sh.lt g (.inr hg)))) n).1
 rw [hn] at hrun
 simp only [Option.getD_some, Option.isSome_some, recS] at hrun ⊢
 have HS := hide S
 have HN := hide hn
 have HC := hide hc
 have HNV := hide hnv
 clear S hn hM hc hnv
 go_enter Tryz.func223, Tryz.ntmps223
 go_upto_region 3 with fail
 refine wp_world (fun x => x.heap[w.heap.size]? = some (.cells #[.string ⟨#[]⟩] 235 (0, 0)) ∧ x.heap[w.heap.size + 1]? = some (.cells #[.string b] 235 (0, 0)) ∧ Below w.heap.size w x) (alloc2 _ _ _) ?_
 rintro x ⟨h0, h1, hB⟩
 have S1 : ShAt x p o t arr nv (.map (some mb)) l := by
  have S := unhide HS
  exact ⟨(hB.block _ hpl).trans S.blk, S.c0, S.c1, S.sh.far (far_below (E := fun _ => False) hB) (fun _ _ h => h), S.ty⟩
 have d0 : x.cell? ⟨p, o, none⟩ = some nv := (blk_cell S1.blk).trans S1.c0
 have hx := hB.size
 have hzx := lt_of_block h1
 obtain ⟨k, hk⟩ : ∃ k, k = (l.map (·.1)).countP (· < n) := ⟨_, rfl⟩
 have hsearch := hide (search_any S1.sh.nums S1.sh.sorted (by rw [List.length_map]; omega) n)
 rw [← hk, unhide HC] at hsearch
 rw [← hk] at hcnt
 have hdel := fun q => hide (delete_any (w := x.drewN q) S1.sh.nums k (k + 1) (by omega) hcnt)
 have hkeys := delL_keys S1.sh.sorted (unhide HC)
 rw [← hk] at hkeys
 rw [← hkeys] at hdel
 have HK := hide (And.intro hk hkeys)
 have H0 := hide h0
 have H1 := hide h1
 have HB := hide hB
 have HS1 := hide S1
 have hki : IntKind.i64.wrap ((k : Int) + 1) = (k : Int) + 1 := by rw [IntKind.wrap_i64]; rw [List.length_map] at hcnt; omega
 have hkc : ((k : Nat) : Int) + 1 = ((k + 1 : Nat) : Int) := by omega
 obtain ⟨k1, hk1⟩ : ∃ k1, k1 = k + 1 := ⟨_, rfl⟩
 rw [← hk1] at hdel hkc
 rw [hkc] at hki
 clear h0 h1 hB S1 c1 hrun hk hkeys hk1 hcnt
 go_upto_region 4 with (go_at_call 132; refine (unhide hsearch).mono ?_; rintro e y ⟨rfl, q, rfl⟩)
 have d0' : (x.drewN q).cell? ⟨p, o, none⟩ = some nv := d0
 have HD := hide (hdel q)
 have HDZ : ∀ z nv', NumsAt z nv' ((delL l n).map (·.1)) → Far (fun g => nv.ownBlock = some g) (x.drewN q) z → nv'.ownBlock = nv.ownBlock → ∃ ad2 n2 cap2, nv' = .slice ad2 n2 cap2 ∧ z.cell? ⟨p, o, none⟩ = some nv ∧ z.frozen? ⟨p, o, none⟩ = false ∧ z.cell? ⟨p, o + 1, none⟩ = some (.map (some mb)) ∧
   Hid (NumsAt z nv' ((delL l n).map (·.1)) ∧ Far (fun g => nv.ownBlock = some g) x z ∧ nv'.ownBlock = nv.ownBlock ∧ z.heap[p]? = some (.cells arr t (0, 0))) := by
  intro z nv' N' hF' hown
  obtain ⟨ad2, cap2, h2, _⟩ := (RowO.of_own N').shape
  have hFx : Far (fun g => nv.ownBlock = some g) x z := (far_below (E := fun g => nv.ownBlock = some g) (below_drewN (Below.refl _ _) q)).trans hF' (fun _ _ h => h)
  have hpb := hFx.blk (unhide HS1).blk hnp
  exact ⟨ad2, _, cap2, h2, (blk_cell hpb).trans (unhide HS1).c0, by simp [World.frozen?, hpb], (blk_cell hpb).trans (unhide HS1).c1, hide ⟨N', hFx, hown, hpb⟩⟩
 clear d0 hdel hsearch
 go_upto_region 5 with (go_at_call 221; refine (unhide (unhide HD)).mono ?_; rintro e z ⟨nv', rfl, N', hF', hown⟩; obtain ⟨ad2, n2, cap2, rfl, z0, zf, z1, HZ⟩ := HDZ _ _ N' hF' hown; clear N' hF' hown)
 obtain ⟨vv, hvv⟩ : ∃ vv, vv = Value.slice ad2 n2 cap2 := ⟨_, rfl⟩
 rw [← hvv] at HZ ⊢
 refine wp_world (fun Y => Y.heap[p]? = some (.cells (arr.setIfInBounds o vv) t (0, 0)) ∧ NumsAt Y vv ((delL l n).map (·.1)) ∧ MapAt Y mb (look l) ∧ Far (fun g => g = p ∨ nv.ownBlock = some g) x Y) ?_ ?_
 ·obtain ⟨N', hF', hown, hpb⟩ := unhide HZ
  have hfs := far_set z p o vv
  have hFY : Far (fun g => g = p ∨ nv.ownBlock = some g) x (z.setCell ⟨p, o, none⟩ vv) := (hF'.mono (fun _ _ h => .inr h)).trans hfs (fun _ _ h => .inl h)
  refine ⟨blk_set hpb, N'.keep (fun g hg => hfs.rest g (World.ownsRow.lt N' g hg).2 (fun e => hnp (by rw [← hown, hg, e]))), ?_, hFY⟩
  have hM : MapAt x mb (look l) := by
   rcases (unhide HS1).sh.map with ⟨h, _⟩ | ⟨mb', h1, h2⟩
   ·cases h
   ·cases h1; exact h2
  exact hM.keep (hFY.rest mb hM.lt (fun e => e.elim (fun e => hmp e.symm) (fun e => hnm e)))
 have hvown : vv.ownBlock = nv.ownBlock := (unhide HZ).2.2.1
 clear z0 zf z1 HZ HDZ HD hvv
 rintro Y ⟨hYp, hYn, hYm, hYF⟩
 have e1 : Y.cell? ⟨p, o + 1, none⟩ = some (.map (some mb)) := by
  rw [blk_cell hYp, Array.getElem?_setIfInBounds_ne (by omega)]
  exact (unhide HS).c1
 obtain ⟨ob, hU, hM1⟩ := run_delete_i (P := Tryz.prog) (w := Y) (t := 168) (K' := 3) Tryz.underlying168 Tryz.underlying3 hYm n
 have hU2 := fun ty => hU ty Y rfl
 have hyx := hYF.size
 have hmY := hYm.lt
 have HYP := hide hYp
 have HYN := hide hYn
 have HYM := hide hM1
 have HYM0 := hide hYm
 have HYF := hide hYF
 clear hYp hYn hYm hYF hU hM1
 go_upto_region 6 with fail
 have hnvl : ∀ g, nv.ownBlock = some g → g < w.heap.size := fun g hg => (unhide HS).sh.lt g (.inl hg)
 refine wp_world (fun Z => Z.heap[p]? = some (.cells (arr.setIfInBounds o vv) t (0, 0)) ∧ NumsAt Z vv ((delL l n).map (·.1)) ∧ MapAt Z mb (delF (look l) n) ∧ Far (fun g => (g = p ∨ nv.ownBlock = some g) ∨ g = mb) x Z ∧ Z.heap[w.heap.size]? = some (.cells #[.string ⟨#[]⟩] 235 (0, 0)) ∧ Z.heap[w.heap.size + 1]? = some (.cells #[.string b] 235 (0, 0))) ?_ ?_
 ·have hfb := far_block (w := Y) mb ob
  have hF := (unhide HYF).mono (E' := fun g => (g = p ∨ nv.ownBlock = some g) ∨ g = mb) (fun _ _ h => .inl h) |>.trans hfb (fun _ _ h => .inr h)
  have hfr : ∀ g, w.heap.size ≤ g → ¬ ((g = p ∨ nv.ownBlock = some g) ∨ g = mb) := by
   rintro g hg ((h | h) | h)
   ·omega
   ·have := hnvl g h; omega
   ·omega
  refine ⟨hfb.blk (unhide HYP) hmp, (unhide HYN).keep (fun g hg => hfb.rest g (World.ownsRow.lt (unhide HYN) g hg).2 ?_), unhide HYM, hF, hF.blk (unhide H0) (hfr _ (Nat.le_refl _)), hF.blk (unhide H1) (hfr _ (by omega))⟩
  rintro rfl
  obtain ⟨cur, hc⟩ : ∃ cur, Y.heap[g]? = some (.cells cur 3 (0, 0)) := by
   rcases (unhide HYN).cases with ⟨e, _⟩ | ⟨g', cap', cur', e, hh, _⟩
   ·rw [e] at hg; cases hg
   ·rw [e] at hg; cases hg; exact ⟨_, hh⟩
  exact (unhide HYM0).not_cells hc
 rintro Z ⟨hZp, hZn, hZm, hZF, hZ0, hZ1⟩
 have f0 : Z.cell? ⟨w.heap.size, 0, none⟩ = some (.string ⟨#[]⟩) := blk_cell (i := 0) hZ0
 have f1 : Z.cell? ⟨w.heap.size + 1, 0, none⟩ = some (.string b) := blk_cell (i := 0) hZ1
 have ff : Z.frozen? ⟨w.heap.size, 0, none⟩ = false := blk_free (i := 0) hZ0
 have HZP := hide hZp
 have HZN := hide hZn
 have HZM := hide hZm
 have HZF := hide hZF
 clear hZp hZn hZm hZF hZ0 hZ1 HYP HYN HYM HYF hU2 e1
 go_wp2
 refine bodyPost_ret (v := .tuple #[.agg #[.string b], .bool true]) (by simp [results, Tryz.results223, go_sem, f0]) rfl ⟨rfl, ?_⟩
 have hfs := far_set Z w.heap.size 0 (.string b)
 have S := unhide HS
 have hnp2 : p ≠ w.heap.size := by omega
 refine ⟨⟨vv, ⟨hfs.blk (unhide HZP) hnp2, by simp [h0s], by rw [Array.getElem?_setIfInBounds_ne (by omega)]; exact S.c1, ⟨(unhide HZN).keep (fun g hg => hfs.rest g (World.ownsRow.lt (unhide HZN) g hg).2 (fun e => ?_)), .inr ⟨mb, rfl, ?_⟩, ?_, ?_⟩, S.ty⟩, hvown⟩, ?_⟩
 ·rw [hvown] at hg
  have := hnvl g hg
  omega
 ·rw [delL_look S.sh.sorted n]
  exact (unhide HZM).keep (hfs.rest mb (unhide HZM).lt (by omega))
 ·exact S.sh.sorted.sublist ((delL_sub l n).map _)
 ·exact Nat.le_trans (delL_sub l n).length_le S.sh.len
 ·have hF1 : Far (fun k => k = p ∨ ShU nv (.map (some mb)) k) w Z := (far_below (E := fun k => k = p ∨ ShU nv (.map (some mb)) k) (unhide HB)).trans (unhide HZF) (fun k _ h => by
   rcases h with (h | h) | h
   ·exact .inl h
   ·exact .inr (.inl h)
   ·exact .inr (.inr (by rw [h]; rfl)))
  exact hF1.trans hfs (fun k hk h => by omega)
end Go.Proofs.YtamafdcnbcoegaaGreat
namespace Go.Proofs.YtamafdcnbcoegaaGreat
def OnSh (held : List (Nat × Nat × ByteArray)) (sh : Nat → List (Nat × Value)) : Prop := ∀ s, s < 3 → ∀ (q : Nat) (b : ByteArray), look (sh s) (q : Int) = some (recS b) ↔ (s, q, b) ∈ held
structure SkMore (a : Mod.Sk) : Prop where
 bod : ∀ h ∈ a.held, h.2.2.size ≤ 20
 nxt : a.count < 120 → ∀ s, s < 3 → ∀ b, (s, (a.logs s).length + 1, b) ∉ a.held
theorem ixFrom_mem {st q : Nat} : ∀ {l : List (Nat × Nat × ByteArray)} {i k : Nat}, Mod.ixFrom st q i l = some k → ∃ (h : k - i < l.length), l[k - i].1 = st ∧ l[k - i].2.1 = q ∧ i ≤ k
 | [], _, _, h => by simp [Mod.ixFrom] at h
 | x :: l, i, k, h => by
  rw [Mod.ixFrom] at h
  split at h
  ·rename_i hx
   injection h with h
   subst h
   simpa using hx
  ·obtain ⟨h1, h2, h3, h4⟩ := ixFrom_mem h
   have e : k - i = (k - (i + 1)) + 1 := by omega
   simp only [e]
   exact ⟨by simp; omega, by simpa using h2, by simpa using h3, by omega⟩
theorem ixFrom_none_mem {st q : Nat} : ∀ {l : List (Nat × Nat × ByteArray)} {i : Nat}, Mod.ixFrom st q i l = none → ∀ b, (st, q, b) ∉ l
 | [], _, _ => by simp
 | x :: l, i, h => by
  rw [Mod.ixFrom] at h
  split at h
  ·cases h
  ·rename_i hx
   intro b hb
   cases hb with
   | head => exact hx ⟨rfl, rfl⟩
   | tail _ hb => exact ixFrom_none_mem h b hb
theorem ix_some {a : Mod.Sk} {st q i : Nat} (h : a.ix st q = some i) : (st, q, (a.held.getD i (0, 0, ⟨#[]⟩)).2.2) ∈ a.held := by
 obtain ⟨h1, h2, h3, h4⟩ := ixFrom_mem h
 simp only [Nat.sub_zero] at h1 h2 h3
 rw [List.getD_eq_getElem?_getD, List.getElem?_eq_getElem h1, Option.getD_some]
 have := List.getElem_mem h1
 rw [show (st, q, a.held[i].2.2) = a.held[i] by rw [← h2, ← h3]]
 exact this
theorem ix_none {a : Mod.Sk} {st q : Nat} (h : a.ix st q = none) : ∀ b, (st, q, b) ∉ a.held := ixFrom_none_mem h
theorem once_body {a : Mod.Sk} (G : SkGood a) {s q : Nat} {b b' : ByteArray} (h : (s, q, b) ∈ a.held) (h' : (s, q, b') ∈ a.held) : b = b' := by
 have hn := G.once
 have : ∀ (l : List (Nat × Nat × ByteArray)), (l.map fun h => (h.1, h.2.1)).Nodup → (s, q, b) ∈ l → (s, q, b') ∈ l → b = b' := by
  intro l
  induction l with
  | nil => intro _ h; cases h
  | cons x r ih =>
   intro hn h h'
   rw [List.map_cons, List.nodup_cons] at hn
   cases h with
   | head =>
    cases h' with
    | head => rfl
    | tail _ h' => exact absurd (List.mem_map.2 ⟨_, h', rfl⟩) hn.1
   | tail _ h =>
    cases h' with
    | head => exact absurd (List.mem_map.2 ⟨_, h, rfl⟩) hn.1
    | tail _ h' => exact ih hn.2 h h'
 exact this a.held hn h h'
structure InCm (a : Mod.Sk) (s q : Nat) (b : ByteArray) (out : List ByteArray) (sh : Nat → List (Nat × Value)) : Prop where
 on : ∀ t, t < 3 → ∀ (n : Nat) (c : ByteArray), look (sh t) (n : Int) = some (recS c) ↔ ((t, n, c) ∈ a.held ∧ (t = s → (a.logs s).length + out.length < n))
 are : ∀ t, t < 3 → AreS (sh t)
 pos : 0 < out.length
 len : a.count + out.length ≤ 120
 run : a.commitFrom s q a.count (121 - out.length) out = a.commitFrom s q a.count 120 [b]
 bod : ∀ c ∈ out, c.size ≤ 20
theorem inCm_start {a : Mod.Sk} {sh : Nat → List (Nat × Value)} (G : SkGood a) (M : SkMore a) (O : OnSh a.held sh) (A : ∀ t, t < 3 → AreS (sh t)) (s : Nat) (b : ByteArray) (hs : s < 3) (hb : b.size ≤ 20) (hroom : a.count < 120) : InCm a s ((a.logs s).length + 1) b [b] sh := by
 refine ⟨fun t ht n c => ?_, A, by simp, by simp; omega, by simp, by simpa using hb⟩
 rw [O t ht n c]
 constructor
 ·intro h
  refine ⟨h, fun e => ?_⟩
  subst e
  have h1 := (G.held _ h).2.1
  have h2 := M.nxt hroom t ht c
  simp only [List.length_singleton] at h1 ⊢
  rcases Nat.lt_or_ge ((a.logs t).length + 1) n with h3 | h3
  ·exact h3
  ·have : n = (a.logs t).length + 1 := by omega
   subst this
   exact absurd h h2
 ·exact fun h => h.1
theorem inCm_next {a : Mod.Sk} {s : Nat} {b : ByteArray} {out : List ByteArray} {sh : Nat → List (Nat × Value)} (G : SkGood a) (M : SkMore a) (hs : s < 3) (I : InCm a s ((a.logs s).length + 1) b out sh) (hroom : a.count + out.length < 120) {c : ByteArray} (hsort : ((sh s).map (·.1)).Pairwise (· < ·))
  (hl : look (sh s) (((a.logs s).length + out.length + 1 : Nat) : Int) = some (recS c)) :
  InCm a s ((a.logs s).length + 1) b (out ++ [c]) (fun t => if t = s then delL (sh s) ((a.logs s).length + out.length + 1) else sh t) := by
 have hm := ((I.on s hs _ c).1 hl).1
 refine ⟨fun t ht n d => ?_, fun t ht => ?_, by simp, by simp; omega, ?_, ?_⟩
 ·by_cases e : t = s
  ·subst e
   rw [if_pos rfl, delL_look hsort]
   unfold delF
   by_cases h1 : (n : Int) = (((a.logs t).length + out.length + 1 : Nat) : Int)
   ·rw [if_pos h1]
    simp
    intro _
    omega
   ·rw [if_neg h1, I.on t ht n d]
    simp
    intro _
    omega
  ·rw [if_neg e, I.on t ht n d]
   simp [e]
 ·show AreS (if t = s then _ else sh t)
  by_cases e : t = s
  ·rw [if_pos e]
   exact fun x hx => I.are s hs x ((delL_sub _ _).subset hx)
  ·rw [if_neg e]
   exact I.are t ht
 ·rw [← I.run]
  have hlen : (out ++ [c]).length = out.length + 1 := by simp
  rw [hlen]
  have hf : 121 - out.length = (121 - (out.length + 1)) + 1 := by have := I.len; omega
  rw [hf]
  have hq : (a.logs s).length + 1 + out.length = (a.logs s).length + out.length + 1 := by omega
  cases hi : a.ix s ((a.logs s).length + 1 + out.length) with
  | none =>
   have := ix_none hi c
   rw [hq] at this
   exact absurd hm this
  | some i =>
   rw [Mod.Sk.commitFrom_some hroom hi]
   have h2 := ix_some hi
   rw [hq] at h2
   rw [once_body G hm h2]
 ·intro d hd
  rw [List.mem_append, List.mem_singleton] at hd
  rcases hd with hd | rfl
  ·exact I.bod d hd
  ·exact M.bod _ hm
theorem inCm_stop {a : Mod.Sk} {s : Nat} {b : ByteArray} {out : List ByteArray} {sh : Nat → List (Nat × Value)} (hs : s < 3) (I : InCm a s ((a.logs s).length + 1) b out sh)
  (h : ¬ a.count + out.length < 120 ∨ look (sh s) (((a.logs s).length + out.length + 1 : Nat) : Int) = none) : out = a.commitFrom s ((a.logs s).length + 1) a.count 120 [b] := by
 rw [← I.run]
 rcases h with h | h
 ·exact (Mod.Sk.commitFrom_stop h).symm
 ·by_cases hr : a.count + out.length < 120
  ·refine (Mod.Sk.commitFrom_none hr ?_).symm
   cases hi : a.ix s ((a.logs s).length + 1 + out.length) with
   | none => rfl
   | some i =>
    have h2 := ix_some hi
    rw [show (a.logs s).length + 1 + out.length = (a.logs s).length + out.length + 1 by omega] at h2
    have := (I.on s hs _ _).2 ⟨h2, fun _ => by omega⟩
    rw [h] at this
    cases this
  ·exact (Mod.Sk.commitFrom_stop hr).symm
theorem inCm_on {a : Mod.Sk} {s : Nat} {b : ByteArray} {out : List ByteArray} {sh : Nat → List (Nat × Value)} (I : InCm a s ((a.logs s).length + 1) b out sh) : OnSh (takeIt a s out).held sh := by
 intro t ht n c
 rw [I.on t ht n c]
 show _ ↔ _ ∈ (a.held.filter (Mod.keeps s (a.logs s ++ out).length))
 rw [List.mem_filter, List.length_append]
 unfold Mod.keeps
 by_cases e : t = s
 ·subst e; simp
 ·simp [e]
end Go.Proofs.YtamafdcnbcoegaaGreat
namespace Go.Proofs.YtamafdcnbcoegaaGreat
open Go.RowKit
section
variable {w x y : World} {p e e2 : Nat} {logs logs2 : Nat → List ByteArray} {sh sh2 : Nat → List (Nat × Value)} {st st2 : Mod.Stv} {c : Sv}
theorem pkStep_refl (H : PkAt w p e logs sh st c) : PkStep w w p e logs sh st c := ⟨c, H, Far.refl _ _, fun _ h => .inl h, rfl, rfl⟩
theorem PkStep.trans (h : PkStep w x p e logs sh st c) (h' : ∀ c', PkAt x p e logs sh st c' → PkStep x y p e2 logs2 sh2 st2 c') : PkStep w y p e2 logs2 sh2 st2 c := by
 obtain ⟨c1, h1, h2, h3, h4, h5⟩ := h
 obtain ⟨c2, k1, k2, k3, k4, k5⟩ := h' c1 h1
 refine ⟨c2, k1, h2.trans k2 (fun k hk hu => (h3 k hu).elim id (fun h => by omega)), fun k hk => ?_, k4.trans h4, k5.trans h5⟩
 rcases k3 k hk with h | h
 ·exact h3 k h
 ·exact .inr (Nat.le_trans h2.size h)
theorem PkStep.below (h : PkStep w x p e logs sh st c) (hb : Below x.heap.size x y) : PkStep w y p e logs sh st c :=
 h.trans (fun c' H => ⟨c', H.far (far_below (E := fun _ => False) hb) (fun _ _ h => h), far_below hb, fun _ h => .inl h, rfl, rfl⟩)
theorem PkAt.shAt (H : PkAt w p e logs sh st c) {i : Nat} (hi : i < 3) : ShAt w p (2 + i * 3 + 1) 176 c.arr (c.nv i) (c.mv i) (sh i) :=
 ⟨H.ks.blk, H.ks.an i hi, H.ks.am i hi, H.ks.shs i hi, by decide⟩
theorem pkAt_sh (H : PkAt w p e logs sh st c) {i : Nat} (hi : i < 3) {l' : List (Nat × Value)} {nv' mv' : Value} (S : ShAt x p (2 + i * 3 + 1) 176 ((c.arr.setIfInBounds (2 + i * 3 + 1) nv').setIfInBounds (2 + i * 3 + 1 + 1) mv') nv' mv' l') (hn : Loc w (c.nv i) nv')
  (hm : mapBlock mv' = mapBlock (c.mv i) ∨ ∃ g, mapBlock mv' = some g ∧ w.heap.size ≤ g) (hF : Far (fun k => k = p ∨ ShU (c.nv i) (c.mv i) k) w x) (A : AreS l') :
  PkAt x p e logs (fun t => if t = i then l' else sh t) st { c with arr := (c.arr.setIfInBounds (2 + i * 3 + 1) nv').setIfInBounds (2 + i * 3 + 1 + 1) mv', nv := fun t => if t = i then nv' else c.nv t, mv := fun t => if t = i then mv' else c.mv t } ∧
   (∀ k, ShU nv' mv' k → ShU (c.nv i) (c.mv i) k ∨ w.heap.size ≤ k) := by
 have hFU : ∀ k, (k = p ∨ ShU (c.nv i) (c.mv i) k) → KsU p c.lv c.nv c.mv k := fun k hk => hk.elim .inl (fun h => .inr (.inr ⟨i, hi, h⟩))
 have hst := H.stt.far hF (fun k hk h => H.sep k (hFU k h) hk)
 have hrl := H.rl.far hF (fun g hg h => (H.sepr g hg).1 (hFU g h))
 have hsz := H.ks.sz
 have hget : ∀ j, j ≠ 2 + i * 3 + 1 → j ≠ 2 + i * 3 + 2 → ((c.arr.setIfInBounds (2 + i * 3 + 1) nv').setIfInBounds (2 + i * 3 + 1 + 1) mv')[j]? = c.arr[j]? := fun j h1 h2 => by
  rw [Array.getElem?_setIfInBounds_ne (by omega), Array.getElem?_setIfInBounds_ne (by omega)]
 have hnew : ∀ k, ShU nv' mv' k → ShU (c.nv i) (c.mv i) k ∨ w.heap.size ≤ k := by
  rintro k (hk | hk)
  ·rcases hn with h | h | ⟨g, h, hg⟩
   ·rw [h] at hk; cases hk
   ·exact .inl (.inl (by rw [← h]; exact hk))
   ·rw [h] at hk; cases hk; exact .inr hg
  ·rcases hm with h | ⟨g, h, hg⟩
   ·exact .inl (.inr (by rw [← h]; exact hk))
   ·rw [h] at hk; cases hk; exact .inr hg
 refine ⟨⟨⟨S.blk, by simpa using hsz, ?_, ?_, ?_, ?_, ?_, ?_, ?_, ?_, ?_, H.ks.apl, ?_, H.ks.cnt, H.ks.ep⟩, hst, hrl, H.len⟩, hnew⟩
 ·rw [hget _ (by omega) (by omega)]; exact H.ks.a0
 ·rw [hget _ (by omega) (by omega)]; exact H.ks.a1
 ·intro j hj; rw [hget _ (by omega) (by omega)]; exact H.ks.al j hj
 ·intro j hj
  show _ = some (if j = i then nv' else c.nv j)
  by_cases e : j = i
  ·subst e; rw [if_pos rfl]; exact S.c0
  ·rw [if_neg e, hget _ (by omega) (by omega)]; exact H.ks.an j hj
 ·intro j hj
  show _ = some (if j = i then mv' else c.mv j)
  by_cases e : j = i
  ·subst e; rw [if_pos rfl]; exact S.c1
  ·rw [if_neg e, hget _ (by omega) (by omega)]; exact H.ks.am j hj
 ·rw [hget _ (by omega) (by omega)]; exact H.ks.ar
 ·intro j hj
  refine (H.ks.lgs j hj).far hF (fun g hg h => ?_)
  obtain ⟨cur, hc⟩ := row_cells (H.ks.lgs j hj) hg
  rcases h with h | h
  ·exact (H.ks.lgs j hj).ne H.ks.blk (by decide) (by rw [hg, h])
  ·exact (H.ks.shs i hi).ne hc (by decide) h
 ·intro j hj
  show ShelfIs x (if j = i then nv' else c.nv j) (if j = i then mv' else c.mv j) (if j = i then l' else sh j)
  by_cases e : j = i
  ·rw [if_pos e, if_pos e, if_pos e]; exact S.sh
  ·rw [if_neg e, if_neg e, if_neg e]
   refine (H.ks.shs j hj).far hF (fun k hk h => ?_)
   rcases h with h | h
   ·exact (H.ks.shs j hj).ne H.ks.blk (by decide) (by rw [← h]; exact hk)
   ·exact H.ks.aps j i hj hi e k hk h
 ·intro j hj
  show AreS (if j = i then l' else sh j)
  by_cases e : j = i
  ·rw [if_pos e]; exact A
  ·rw [if_neg e]; exact H.ks.are j hj
 ·intro j j2 hj hj2 hne k hk
  replace hk : ShU (if j = i then nv' else c.nv j) (if j = i then mv' else c.mv j) k := hk
  show ¬ ShU (if j2 = i then nv' else c.nv j2) (if j2 = i then mv' else c.mv j2) k
  by_cases h1 : j = i
  ·subst h1
   rw [if_pos rfl, if_pos rfl] at hk
   rw [if_neg (fun e => hne e.symm), if_neg (fun e => hne e.symm)]
   intro hk2
   rcases hnew k hk with h | h
   ·exact H.ks.aps j j2 hj hj2 hne k h hk2
   ·have := (H.ks.shs j2 hj2).lt k hk2; omega
  ·rw [if_neg h1, if_neg h1] at hk
   by_cases h2 : j2 = i
   ·subst h2
    rw [if_pos rfl, if_pos rfl]
    intro hk2
    rcases hnew k hk2 with h | h
    ·exact H.ks.aps j j2 hj hj2 hne k hk h
    ·have := (H.ks.shs j hj).lt k hk; omega
   ·rw [if_neg h2, if_neg h2]
    exact H.ks.aps j j2 hj hj2 hne k hk
theorem pkStep_sh (H : PkAt w p e logs sh st c) {i : Nat} (hi : i < 3) {l' : List (Nat × Value)} (h : ShStep w x p (2 + i * 3 + 1) 176 c.arr (c.nv i) (c.mv i) l') (A : AreS l') :
  PkStep w x p e logs (fun t => if t = i then l' else sh t) st c := by
 obtain ⟨⟨nv', mv', S, hn, hm⟩, hF⟩ := h
 have hFU : ∀ k, (k = p ∨ ShU (c.nv i) (c.mv i) k) → KsU p c.lv c.nv c.mv k := fun k hk => hk.elim .inl (fun h => .inr (.inr ⟨i, hi, h⟩))
 obtain ⟨hP, hnew⟩ := pkAt_sh H hi S hn hm hF A
 refine ⟨_, hP, ?_, ?_, rfl, rfl⟩
 ·exact hF.mono (fun k _ h => .inl (hFU k h))
 ·rintro k ((rfl | hk | ⟨j, hj, hk⟩) | hk | hk)
  ·exact .inl (.inl (.inl rfl))
  ·exact .inl (.inl (.inr (.inl hk)))
  ·have hk : ShU (if j = i then nv' else c.nv j) (if j = i then mv' else c.mv j) k := hk
   by_cases e : j = i
   ·rw [if_pos e, if_pos e] at hk
    exact (hnew k hk).elim (fun h => .inl (.inl (.inr (.inr ⟨i, hi, h⟩)))) .inr
   ·rw [if_neg e, if_neg e] at hk
    exact .inl (.inl (.inr (.inr ⟨j, hj, hk⟩)))
  ·exact .inl (.inr (.inl hk))
  ·exact .inl (.inr (.inr hk))
def TkAt (w z : World) (p e : Nat) (logs : Nat → List ByteArray) (sh : Nat → List (Nat × Value)) (st : Mod.Stv) (c : Sv) : Prop :=
 ∃ c', PkAt z p e logs sh st c' ∧ (∀ k, PkU p c' k → PkU p c k) ∧ Far (PkU p c) w z ∧ c'.s = c.s ∧ c'.rv = c.rv
theorem TkAt.far {E : Nat → Prop} (h : TkAt w x p e logs sh st c) (hlt : ∀ k, PkU p c k → k < w.heap.size) (hF : Far E x y) (hE : ∀ k, E k → w.heap.size ≤ k) : TkAt w y p e logs sh st c := by
 obtain ⟨c', h1, h2, h3, h4, h5⟩ := h
 exact ⟨c', h1.far hF (fun k hk e => by have := hlt k (h2 k hk); have := hE k e; omega), h2, h3.trans hF (fun k hk e => by have := hE k e; omega), h4, h5⟩
theorem tkAt_took (H : PkAt w p e logs sh st c) {i : Nat} (hi : i < 3) {l' : List (Nat × Value)} (h : ShTook w x p (2 + i * 3 + 1) 176 c.arr (c.nv i) (c.mv i) l') (A : AreS l') :
  TkAt w x p e logs (fun t => if t = i then l' else sh t) st c := by
 obtain ⟨⟨nv', S, hown⟩, hF⟩ := h
 have e2 : (c.arr.setIfInBounds (2 + i * 3 + 1) nv').setIfInBounds (2 + i * 3 + 1 + 1) (c.mv i) = c.arr.setIfInBounds (2 + i * 3 + 1) nv' := set_same (by rw [Array.getElem?_setIfInBounds_ne (by omega)]; exact H.ks.am i hi)
 obtain ⟨hP, _⟩ := pkAt_sh (nv' := nv') (mv' := c.mv i) H hi (by rw [e2]; exact S) (.inr (.inl hown)) (.inl rfl) hF A
 have hsu : ∀ k, ShU nv' (c.mv i) k → ShU (c.nv i) (c.mv i) k := fun k hk => hk.elim (fun h => .inl (by rw [← hown]; exact h)) .inr
 refine ⟨_, hP, ?_, hF.mono (fun k _ h => .inl (h.elim .inl (fun h => .inr (.inr ⟨i, hi, h⟩)))), rfl, rfl⟩
 rintro k ((rfl | hk | ⟨j, hj, hk⟩) | hk | hk)
 ·exact .inl (.inl rfl)
 ·exact .inl (.inr (.inl hk))
 ·have hk : ShU (if j = i then nv' else c.nv j) (if j = i then c.mv i else c.mv j) k := hk
  by_cases e : j = i
  ·rw [if_pos e, if_pos e] at hk
   exact .inl (.inr (.inr ⟨i, hi, hsu k hk⟩))
  ·rw [if_neg e, if_neg e] at hk
   exact .inl (.inr (.inr ⟨j, hj, hk⟩))
 ·exact .inr (.inl hk)
 ·exact .inr (.inr hk)
end
def Sound (st : Mod.Stv) : Prop := st.dk.dead = false ∧ st.dk.armed = 0
end Go.Proofs.YtamafdcnbcoegaaGreat
