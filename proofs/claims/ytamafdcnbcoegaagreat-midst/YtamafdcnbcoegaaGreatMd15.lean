/-
  Part 15 of a proof: K20, D23, K21, K22, K23.
-/
import Derived.Test.YtamafdcnbcoegaaGreatMd14
namespace Go.Proofs.YtamafdcnbcoegaaGreat
open Go.RowKit
def OneT (B : Nat) (b : ByteArray) (v : Value) (w : World) : Prop := ∃ g, v = .slice (some ⟨g, 0, none⟩) 1 1 ∧ B ≤ g ∧ w.heap[g]? = some (.cells #[.string b] 9 (0, 0))
theorem stable_oneT (B : Nat) (b : ByteArray) : Stable (OneT B b) := fun _ _ _ h hb => by
 obtain ⟨g, e, h1, h2⟩ := h
 exact ⟨g, e, h1, (hb.block g (lt_of_block h2)).trans h2⟩
theorem stableF_oneT {B : Nat} {b : ByteArray} {E : Nat → Prop} (hE : ∀ k, E k → k < B) : StableF E (OneT B b) := fun _ _ _ h hF => by
 obtain ⟨g, e, h1, h2⟩ := h
 exact ⟨g, e, h1, hF.blk h2 (fun e => by have := hE _ e; omega)⟩
def RowT (w0 : World) (fv : Value) (n : Nat) (xs : List Value) (v : Value) (w : World) : Prop := RowO w 9 1 v n xs ∧ Loc w0 fv v ∧ w0.heap.size ≤ w.heap.size
theorem stable_rowT (w0 : World) (fv : Value) (n : Nat) (xs : List Value) : Stable (RowT w0 fv n xs) := fun _ _ _ h hb =>
 ⟨h.1.keep (fun g hg => hb.block g (h.1.lt g hg)), h.2.1, Nat.le_trans h.2.2 hb.size⟩
theorem stableF_rowT {w0 : World} {fv : Value} {n : Nat} {xs : List Value} {E : Nat → Prop} (hE : ∀ k, E k → k < w0.heap.size ∧ fv.ownBlock ≠ some k) : StableF E (RowT w0 fv n xs) := fun _ _ _ h hF =>
 ⟨h.1.far hF (fun g hg e => by
  obtain ⟨h1, h2⟩ := hE g e
  rcases h.2.1 with h3 | h3 | ⟨k, h3, h4⟩
  ·rw [h3] at hg; cases hg
  ·rw [h3] at hg; exact h2 hg
  ·rw [h3] at hg; cases hg; omega), h.2.1, Nat.le_trans h.2.2 hF.size⟩
theorem eq_rec_no (s q : Nat) (b : ByteArray) (hq : q ≠ 0) (w : World) : (binOp .eql 155 (.agg #[.int .i64 s, .int .i64 q, .string b]) (.agg #[.int .i64 0, .int .i64 0, .string ⟨#[]⟩])).run Tryz.prog w = .ok (.bool false) w := by
 have hne : ((q : Int) == 0) = false := by simp; omega
 rw [run_eql_struct, run_equalIn_struct w 9999 155 _ _ (by kernel_rfl) (by kernel_rfl)]
 cases hs : ((s : Int) == 0) <;> simp [go_sem, hne, hs]
theorem eq_rec_yes (w : World) : (binOp .eql 155 (.agg #[.int .i64 0, .int .i64 0, .string ⟨#[]⟩]) (.agg #[.int .i64 0, .int .i64 0, .string ⟨#[]⟩])).run Tryz.prog w = .ok (.bool true) w := by kernel_rfl
def LdAt (w x : World) (p e s : Nat) (logs : Nat → List ByteArray) : Prop :=
 ∃ arr lv, KsAt x p e logs (fun _ => []) arr s lv (fun _ => .slice none 0 0) (fun _ => .map none) (.slice none 0 0) ∧ Far (fun k => k = p) w x ∧ ∀ i, i < 3 → ∀ g, (lv i).ownBlock = some g → w.heap.size ≤ g
theorem LdAt.below {w x y : World} {p e s : Nat} {logs : Nat → List ByteArray} (h : LdAt w x p e s logs) (hb : Below x.heap.size x y) : LdAt w y p e s logs := by
 obtain ⟨arr, lv, h1, h2, h3⟩ := h
 exact ⟨arr, lv, h1.far (far_below (E := fun _ => False) hb) (fun _ _ h => h), h2.trans (far_below (E := fun _ => False) hb) (fun _ _ h => h.elim), h3⟩
def newArrE (s e : Nat) (rv : Value) : Array Value := #[ptrTo s, .int .i64 e, .slice none 0 0, .slice none 0 0, .map none, .slice none 0 0, .slice none 0 0, .map none, .slice none 0 0, .slice none 0 0, .map none, rv]
theorem ldAt_new {w : World} {p e s : Nat} (hb : w.heap[p]? = some (.cells (newArrE s e (.slice none 0 0)) 176 (0, 0))) (he : e ≤ 2147483647) : LdAt w w p e s (fun _ => []) := by
 have h3 : ∀ i, i < 3 → (newArrE s e (.slice none 0 0))[2 + i * 3]? = some (.slice none 0 0) ∧ (newArrE s e (.slice none 0 0))[2 + i * 3 + 1]? = some (.slice none 0 0) ∧ (newArrE s e (.slice none 0 0))[2 + i * 3 + 2]? = some (.map none) := by
  intro i hi
  obtain rfl | rfl | rfl : i = 0 ∨ i = 1 ∨ i = 2 := by omega
  all_goals exact ⟨rfl, rfl, rfl⟩
 refine ⟨_, fun _ => .slice none 0 0, ⟨hb, rfl, rfl, rfl, fun i hi => (h3 i hi).1, fun i hi => (h3 i hi).2.1, fun i hi => (h3 i hi).2.2, rfl, fun i hi => rowO_nil _ _ _, fun i hi => shelfIs_nil _, (fun i hi x hx => by cases hx), (fun i j _ _ _ g hg => by cases hg), fun i j _ _ _ k hk => ?_, by simp, he⟩, Far.refl _ _, fun i _ g hg => by cases hg⟩
 rcases hk with h | h <;> cases h
theorem skLd_step {rs : List Mod.Rc} {j : Nat} {r : Mod.Rc} {l : Nat → List ByteArray} (hr : rs[j]? = some r) (h : Mod.skLd (rs.take j) 0 (fun _ => []) = some l) :
  Mod.skLd (rs.take (j + 1)) 0 (fun _ => []) = if r.q = 0 then some l else if j = Mod.cnt l ∧ r.q = (l r.s).length + 1 then some (Mod.logAdd l r.s r.b) else none := by
 obtain ⟨hj, e⟩ := List.getElem?_eq_some_iff.1 hr
 rw [List.take_succ_eq_append_getElem hj, e, Mod.skLd_app, h]
 simp only [List.length_take]
 rw [show 0 + min j rs.length = j by omega]
 rfl
theorem skLd_bad {rs : List Mod.Rc} {j : Nat} (h : Mod.skLd (rs.take j) 0 (fun _ => []) = none) : Mod.skLd rs 0 (fun _ => []) = none := by
 have := Mod.skLd_app (rs.take j) (rs.drop j) 0 (fun _ => [])
 rw [List.take_append_drop, h] at this
 exact this
set_option maxRecDepth 100000 in
set_option maxHeartbeats 8000000 in
theorem sinkLoad_any {w : World} {p e s g cap m : Nat} {rs : List Mod.Rc} (hp : w.heap[p]? = some (.cells (newArrE s e (.slice none 0 0)) 176 (0, 0))) (hrow : w.ownsRow 0 155 3 (.slice (some ⟨g, 0, none⟩) m cap) m (rcRow rs)) (hml : rs.length = m) (hm : m ≤ 120)
  (hrs : ∀ r ∈ rs, r = Mod.rc0 ∨ r.fits) (he : e ≤ 2147483647) :
  Calls Tryz.prog 108 #[ptrTo p, .slice (some ⟨g, 0, none⟩) m cap] w fun r w' => r = .returned (.bool (Mod.skLd rs 0 (fun _ => [])).isSome) ∧ Far (fun k => k = p) w w' ∧ ∀ logs, Mod.skLd rs 0 (fun _ => []) = some logs → LdAt w w' p e s logs := by
 have hgp : 0 < m → g ≠ p := fun _ e => by
  have := (RowO.of_own hrow).ne hp (by decide)
  exact this (by rw [e]; rfl)
 have hc : ∀ j r, rs[j]? = some r → w.cell? ⟨g, j * 3, none⟩ = some (.int .i64 r.s) ∧ w.cell? ⟨g, j * 3 + 1, none⟩ = some (.int .i64 r.q) ∧ w.cell? ⟨g, j * 3 + 2, none⟩ = some (.string r.b) := by
  intro j r hj
  have hjm := (List.getElem?_eq_some_iff.1 hj).1
  obtain ⟨ad, cap', e, _, _, hcl⟩ := (RowO.of_own hrow).shape
  obtain ⟨g', o', e2, hcl⟩ := hcl (by omega)
  rw [e2] at e
  injection e with e
  injection e with e
  injection e with e e'
  subst e e'
  have hlen := length_rcRow rs
  have := rcRow_get rs j r hj
  refine ⟨?_, ?_, ?_⟩
  ·have h := hcl (j * 3) (by omega); rw [Nat.zero_add] at h; rw [h]; exact this.1
  ·have h := hcl (j * 3 + 1) (by omega); rw [Nat.zero_add] at h; rw [h]; exact this.2.1
  ·have h := hcl (j * 3 + 2) (by omega); rw [Nat.zero_add] at h; rw [h]; exact this.2.2
 have HC := hide hc
 have HGP := hide hgp
 have hpl := lt_of_block hp
 have HP := hide (ldAt_new hp he)
 have HRS := hide hrs
 have HML := hide hml
 clear hrow hc hgp hp hrs hml he
 unfold ptrTo
 go_enter Tryz.func108, Tryz.ntmps108
 go_wp2
 go_loopw [5, 6, 7, 10] (fun _ _ _ i wr => ∃ j : Nat, j ≤ m ∧ i = .int .i64 j ∧ ∃ logs, Mod.skLd (rs.take j) 0 (fun _ => []) = some logs ∧ LdAt w wr p e s logs) (fun _ _ _ i _ => m - (intOf i).toNat)
 case atStart => exact ⟨0, by omega, rfl, _, rfl, unhide HP⟩
 case round =>
  obtain ⟨j, hj, rfl, logs, hsk, hL⟩ := hrel
  clear HP
  by_cases hlt : j < m
  ·obtain ⟨r, hr⟩ : ∃ r, rs[j]? = some r := ⟨_, List.getElem?_eq_getElem (by have := unhide HML; omega)⟩
   obtain ⟨e0, e1, e2⟩ := (unhide HC) j r hr
   have hst := skLd_step hr hsk
   have hrf := (unhide HRS) r (List.mem_of_getElem? hr)
   have hgl : g < w.heap.size := World.block_lt_of_cell? _ _ e0
   have hbk : wr.heap[g]? = w.heap[g]? := by obtain ⟨_, _, _, hF, _⟩ := hL; exact hF.rest g hgl ((unhide HGP) (by omega))
   have y0 := (World.cell?_of_block (w := w) hbk : wr.cell? ⟨g, j * 3, none⟩ = _).trans e0
   have y1 := (World.cell?_of_block (w := w) hbk : wr.cell? ⟨g, j * 3 + 1, none⟩ = _).trans e1
   have y2 := (World.cell?_of_block (w := w) hbk : wr.cell? ⟨g, j * 3 + 2, none⟩ = _).trans e2
   have HL := hide hL
   have HST := hide hst
   have HR := hide hr
   clear hbk e0 e1 e2 hL hsk hst hr
   obtain ⟨g6, hg6⟩ : ∃ g6, g6 = wr.heap.size := ⟨_, rfl⟩
   have HG6 := hide hg6
   go_upto_region 4 with fail
   rw [← hg6]
   refine wp_world (fun x => x.heap[g6]? = some (.cells #[.int .i64 r.s, .int .i64 r.q, .string r.b] 155 (0, 0)) ∧ g6 < x.heap.size ∧ LdAt w x p e s logs) ?_ ?_
   ·rw [hg6]
    exact ⟨heap_alloc_new _ _, by simp, (unhide HL).below ((Below.refl _ _).alloc (Nat.le_refl _) _)⟩
   clear y0 y1 y2 hg6 HL
   rintro x ⟨h6, hg6x, hLx⟩
   have r0 := blk_cell (i := 0) h6
   have r1 := blk_cell (i := 1) h6
   have r2 := blk_cell (i := 2) h6
   simp at r0 r1 r2
   have H6 := hide h6
   have HL := hide hLx
   clear h6 hLx
   by_cases hq0 : r.q = 0
   ·have hr0 : r = Mod.rc0 := by
     rcases hrf with h | h
     ·exact h
     ·have := h.2.1; omega
    have hcmp := eq_rec_yes
    have hnx : Hid (Mod.skLd (rs.take (j + 1)) 0 (fun _ => []) = some logs) := by
     show _ = _
     rw [unhide HST, if_pos hq0]
    subst hr0
    unfold Mod.rc0 at r0 r1 r2
    simp only at r0 r1 r2
    clear HST hq0 hrf
    go_wp2
    go_roundw
    case rel => exact ⟨j + 1, by omega, by go_num, logs, unhide hnx, unhide HL⟩
    case measure => simp [intOf]; omega
   ·have hf : r.fits := by
     rcases hrf with h | h
     ·rw [h] at hq0; exact absurd rfl hq0
     ·exact h
    have hcmp := eq_rec_no r.s r.q r.b hq0
    obtain ⟨hs3, hq1, hqm, hbz⟩ := hf
    have s0 : (0 : Int) ≤ (r.s : Int) := by omega
    have s3 : (r.s : Int) < 3 := by omega
    have HQ := hide (And.intro hq0 (And.intro hq1 (And.intro hqm hbz)))
    clear hq0 hq1 hqm hbz hrf
    go_upto_region 5 with fail
    go_quiet (fail)
    go_upto_region 6 with fail
    refine wp_world (fun y => y.heap[g6]? = some (.cells #[.int .i64 r.s, .int .i64 r.q, .string r.b] 155 (0, 0)) ∧ LdAt w y p e s logs) ⟨unhide H6, (unhide HL).below (below_drewN (Below.refl _ _) _)⟩ ?_
    clear r0 r1 r2 H6 HL hcmp hg6x
    rintro y ⟨h6, hL⟩
    have r1 := blk_cell (i := 1) h6
    have r2 := blk_cell (i := 2) h6
    simp at r1 r2
    have hg6y := lt_of_block h6
    have H6 := hide h6
    have HL := hide hL
    obtain ⟨arr, lv, K, F, N⟩ := hL
    obtain ⟨ad, cap2, hlv, clog⟩ := K.logc hs3
    have hll := K.loglen hs3
    have hcnt : (logs 0).length + (logs 1).length + (logs 2).length ≤ 120 := K.cnt
    have hCM := fun n => hide (committed_any (w := y.drewN n) (K.far (far_drewN (fun _ => False) y n) (fun _ _ h => h)))
    have hNX := fun n => hide (sinkNext_any (y.drewN n) p (2 + r.s * 3) _ cap2 ad clog (by omega))
    have HK := hide (And.intro K (And.intro F (And.intro N hlv)))
    have hcd : Mod.cnt logs = (logs 0).length + (logs 1).length + (logs 2).length := rfl
    clear K F N hlv clog h6
    obtain ⟨cn, hcn⟩ : ∃ cn, cn = (logs 0).length + (logs 1).length + (logs 2).length := ⟨_, rfl⟩
    obtain ⟨nx, hnx⟩ : ∃ nx, nx = (logs r.s).length + 1 := ⟨_, rfl⟩
    rw [← hcn] at hCM hcd hcnt
    rw [← hnx] at hNX
    have HN := hide (And.intro hcd (And.intro hnx hcn))
    clear hcd hcn hnx
    unfold ptrTo at hCM
    by_cases c1 : j = cn
    ·have c1' : ((j : Int) != (cn : Int)) = false := by simp [c1]
     by_cases c2 : r.q = nx
     ·have c2' : ((r.q : Int) != (nx : Int)) = false := by simp [c2]
      have HCC := hide (And.intro c1 c2)
      clear c1 c2
      go_quiet (first
       | (go_at_call 157; exact Calls.quiet_of_same (unhide (hCM _)))
       | (go_at_call 158; exact Calls.quiet_of_same (unhide (hNX _))))
      go_upto_region 8 with fail
      refine wp_world (fun z => z.heap[g6]? = some (.cells #[.int .i64 r.s, .int .i64 r.q, .string r.b] 155 (0, 0)) ∧ LdAt w z p e s logs) ⟨unhide H6, (unhide HL).below (below_drewN (Below.refl _ _) _)⟩ ?_
      clear r1 r2 H6 HL HK hCM hNX hll hg6y
      rintro z ⟨h6, hL⟩
      obtain ⟨arr, lv, K, F, N⟩ := hL
      obtain ⟨ad, cap2, hlv, clog⟩ := K.logc hs3
      have hll := K.loglen hs3
      have hg6z := lt_of_block h6
      have hpz := lt_of_block K.blk
      have hrow := K.lgs r.s hs3
      have hup := K.lgs r.s hs3 |>.ne K.blk (by decide)
      have hu6 := K.lgs r.s hs3 |>.ne h6 (by decide)
      have hfvl := fun g hg => hrow.lt g hg
      have hp6 : ¬ g6 = p := fun e => by
       have h := K.blk
       rw [← e, h6] at h
       injection h with h
       injection h with _ h _
       exact absurd h (by decide)
      obtain ⟨n0, hn0⟩ : ∃ n0, n0 = (logs r.s).length := ⟨_, rfl⟩
      rw [← hn0] at hlv hll hrow clog
      have HK := hide K
      have HF := hide (And.intro F N)
      have H6 := hide h6
      have HLV := hide hlv
      have HROW := hide hrow
      have HN0 := hide hn0
      clear K F N h6 hlv hrow clog hn0
      refine wp_region_foot (by kernel_rfl)
       [fun v _ => v = .pointer (some ⟨p, 2 + r.s * 3, none⟩), fun v _ => v = .pointer (some ⟨p, 2 + r.s * 3, none⟩), fun v _ => v = .pointer (some ⟨p, 2 + r.s * 3, none⟩), fun v _ => v = .pointer (some ⟨p, 2 + r.s * 3, none⟩), fun v _ => v = .slice ad n0 cap2, fun v _ => v = .pointer (some ⟨g6, 2, none⟩), fun v _ => v = .string r.b, OneT z.heap.size r.b, RowT z (lv r.s) (n0 + 1) (strs (logs r.s) ++ [.string r.b]), fun v _ => v = .pointer (some ⟨p, 2 + r.s * 3, none⟩), fun v _ => v = .pointer (some ⟨p, 2 + r.s * 3, none⟩),
        fun _ u => LdAt w u p e s (Mod.logAdd logs r.s r.b)]
       [[(7, none)], [(7, none)], [(36, some 1)], [(37, some 2)], [(38, some 3)], [(6, none)], [(40, some 5)], [(41, some 6)], [(39, some 4), (42, some 7)], [(35, some 0)], [(44, some 9)], [(45, some 10), (43, some 8)]] [some 35, some 36, some 37, some 38, some 39, some 40, some 41, some 42, some 43, some 44, some 45, none] [false, false, false, false, false, false, false, false, false, false, false, false, false, false, false, false, false, false, false, false, false, false, false, false, false, false, false, false, false, false, false, false, false, false, false, true, true, true, true, true, true, true, true, true, true, true, false]
       [(8, fun k => (lv r.s).ownBlock = some k), (11, fun k => k = p)]
       (by kernel_rfl) (by kernel_rfl) (by kernel_rfl) (by kernel_rfl) (by kernel_rfl) ?_ ?_ ?_ ?_
      ·repeat' (first | exact stable_eq _ | exact stable_oneT _ _ | exact stable_rowT _ _ _ _ | exact (fun _ _ _ h hb => h.below hb) | exact trivial | apply And.intro)
      ·repeat' (first | exact trivial | exact .inl rfl | exact .inr (.inr (stableF_eq _ _)) | exact .inr (.inr (stableF_oneT (fun g hg => hfvl g hg))) | exact .inr (.inr (stableF_oneT (fun g (hg : g = p) => by omega))) | exact .inr (.inr (stableF_rowT (fun g (hg : g = p) => ⟨by omega, by rw [hg]; exact hup⟩))) | exact .inr (.inl (show depB _ 11 8 = true by decide +kernel)) | apply And.intro)
      ·refine ⟨?_, ?_, ?_, ?_, ?_, ?_, ?_, ?_, ?_, ?_, ?_, ?_, trivial⟩
       all_goals
        intro a' y8 hb hf
        have hzz := hb.size
        have HBZ := hide hb
        clear hb
        simp only [PlanFacts, List.getD_cons_zero, List.getD_cons_succ, Array.getD_eq_getD_getElem?] at hf
        try simp at hf
       iterate 4
        ·go_simp
         exact ⟨_, rfl, Far.refl _ _, rfl⟩
       ·have d0 := (unhide HBZ).blk (unhide HK).blk (by
         rintro ⟨q, hq, g1, g2, g3⟩
         simp at hq
         rcases hq with rfl | rfl
         ·exact hup g3
         ·exact absurd (show depB _ 11 4 = false from g2) (by decide +kernel))
        have d1 : y8.cell? ⟨p, 2 + r.s * 3, none⟩ = some (.slice ad n0 cap2) := by rw [blk_cell d0, (unhide HK).al r.s hs3, unhide HLV]
        clear d0
        go_simp
        exact ⟨_, rfl, Far.refl _ _, rfl⟩
       ·go_simp
        exact ⟨_, rfl, Far.refl _ _, rfl⟩
       ·have d0 := (unhide HBZ).blk (unhide H6) (by
         rintro ⟨q, hq, g1, g2, g3⟩
         simp at hq
         rcases hq with rfl | rfl
         ·exact hu6 g3
         ·exact hp6 g3)
        have d1 : y8.cell? ⟨g6, 2, none⟩ = some (.string r.b) := blk_cell (i := 2) d0
        clear d0
        go_simp
        exact ⟨_, rfl, Far.refl _ _, rfl⟩
       ·go_simp
        exact ⟨_, rfl, far_below ((Below.refl _ _).alloc (Nat.le_refl _) _), _, rfl, hzz, heap_alloc_new y8 _⟩
       ·have hoz := (unhide HROW).far (unhide HBZ) (by
         rintro g hg ⟨q, hq, g1, g2, g3⟩
         simp at hq
         rcases hq with rfl | rfl
         ·exact g1 rfl
         ·have g3 : g = p := g3
          exact hup (by rw [hg, g3]))
        obtain ⟨g, hg, hgB, hgh⟩ := hf.2
        have hoz2 : RowO y8 9 1 (.slice ad n0 cap2) n0 (strs (logs r.s)) := by rw [← unhide HLV]; exact hoz
        refine step_app_o rfl (.tmp 39) (.tmp 42) 45 rfl 9 _ 1 16 Tryz.underlying45 infoStr rfl (.slice ad n0 cap2) n0 (strs (logs r.s)) hoz2 (by simp [Act.eval, hf]) ⟨g, 0, none⟩ 1 1 [.string r.b] (by simp [Act.eval, hg]) rfl ?_ (by intro u hu; simp at hu; subst hu; rfl) (by omega) (by omega) (by omega) ?_
        ·intro k u hk
         rw [add_mk, blk_cell hgh, Nat.zero_add]
         simpa using hk
        ·intro v' w' g1 g2
         have hgr := g2.grown
         rw [← unhide HLV] at hgr g2
         exact ⟨v', rfl, footOf_of (.head _) (far_grown hgr), g1, loc_app hzz g2, Nat.le_trans hzz hgr.size⟩
       ·go_simp
        exact ⟨_, rfl, Far.refl _ _, rfl⟩
       ·go_simp
        exact ⟨_, rfl, Far.refl _ _, rfl⟩
       ·have hFz : Far (fun k => (lv r.s).ownBlock = some k) z y8 := (unhide HBZ).mono (by
         rintro k _ ⟨q, hq, g1, g2, g3⟩
         simp at hq
         rcases hq with rfl | rfl
         ·exact g3
         ·exact absurd rfl g1)
        have d0 := hFz.blk (unhide HK).blk hup
        have f1 : y8.frozen? ⟨p, 2 + r.s * 3, none⟩ = false := blk_free d0
        have d1 : y8.cell? ⟨p, 2 + r.s * 3, none⟩ = some (.slice ad n0 cap2) := by rw [blk_cell d0, (unhide HK).al r.s hs3, unhide HLV]
        obtain ⟨hv41, hrw⟩ := hf
        obtain ⟨ad3, cap3, hv39, _⟩ := hrw.1.shape
        have HRW := hide hrw
        have HFZ := hide hFz
        clear hrw d0 hFz
        rw [hv39] at HRW
        go_simp
        refine ⟨footOf_of (.tail _ (.head _)) (far_set y8 p (2 + r.s * 3) _), ?_⟩
        obtain ⟨R1, R2, _⟩ := unhide HRW
        have hF2 := (unhide HF).1
        have hN2 := (unhide HF).2
        have hroom : (logs 0).length + (logs 1).length + (logs 2).length < 120 := by
         have h1 := (unhide HN).2.2
         have h2 := (unhide HCC).1
         omega
        have hkl := ksAt_log (unhide HK) r.s hs3 r.b (.slice ad3 (n0 + 1) cap3) (unhide HFZ) (by rw [← unhide HN0, show strs (logs r.s ++ [r.b]) = strs (logs r.s) ++ [.string r.b] by simp [strs]]; exact R1) R2 hroom
        have hF3 : Far (fun k => k = p) w y8 := hF2.trans (unhide HFZ) (fun k hk h => absurd (hN2 r.s hs3 k h) (by omega))
        refine ⟨_, _, hkl, hF3.trans (far_set y8 p (2 + r.s * 3) _) (fun _ _ h => h), fun i hi g hg => ?_⟩
        split at hg
        ·rcases R2 with h3 | h3 | ⟨k, h3, h4⟩
         ·rw [h3] at hg; cases hg
         ·rw [h3] at hg; exact hN2 r.s hs3 g hg
         ·rw [h3] at hg; cases hg
          have := hF2.size
          omega
        ·exact hN2 i hi g hg
      ·intro f3 z3 hF3 hwd
       have hput := hwd.2.2.2.2.2.2.2.2.2.2.2.1
       have HP3 := hide hput
       clear hput hwd hF3
       simp only [mergeT]
       generalize f3 35 = v35
       generalize f3 36 = v36
       generalize f3 37 = v37
       generalize f3 38 = v38
       generalize f3 39 = v39
       generalize f3 40 = v40
       generalize f3 41 = v41
       generalize f3 42 = v42
       generalize f3 43 = v43
       generalize f3 44 = v44
       generalize f3 45 = v45
       go_wp2
       go_roundw
       case rel =>
        refine ⟨j + 1, by omega, by go_num, _, ?_, unhide HP3⟩
        rw [unhide HST, if_neg (unhide HQ).1, if_pos ⟨by rw [(unhide HN).1]; exact (unhide HCC).1, by rw [(unhide HCC).2]; exact (unhide HN).2.1⟩]
       case measure => simp [intOf]; omega
     ·have c2' : ((r.q : Int) != (nx : Int)) = true := by simp; omega
      have hbad : Hid (Mod.skLd rs 0 (fun _ => []) = none) := by
       refine hide (skLd_bad (j := j + 1) ?_)
       rw [unhide HST, if_neg (unhide HQ).1, if_neg (fun h => c2 (by rw [h.2, (unhide HN).2.1]))]
      clear c1 c2
      go_quiet (first
       | (go_at_call 157; exact Calls.quiet_of_same (unhide (hCM _)))
       | (go_at_call 158; exact Calls.quiet_of_same (unhide (hNX _))))
      go_wp2
      go_ret
      refine ⟨ret_b (by rw [unhide hbad]; rfl), (unhide HK).2.1.trans (far_drewN (fun _ => False) y _) (fun _ _ h => h.elim), fun l h => ?_⟩
      rw [unhide hbad] at h
      cases h
    ·have c1' : ((j : Int) != (cn : Int)) = true := by simp; omega
     have hbad : Hid (Mod.skLd rs 0 (fun _ => []) = none) := by
      refine hide (skLd_bad (j := j + 1) ?_)
      rw [unhide HST, if_neg (unhide HQ).1, if_neg (fun h => c1 (by rw [h.1, (unhide HN).1]))]
     clear c1
     go_quiet (first
      | (go_at_call 157; exact Calls.quiet_of_same (unhide (hCM _)))
      | (go_at_call 158; exact Calls.quiet_of_same (unhide (hNX _))))
     go_wp2
     go_ret
     refine ⟨ret_b (by rw [unhide hbad]; rfl), (unhide HK).2.1.trans (far_drewN (fun _ => False) y _) (fun _ _ h => h.elim), fun l h => ?_⟩
     rw [unhide hbad] at h
     cases h
  ·have hjm : j = m := by omega
   have hall : Mod.skLd rs 0 (fun _ => []) = some logs := by
    rw [← hsk, List.take_of_length_le (by have := unhide HML; omega)]
   have HALL := hide hall
   have HL := hide hL
   clear hall hsk hL hjm
   go_wp2
   go_ret
   refine ⟨ret_b (by rw [unhide HALL]; rfl), ?_, fun l h => ?_⟩
   ·obtain ⟨_, _, _, F, _⟩ := unhide HL
    exact F
   ·rw [unhide HALL] at h
    cases h
    exact unhide HL
end Go.Proofs.YtamafdcnbcoegaaGreat
namespace Go.Proofs.YtamafdcnbcoegaaGreat
open Go.RowKit
def NewSt2 (o h : Nat) (B : Nat) (L : List UInt8) (s : Nat) (w : World) : Prop := ∃ p, NewDk B L p w ∧ B ≤ s ∧ w.heap[s]? = some (.cells #[ptrTo p, .int .u32 o, .int .u64 0, .int .i64 h] 203 (0, 0))
theorem newSt2_below {o h B : Nat} {L : List UInt8} {s : Nat} {w x : World} (H : NewSt2 o h B L s w) (hb : Below w.heap.size w x) : NewSt2 o h B L s x := H.imp fun _ h => ⟨newDk_below h.1 hb, h.2.1, (hb.block _ (lt_of_block h.2.2)).trans h.2.2⟩
set_option maxRecDepth 100000 in
set_option maxHeartbeats 4000000 in
theorem storeOpen_yes (w : World) (v : Value) (L : List UInt8) (m : Nat) (hat : BytesAt w v L) (hL : L.length = m * 64) (hm1 : 2 ≤ m) (hm2 : m ≤ 150) {h : Mod.Hd} {at' : Nat} {rs : List Mod.Rc} (ho : Mod.openSt L = some (h, at', rs)) :
  Calls Tryz.prog 102 #[v] w fun r w' => ∃ s dp lv uv rv, r = .returned (.tuple #[ptrTo s, .agg #[.int .i64 h.a, .int .i64 h.b, .int .i64 h.d, rv], .int .i64 0]) ∧
   StAt w' s dp ((⟨h.o + 1, 0, at', ⟨L, 0, false⟩⟩ : Mod.Stv).putNumbers h.a h.b h.d).2 lv uv ∧ (∀ k, StU s dp lv uv k → w.heap.size ≤ k) ∧ w'.ownsRow w.heap.size 155 3 rv (m - 2) (rcRow rs) ∧ Below w.heap.size w w' := by
 obtain ⟨hne, hrf⟩ := Mod.openSt_some ho
 obtain ⟨hat1, hok, hhd, _⟩ := Mod.newest_some hne
 have hsm := Mod.headIs_small hok
 rw [← hhd] at hsm
 rw [show L.length / 64 = m by omega] at hrf
 have hH := hide (fun y (hb : Below w.heap.size w y) => newestHead_any y v L (hat.below hb) (by omega) (by omega))
 have hR := hide (fun y (hb : Below w.heap.size w y) => readRecords_any y v L m h.o (hat.below hb) hL hm1 hm2)
 rw [hrf] at hR
 have HNE := hide hne
 have HAT := hide hat1
 obtain ⟨so, sc, sa, sb, sd⟩ := hsm
 have hLl : 128 ≤ L.length ∧ L.length ≤ 10000 := by omega
 have hD := hide (fun y (hb : Below w.heap.size w y) => diskNew_any y v L (hat.below hb) hLl.1 hLl.2)
 clear hat hL ho hne hrf hhd hok sc hat1
 have w1 : IntKind.u32.wrap ((h.o : Int) + 1) = ((h.o + 1 : Nat) : Int) := by rw [IntKind.wrap_u32]; omega
 unfold ptrTo
 go_enter Tryz.func102, Tryz.ntmps102
 go_upto_region 2 with (go_at_call 146; refine ((unhide hH) _ ((Below.refl _ _).alloc (Nat.le_refl _) _)).mono ?_; rintro r y ⟨h2, k2, rfl, hhk, hb1⟩; obtain ⟨e1, e2⟩ := hhk _ _ (unhide HNE); rw [unhide HNE]; subst e1; subst e2; clear hhk; unfold hdVal)
 have hz1 := hb1.size
 simp only [World.size_alloc] at hz1
 have hb0 : Below w.heap.size w y := ((Below.refl _ _).alloc (Nat.le_refl _) _).trans (hb1.mono (by simp))
 have hy0 := (hb1.block w.heap.size (by simp)).trans (heap_alloc_new w _)
 obtain ⟨g5, hg5⟩ : ∃ g, g = y.heap.size := ⟨_, rfl⟩
 rw [← hg5]
 refine wp_world (fun x => x.heap[w.heap.size]? = some (.cells #[.int .i64 0, .int .i64 0, .int .i64 0, .slice none 0 0] 187 (0, 0)) ∧ x.heap[g5]? = some (.cells #[.int .u32 h2.o, .int .u64 h2.c, .int .i64 h2.a, .int .i64 h2.b, .int .i64 h2.d] 217 (0, 0)) ∧ Below w.heap.size w x) ?_ ?_
 ·exact ⟨(hao _ _ (by omega)).trans hy0, by rw [hg5]; exact heap_alloc_new _ _, hb0.alloc (by omega) _⟩
 have hg5w : w.heap.size < g5 := by omega
 clear hy0 hb0 hz1 hb1 hg5 hH
 rintro x ⟨h0, h5, hB⟩
 have e0 : x.cell? ⟨g5, 0, none⟩ = some (.int .u32 h2.o) := blk_cell (i := 0) h5
 have H0 := hide h0
 have H5 := hide h5
 have HB := hide hB
 have hzx := lt_of_block h5
 clear h0 h5 hB
 go_upto_region 7 with (go_at_call 147; refine ((unhide hR) _ (unhide HB)).mono ?_; rintro r y2 ⟨rv, rfl, hrv, hb2⟩; replace hrv := hrv _ rfl)
 have hrv := ownsRow_monoB hrv (B' := w.heap.size) (by omega)
 have hbw : Below w.heap.size w y2 := (unhide HB).trans (hb2.mono (by omega))
 have y0 := (hb2.block _ (by omega)).trans (unhide H0)
 have y5 := (hb2.block _ (by omega)).trans (unhide H5)
 obtain ⟨ra, rc, rfl, _⟩ := (RowO.of_own (ownsRow_monoB hrv (Nat.zero_le _))).shape
 have HRV := hide hrv
 have HBW := hide hbw
 have Y0 := hide y0
 have Y5 := hide y5
 have hzy := hbw.size
 have hg5y := lt_of_block y5
 clear hrv hbw y0 y5 hb2 HB H0 H5 hR e0 hzx
 refine wp_region_foot (by kernel_rfl)
  [fun u _ => u = v, fun u z => ∃ p, u = .pointer (some ⟨p, 0, none⟩) ∧ NewDk w.heap.size L p z, fun u _ => u = .pointer (some ⟨g5, 0, none⟩), fun u _ => u = .pointer (some ⟨g5, 0, none⟩), fun u _ => u = .int .u32 h2.o, fun u _ => u = .int .u32 (h2.o + 1 : Nat), fun u _ => u = .agg #[.int .u32 (h2.o + 1 : Nat), .int .u64 0], fun u _ => u = .int .i64 k2,
   fun u z => ∃ p, u = .agg #[.pointer (some ⟨p, 0, none⟩), .int .u32 (h2.o + 1 : Nat), .int .u64 0, .int .i64 k2] ∧ NewDk w.heap.size L p z, fun u z => ∃ s, u = .pointer (some ⟨s, 0, none⟩) ∧ NewSt2 (h2.o + 1) k2 w.heap.size L s z, fun u z => ∃ s, u = .pointer (some ⟨s, 0, none⟩) ∧ NewSt2 (h2.o + 1) k2 w.heap.size L s z]
  [[(0, none)], [(30, some 0)], [(5, none)], [(32, some 2)], [(33, some 3)], [(34, some 4)], [(35, some 5)], [(6, none)], [(31, some 1), (36, some 6), (37, some 7)], [(38, some 8)], [(39, some 9)]] [some 30, some 31, some 32, some 33, some 34, some 35, some 36, some 37, some 38, some 39, some 9] [false, false, false, false, false, false, false, false, false, true, false, false, false, false, false, false, false, false, false, false, false, false, false, false, false, false, false, false, false, false, true, true, true, true, true, true, true, true, true, true, false, false, false, false, false, false, false, false, false]
  []
  (by kernel_rfl) (by kernel_rfl) (by kernel_rfl) (by kernel_rfl) (by kernel_rfl) ?_ ?_ ?_ ?_
 ·repeat' (first | exact stable_eq _ | exact (fun _ _ _ h hb => h.imp fun _ h => ⟨h.1, newDk_below h.2 hb⟩) | exact (fun _ _ _ h hb => h.imp fun _ h => ⟨h.1, newSt2_below h.2 hb⟩) | exact trivial | apply And.intro)
 ·exact trivial
 ·refine ⟨?_, ?_, ?_, ?_, ?_, ?_, ?_, ?_, ?_, ?_, ?_, trivial⟩
  all_goals
   intro a z hb hf
   have z5 := hb.blk (unhide Y5) (footBut_no (by intro q hq; cases hq))
   have hbz : Below w.heap.size w z := (unhide HBW).trans ((hb.below (B := y2.heap.size) (Nat.le_refl _) (fun j _ h => by
    obtain ⟨q, hq, _⟩ := h
    cases hq)).mono hzy)
   have e0 : z.cell? ⟨g5, 0, none⟩ = some (.int .u32 h2.o) := blk_cell (i := 0) z5
   have HBZ := hide hbz
   clear z5 hb hbz
   simp only [PlanFacts, List.getD_cons_zero, List.getD_cons_succ, Array.getD_eq_getD_getElem?] at hf
   try simp at hf
  ·go_simp
   exact ⟨_, rfl, Far.refl _ _, rfl⟩
  ·have HC := hide ((unhide hD) z (unhide HBZ))
   have hzz := (unhide HBZ).size
   unfold ptrTo at HC
   go_simp
   refine (unhide HC).mono ?_
   rintro r z2 ⟨p, lv, rfl, k1, k2, k3⟩
   exact ⟨_, rfl, far_below k2, p, rfl, lv, k1, fun k hk => Nat.le_trans hzz (k3 k hk)⟩
  iterate 6
   ·go_simp
    exact ⟨_, rfl, Far.refl _ _, rfl⟩
  ·obtain ⟨⟨p, hp, hn⟩, hf⟩ := hf
   have HN := hide hn
   clear hn
   go_simp
   exact ⟨_, rfl, Far.refl _ _, p, rfl, unhide HN⟩
  ·obtain ⟨p, hp, hn⟩ := hf
   have HN := hide hn
   have hzz := (unhide HBZ).size
   clear hn
   go_simp
   refine ⟨_, rfl, far_below ((Below.refl _ _).alloc (Nat.le_refl _) _), _, rfl, p, newDk_below (unhide HN) ((Below.refl _ _).alloc (Nat.le_refl _) _), hzz, heap_alloc_new _ _⟩
  ·obtain ⟨s, hs, hn⟩ := hf
   have HN := hide hn
   clear hn
   go_simp
   exact ⟨_, rfl, Far.refl _ _, s, rfl, unhide HN⟩
 ·intro f z hF hwd
  obtain ⟨s, hs9, dp, ⟨lv, hdk, hnew⟩, hsB, hsb⟩ := hwd.2.2.2.2.2.2.2.2.2.2.1
  have hbz : Below y2.heap.size y2 z := hF.below (Nat.le_refl _) (fun j _ h => by
   obtain ⟨q, hq, _⟩ := h
   cases hq)
  have ST : StAt z s dp ⟨h2.o + 1, 0, k2, ⟨L, 0, false⟩⟩ lv (.slice none 0 0) := ⟨hsb, hdk, by show h2.o + 1 < _; omega, by simp, unhide HAT⟩
  have hnewS : ∀ k, StU s dp lv (.slice none 0 0) k → w.heap.size ≤ k := by
   rintro k (rfl | hk)
   ·exact hsB
   ·exact hnew k hk
  have z0 := (hbz.block _ (by omega)).trans (unhide Y0)
  have z5 := (hbz.block _ hg5y).trans (unhide Y5)
  have e2 : z.cell? ⟨g5, 2, none⟩ = some (.int .i64 h2.a) := blk_cell (i := 2) z5
  have e3 : z.cell? ⟨g5, 3, none⟩ = some (.int .i64 h2.b) := blk_cell (i := 3) z5
  have e4 : z.cell? ⟨g5, 4, none⟩ = some (.int .i64 h2.d) := blk_cell (i := 4) z5
  have HW := hide (writeNumbers_any z s dp _ lv _ ST h2.a h2.b h2.d (by omega) (by omega) (by omega))
  have hrz := ownsRow_keepB (w' := z) (unhide HRV) (fun g hg => hbz.block g (World.ownsRow.lt (unhide HRV) g hg).2)
  have HRZ := hide hrz
  have HBZ := hide ((unhide HBW).trans (hbz.mono hzy))
  have Z0 := hide z0
  have Z5 := hide z5
  have hSn : ¬ StU s dp lv (.slice none 0 0) w.heap.size := by
   rintro (h | h)
   ·rw [← h, z0] at hsb
    cases hsb
   ·exact dk_ne hdk z0 (by decide) (by decide) (by decide) h
  have hS5 : ¬ StU s dp lv (.slice none 0 0) g5 := by
   rintro (h | h)
   ·rw [← h, z5] at hsb
    cases hsb
   ·exact dk_ne hdk z5 (by decide) (by decide) (by decide) h
  have hSr : ∀ g, (Value.slice ra (m - 2) rc).ownBlock = some g → ¬ StU s dp lv (.slice none 0 0) g := by
   rintro g hg (h | h | h | h)
   ·exact (RowO.of_own (ownsRow_monoB hrz (Nat.zero_le _))).ne hsb (by decide) (by rw [hg, h])
   ·exact (RowO.of_own (ownsRow_monoB hrz (Nat.zero_le _))).ne hdk.blk (by decide) (by rw [hg, h])
   ·exact (RowO.of_own (ownsRow_monoB hrz (Nat.zero_le _))).ty (RowO.of_own hdk.row) (by decide) hg h
   ·cases h
  have hzz := hbz.size
  clear hwd hF hbz z0 z5 hdk hsb hrz HRV HBW Y0 Y5 hD ST
  simp only [mergeT, hs9]
  generalize f 30 = x30
  generalize f 31 = x31
  generalize f 32 = x32
  generalize f 33 = x33
  generalize f 34 = x34
  generalize f 35 = x35
  generalize f 36 = x36
  generalize f 37 = x37
  generalize f 38 = x38
  generalize f 39 = x39
  go_simp
  unfold ptrTo at HW
  go_upto_region 9 with (go_at_call 149; refine (unhide HW).mono ?_; rintro r z2 ⟨rfl, uv, k1, k2, k3⟩; replace k1 := hide k1; replace k2 := hide k2; replace k3 := hide k3)
  have K3 := unhide k3
  have z0 := K3.blk (unhide Z0) hSn
  have z5 := K3.blk (unhide Z5) hS5
  have hr2 := ownsRow_keepB (w' := z2) (unhide HRZ) (fun g hg => K3.rest g (World.ownsRow.lt (unhide HRZ) g hg).2 (hSr g hg))
  have hbz2 : Below w.heap.size w z2 := (unhide HBZ).trans (K3.below (by omega) (fun k hk h => by have := hnewS k h; omega))
  have HR2 := hide hr2
  have HB2 := hide hbz2
  have Z0' := hide z0
  have Z5' := hide z5
  have hz2 := hbz2.size
  have hz2g := lt_of_block z5
  have hzn := lt_of_block z0
  clear K3 z0 z5 hr2 hbz2 HRZ HBZ Z0 Z5 e2 e3 e4 HW
  refine wp_region_foot (by kernel_rfl)
   [fun u _ => u = .pointer (some ⟨s, 0, none⟩), fun u _ => u = .pointer (some ⟨g5, 2, none⟩), fun u _ => u = .agg #[.int .i64 h2.a, .int .i64 h2.b, .int .i64 h2.d], fun u _ => u = .slice ra (m - 2) rc, fun u _ => u = .agg #[.int .i64 h2.a, .int .i64 h2.b, .int .i64 h2.d, .slice ra (m - 2) rc], fun u _ => u = .pointer (some ⟨s, 0, none⟩),
    fun _ q => q.heap[w.heap.size]? = some (.cells #[.int .i64 h2.a, .int .i64 h2.b, .int .i64 h2.d, .slice ra (m - 2) rc] 187 (0, 0)), fun u _ => u = .int .i64 0]
   [[(9, none)], [(5, none)], [(45, some 1)], [(8, none)], [(46, some 2), (47, some 3)], [(44, some 0)], [(3, none), (48, some 4)], []] [some 44, some 45, some 46, some 47, some 48, some 2, none, some 4] [false, false, true, false, true, false, false, false, false, false, false, false, false, false, false, false, false, false, false, false, false, false, false, false, false, false, false, false, false, false, false, false, false, false, false, false, false, false, false, false, false, false, false, false, true, true, true, true, true]
   [(6, fun k => k = w.heap.size)]
   (by kernel_rfl) (by kernel_rfl) (by kernel_rfl) (by kernel_rfl) (by kernel_rfl) ?_ ?_ ?_ ?_
  ·repeat' (first | exact stable_eq _ | exact stable_blk _ _ | exact trivial | apply And.intro)
  ·repeat' (first | exact trivial | exact .inl rfl | exact .inr (.inr (stableF_eq _ _)) | apply And.intro)
  ·refine ⟨?_, ?_, ?_, ?_, ?_, ?_, ?_, ?_, trivial⟩
   all_goals
    intro a q hb hf
    have q5 := hb.blk (unhide Z5') (footBut_no (by intro p hp; simp at hp; subst hp; intro (e : g5 = w.heap.size); omega))
    have e2 : q.cell? ⟨g5, 2, none⟩ = some (.int .i64 h2.a) := blk_cell (i := 2) q5
    have e3 : q.cell? ⟨g5, 3, none⟩ = some (.int .i64 h2.b) := blk_cell (i := 3) q5
    have e4 : q.cell? ⟨g5, 4, none⟩ = some (.int .i64 h2.d) := blk_cell (i := 4) q5
    clear q5
    simp only [PlanFacts, List.getD_cons_zero, List.getD_cons_succ, Array.getD_eq_getD_getElem?] at hf
    try simp at hf
   iterate 6
    ·clear hb
     go_simp
     exact ⟨_, rfl, Far.refl _ _, rfl⟩
   ·have q0 := hb.blk (unhide Z0') (by
     rintro ⟨p, hp, g1, g2, g3⟩
     simp at hp
     subst hp
     exact g1 rfl)
    clear hb
    rw [if_pos (by rfl)]
    refine wp_store_row 187 (.tmp 3) (.tmp 48) rfl w.heap.size #[.int .i64 h2.a, .int .i64 h2.b, .int .i64 h2.d, .slice ra (m - 2) rc] (by simp [Act.eval, hf]) (by simp [Act.eval, hf]) 187 _ q0 (by rw [size_contents]; rfl) (by simp) (by rw [Array.all_eq_true_iff_forall_mem]; intro u hu; simp at hu; rcases hu with rfl | rfl | rfl | rfl <;> rfl) ?_
    exact ⟨_, rfl, footOf_of (.head _) (far_setRow _ _ _), setRow_heap _ _ _ _ _ _ q0⟩
   ·clear hb
    go_simp
    exact ⟨_, rfl, Far.refl _ _, rfl⟩
  ·intro f q hF hwd
   have hv2 := hwd.2.2.2.2.2.1
   have h6 := hwd.2.2.2.2.2.2.1
   have h7 := hwd.2.2.2.2.2.2.2.1
   have q0 : q.cell? ⟨w.heap.size, 0, none⟩ = some (.int .i64 h2.a) := blk_cell (i := 0) h6
   have q1 : q.cell? ⟨w.heap.size, 1, none⟩ = some (.int .i64 h2.b) := blk_cell (i := 1) h6
   have q2 : q.cell? ⟨w.heap.size, 2, none⟩ = some (.int .i64 h2.d) := blk_cell (i := 2) h6
   have q3 : q.cell? ⟨w.heap.size, 3, none⟩ = some (.slice ra (m - 2) rc) := blk_cell (i := 3) h6
   have hF : Far (fun k => k = w.heap.size) z2 q := hF.mono (fun k _ h => by
    obtain ⟨p, hp, h⟩ := h
    simp at hp
    subst hp
    exact h)
   have HF := hide hF
   clear hwd hF h6
   simp only [mergeT, hv2, h7]
   generalize f 44 = x44
   generalize f 45 = x45
   generalize f 46 = x46
   generalize f 47 = x47
   generalize f 48 = x48
   go_simp
   go_wp2
   refine bodyPost_ret (v := .tuple #[.pointer (some ⟨s, 0, none⟩), .agg #[.int .i64 h2.a, .int .i64 h2.b, .int .i64 h2.d, .slice ra (m - 2) rc], .int .i64 0]) (by simp [results, Tryz.results102, go_sem, q0, q1, q2, q3]) rfl ?_
   have hF := unhide HF
   have K2 := unhide k2
   have hnu : ∀ k, StU s dp lv uv k → w.heap.size ≤ k := by
    rintro k (h | h | h | h)
    ·exact hnewS k (.inl h)
    ·exact hnewS k (.inr (.inl h))
    ·exact hnewS k (.inr (.inr (.inl h)))
    ·rcases K2 with k2 | k2 | ⟨g, k2, k5⟩
     ·rw [k2] at h; cases h
     ·rw [k2] at h; cases h
     ·rw [k2] at h; cases h; omega
   have hne : ¬ StU s dp lv uv w.heap.size := by
    rintro (h | h | h | h)
    ·exact hSn (.inl h)
    ·exact hSn (.inr (.inl h))
    ·exact hSn (.inr (.inr (.inl h)))
    ·exact (unhide k1).dk.un.ne (unhide Z0') (by decide) h
   exact ⟨s, dp, lv, uv, _, rfl, (unhide k1).far hF (fun k hk e => hne (by rw [← e]; exact hk)), hnu, ownsRow_keepB (unhide HR2) (fun g hg => hF.rest g (World.ownsRow.lt (unhide HR2) g hg).2 (fun e => (RowO.of_own (ownsRow_monoB (unhide HR2) (Nat.zero_le _))).ne (unhide Z0') (by decide) (by rw [hg, e]))), (unhide HB2).trans (hF.below (by omega) (fun k hk e => by omega))⟩
end Go.Proofs.YtamafdcnbcoegaaGreat
namespace Go.Proofs.YtamafdcnbcoegaaGreat
open Go.RowKit
theorem LdAt.behind {w x y : World} {p e s : Nat} {logs : Nat → List ByteArray} (h : LdAt x y p e s logs) (hb : Below w.heap.size w x) : LdAt w y p e s logs := by
 obtain ⟨arr, lv, h1, h2, h3⟩ := h
 exact ⟨arr, lv, h1, (far_below (E := fun k => k = p) hb).trans h2 (fun _ _ h => h), fun i hi g hg => Nat.le_trans hb.size (h3 i hi g hg)⟩
def newStv (L : List UInt8) (h : Mod.Hd) (at' : Nat) : Mod.Stv := ⟨h.o + 1, 1, 1 - at', ⟨Mod.openL L h at', 0, false⟩⟩
theorem newStv_eq (L : List UInt8) (h : Mod.Hd) (at' : Nat) : ((⟨h.o + 1, 0, at', ⟨L, 0, false⟩⟩ : Mod.Stv).putNumbers h.a h.b h.d).2 = newStv L h at' := by
 unfold Mod.Stv.putNumbers Mod.Dk.put newStv Mod.openL Mod.sealH
 simp [Mod.Stv.next]
theorem rs_fits {L : List UInt8} {last n : Nat} {rs : List Mod.Rc} (h : Mod.recsFrom L last 0 n = some rs) : ∀ r ∈ rs, r = Mod.rc0 ∨ r.fits := by
 intro r hr
 obtain ⟨h1, h2⟩ := Mod.recsFrom_some n 0 h
 obtain ⟨x, hx, e⟩ := List.mem_iff_getElem.1 hr
 obtain ⟨k1, k2⟩ := h2 x (by omega)
 rw [List.getElem?_eq_getElem hx, e] at k2
 cases k2
 rcases Mod.recAt_ok k1 with ⟨_, e0⟩ | ⟨_, _, _, _, _, _, hf, _⟩
 ·exact .inl e0
 ·exact .inr hf
theorem pkAt_ld {w x : World} {p e s dp : Nat} {logs : Nat → List ByteArray} {dlv duv rv : Value} {st : Mod.Stv} (h : LdAt w x p e s logs) (hs : StAt x s dp st dlv duv) (hl : st.dk.bytes.length = 7808) (hn : ∀ k, StU s dp dlv duv k → k ≠ p)
  {y : World} (hy : y = x.setCell ⟨p, 11, none⟩ rv) {R : Obj} (hr : RowO (y.alloc R) 179 2 rv 2 (rulesOf p)) :
  ∃ c, PkAt (y.alloc R) p e logs (fun _ => []) st c ∧ (∀ k, PkU p c k → k = p ∨ w.heap.size ≤ k ∨ StU s dp dlv duv k ∨ rv.ownBlock = some k) := by
 obtain ⟨arr, lv, K, F, N⟩ := h
 subst hy
 have hset := far_set x p 11 rv
 have hba : Below (x.setCell ⟨p, 11, none⟩ rv).heap.size (x.setCell ⟨p, 11, none⟩ rv) ((x.setCell ⟨p, 11, none⟩ rv).alloc R) := (Below.refl _ _).alloc (Nat.le_refl _) _
 have hF2 : Far (fun k => k = p) x ((x.setCell ⟨p, 11, none⟩ rv).alloc R) := hset.trans (far_below (E := fun _ => False) hba) (fun _ _ h => h.elim)
 have hget : ∀ j, j ≠ 11 → (arr.setIfInBounds 11 rv)[j]? = arr[j]? := fun j hj => Array.getElem?_setIfInBounds_ne (fun e => hj e.symm)
 refine ⟨⟨arr.setIfInBounds 11 rv, s, dp, lv, fun _ => .slice none 0 0, fun _ => .map none, rv, dlv, duv⟩, ⟨⟨?_, by simpa using K.sz, ?_, ?_, ?_, ?_, ?_, ?_, ?_, fun i hi => shelfIs_nil _, K.are, K.apl, K.aps, K.cnt, K.ep⟩, ?_, hr, hl⟩, ?_⟩
 ·exact (hba.block p (by simp; exact lt_of_block K.blk)).trans (blk_set K.blk)
 ·rw [hget _ (by omega)]; exact K.a0
 ·rw [hget _ (by omega)]; exact K.a1
 ·intro i hi; rw [hget _ (by omega)]; exact K.al i hi
 ·intro i hi; rw [hget _ (by omega)]; exact K.an i hi
 ·intro i hi; rw [hget _ (by omega)]; exact K.am i hi
 ·have := K.sz
  simp [this]
 ·intro i hi
  exact (K.lgs i hi).far hF2 (fun g hg e => (K.lgs i hi).ne K.blk (by decide) (by rw [hg, e]))
 ·exact hs.far hF2 (fun k hk e => hn k hk e)
 ·rintro k ((h | ⟨i, hi, h⟩ | ⟨i, hi, h⟩) | h | h)
  ·exact .inl h
  ·exact .inr (.inl (N i hi k h))
  ·rcases h with h | h <;> cases h
  ·exact .inr (.inr (.inl h))
  ·exact .inr (.inr (.inr h))
end Go.Proofs.YtamafdcnbcoegaaGreat
namespace Go.Proofs.YtamafdcnbcoegaaGreat
open Go.RowKit
set_option maxRecDepth 100000 in
set_option maxHeartbeats 8000000 in
theorem sinkOpen_some (w : World) (v : Value) (L : List UInt8) (hat : BytesAt w v L) (hL : L.length = 7808) {h : Mod.Hd} {at' : Nat} {rs : List Mod.Rc} (ho : Mod.openSt L = some (h, at', rs)) :
  Calls Tryz.prog 65 #[v] w fun r w' => (¬ (h.b = 0 ∧ h.d = 0) ∨ Mod.skLd rs 0 (fun _ => []) = none) ∧ r = .returned (.tuple #[.pointer none, .int .i64 2]) ∧ Below w.heap.size w w' ∨
   h.b = 0 ∧ h.d = 0 ∧ ∃ logs p c, Mod.skLd rs 0 (fun _ => []) = some logs ∧ r = .returned (.tuple #[ptrTo p, .int .i64 0]) ∧ PkAt w' p h.a logs (fun _ => []) (newStv L h at') c ∧ Below w.heap.size w w' ∧ ∀ k, PkU p c k → w.heap.size ≤ k := by
 have hSO := storeOpen_yes w v L 122 hat (by omega) (by omega) (by omega) ho
 rw [newStv_eq] at hSO
 obtain ⟨hne, hrf⟩ := Mod.openSt_some ho
 have hfit := rs_fits hrf
 have hrl : rs.length = 120 := by
  have := (Mod.recsFrom_some _ _ hrf).1
  rw [this, hL]
 obtain ⟨_, hok, hhd, _⟩ := Mod.newest_some hne
 have hsm := Mod.headIs_small hok
 rw [← hhd] at hsm
 have hlen : (newStv L h at').dk.bytes.length = 7808 := by
  have := (Mod.opened_ok hne (m := 122) (by omega) (by omega)).len
  exact this
 obtain ⟨ad, cap, rfl, hl1, hl2, _⟩ := hat
 obtain ⟨n, hn⟩ : ∃ n, n = L.length := ⟨_, rfl⟩
 rw [← hn] at hL hl1 hl2 hSO ⊢
 subst hL
 generalize newStv L h at' = st at *
 obtain ⟨ep, hep⟩ : ∃ ep, ep = h.a := ⟨_, rfl⟩
 obtain ⟨nb, hnb⟩ : ∃ nb, nb = h.b := ⟨_, rfl⟩
 obtain ⟨nd, hnd⟩ : ∃ nd, nd = h.d := ⟨_, rfl⟩
 rw [← hep, ← hnb, ← hnd] at hSO
 rw [← hep, ← hnb, ← hnd]
 have hep2 : ep ≤ 2147483647 := by omega
 have HSO := hide hSO
 have HH := hide (And.intro hfit (And.intro hrl (And.intro hlen hep2)))
 have hNO := fun y => hide (numbersOf_any ep y)
 clear hn ho hne hrf hok hhd hsm hSO hfit hrl hlen hep hnb hnd hep2
 obtain ⟨res, hres⟩ : ∃ res, res = Mod.skLd rs 0 (fun _ => []) := ⟨_, rfl⟩
 rw [← hres]
 unfold ptrTo at *
 go_enter Tryz.func65, Tryz.ntmps65
 go_upto_region 7 with (go_at_call 102; refine (unhide HSO).mono ?_; rintro r y ⟨s, dp, lv, uv, rv, rfl, hST, hSU, hrow, hb⟩; obtain ⟨ra, rc, rfl, _, _, hra⟩ := (RowO.of_own (ownsRow_monoB hrow (Nat.zero_le _))).shape)
 obtain ⟨gr, og, rfl, _⟩ := hra (by omega)
 have hog : og = 0 := by
  rcases hrow with ⟨_, ⟨h, _⟩ | ⟨g', cap', cur', h, _⟩⟩
  ·cases h
  ·injection h with h; injection h with h; injection h
 subst hog
 clear hra
 obtain ⟨g5, hg5⟩ : ∃ g5, g5 = y.heap.size := ⟨_, rfl⟩
 have HG5 := hide hg5
 rw [← hg5]
 have hgw : w.heap.size ≤ g5 := by have := hb.size; omega
 clear hg5
 refine wp_world (fun x => x.heap[g5]? = some (.cells #[.int .i64 ep, .int .i64 nb, .int .i64 nd, .slice (some ⟨gr, 0, none⟩) 120 rc] 187 (0, 0)) ∧ x.heap[g5 + 1]? = some (.cells (newArrE s ep (.slice none 0 0)) 176 (0, 0)) ∧ Below g5 y x) ?_ ?_
 ·rw [unhide HG5]
  exact alloc2 _ _ _
 rintro x ⟨h5, h6, hbx⟩
 have hxx := lt_of_block h6
 have hrx := ownsRow_keepB (ownsRow_monoB hrow (Nat.zero_le _)) (fun g hg => by have := (World.ownsRow.lt hrow g hg).2; exact hbx.block g (by rw [unhide HG5]; exact this))
 have hrg : (Value.slice (some ⟨gr, 0, none⟩) 120 rc).ownBlock ≠ some (g5 + 1) := fun e => (RowO.of_own hrx).ne h6 (by decide) e
 have hSTx := hide (hST.far (far_below (E := fun _ => False) (by rw [← unhide HG5]; exact hbx)) (fun _ _ h => h))
 have HSU := hide hSU
 have HB := hide (hb.trans (hbx.mono hgw))
 have H5 := hide h5
 have H6 := hide h6
 have HRX := hide hrx
 clear hST hSU hrow hrx hb hbx h5 h6 HG5
 have hnS : ¬ StU s dp lv uv (g5 + 1) := by
  rintro (h | h)
  ·have h1 := (unhide hSTx).blk
   rw [← h, unhide H6] at h1
   injection h1 with h1
   injection h1 with _ h1 _
   exact absurd h1 (by decide)
  ·exact dk_ne (unhide hSTx).dk (unhide H6) (by decide) (by decide) (by decide) h
 by_cases hbd : nb = 0 ∧ nd = 0
 ·have heq : ∀ z : World, (Op.equalIn 10000 136 (.agg #[.int .i64 ep, .int .i64 nb, .int .i64 nd]) (.agg #[.int .i64 ep, .int .i64 0, .int .i64 0])).run Tryz.prog z = .ok true z := fun z => by
   rw [eq_nums]
   simp [hbd.1, hbd.2]
  have HBD := hide hbd
  clear hbd
  have hLD := fun (z : World) (h1 : z.heap[g5 + 1]? = _) (h2 : z.ownsRow 0 155 3 (.slice (some ⟨gr, 0, none⟩) 120 rc) 120 (rcRow rs)) => hide (sinkLoad_any (p := g5 + 1) (e := ep) (s := s) h1 h2 (unhide HH).2.1 (by omega) (unhide HH).1 (unhide HH).2.2.2)
  rw [← hres] at hLD
  have HRES := hide hres
  clear hres
  unfold ptrTo at hLD
  refine wp_region_cut (by kernel_rfl)
   [fun v _ => v = .pointer (some ⟨g5, 0, none⟩), fun v _ => v = .agg #[.int .i64 ep, .int .i64 nb, .int .i64 nd], fun v _ => v = .pointer (some ⟨g5 + 1, 0, none⟩), fun v _ => v = .pointer (some ⟨g5 + 1, 0, none⟩), fun v _ => v = .pointer (some ⟨g5 + 1, 1, none⟩), fun v _ => v = .int .i64 ep, fun v _ => v = .agg #[.int .i64 ep, .int .i64 0, .int .i64 0], fun v _ => v = .bool false, fun v _ => v = .bool false,
    fun v _ => v = .pointer (some ⟨g5 + 1, 0, none⟩), fun v _ => v = .pointer (some ⟨g5, 3, none⟩), fun v _ => v = .slice (some ⟨gr, 0, none⟩) 120 rc, fun _ _ => True, fun _ _ => True, fun _ _ => True]
   [[(5, none)], [(26, some 0)], [(7, none)], [(28, some 2)], [(29, some 3)], [(30, some 4)], [(31, some 5)], [(27, some 1), (32, some 6)], [(33, some 7)], [(7, none), (34, some 8)], [(5, none), (34, some 8)], [(36, some 10), (34, some 8)], [(35, some 9), (37, some 11), (34, some 8)], [(38, some 12), (34, some 8)], [(34, some 8), (39, some 13)]] [some 26, some 27, some 28, some 29, some 30, some 31, some 32, some 33, some 34, some 35, some 36, some 37, some 38, some 39, some 40] [false, false, false, false, false, false, false, false, false, false, false, false, false, false, false, false, false, false, false, false, false, false, false, false, false, false, true, true, true, true, true, true, true, true, true, true, true, true, true, true, true, false, false, false, false, false, false, false, false, false, false, false]
   12 _ rfl (Nat.le_of_ble_eq_true (n := 13) (by kernel_rfl)) (by kernel_rfl) (by kernel_rfl) (by kernel_rfl) (by kernel_rfl) (by kernel_rfl) (by kernel_rfl) ?_ ?_ ?_ ?_
  ·repeat' (first | exact stable_eq _ | exact stable_true | exact trivial | apply And.intro)
  ·refine ⟨?_, ?_, ?_, ?_, ?_, ?_, ?_, ?_, ?_, ?_, ?_, ?_, trivial⟩
   all_goals
    intro a' z hbz hf
    have z5 := (hbz.block _ (by omega)).trans (unhide H5)
    have z6 := (hbz.block _ hxx).trans (unhide H6)
    have d0 := blk_cell (i := 0) z5
    have d1 := blk_cell (i := 1) z5
    have d2 := blk_cell (i := 2) z5
    have d3 := blk_cell (i := 3) z5
    have e1 := blk_cell (i := 1) z6
    simp [newArrE] at d0 d1 d2 d3 e1
    clear hbz z5 z6
    simp only [PlanFacts, List.getD_cons_zero, List.getD_cons_succ, Array.getD_eq_getD_getElem?] at hf
    try simp at hf
    try (have hg : a'.tmps[34]? = some (.bool false) := tmpB (by first | exact hf | exact hf.1 | exact hf.2 | exact hf.2.2))
    try go_simp
    try simp only [hg, if_true]
    try go_simp
    try exact Below.refl _ _
   all_goals first
    | exact ⟨rfl, Below.refl _ _⟩
    | exact ⟨_, rfl, Below.refl _ _, rfl⟩
    | (refine (unhide (hNO _)).mono ?_; rintro e x' ⟨rfl, hb⟩; exact ⟨rfl, hb⟩)
    | (refine (unhide (hNO _)).mono ?_; rintro e x' ⟨rfl, hb⟩; exact ⟨_, rfl, hb, rfl⟩)
    | skip
  ·intro f z hwd
   simp only [AllWords, List.take] at hwd
   have h8 := hwd.2.2.2.2.2.2.2.2.1
   clear hwd
   simp only [mergeT, h8]
   rfl
  ·intro f z hbz hwd
   simp only [AllWords, List.take] at hwd
   have h8 := hwd.2.2.2.2.2.2.2.2.1
   have h9 := hwd.2.2.2.2.2.2.2.2.2.1
   have h11 := hwd.2.2.2.2.2.2.2.2.2.2.2.1
   have z6 := (hbz.block _ hxx).trans (unhide H6)
   have hzr := ownsRow_keepB (unhide HRX) (fun g hg => hbz.block g (World.ownsRow.lt (unhide HRX) g hg).2)
   have HC := hide (unhide (hLD z z6 hzr))
   have HBZ := hide hbz
   clear hwd z6 hzr hbz hLD
   simp only [mergeT, h8, h9, h11]
   generalize f 26 = x26
   generalize f 27 = x27
   generalize f 28 = x28
   generalize f 29 = x29
   generalize f 30 = x30
   generalize f 31 = x31
   generalize f 32 = x32
   generalize f 33 = x33
   go_simp
   refine (unhide HC).mono ?_
   rintro e x' ⟨rfl, hF, hl⟩
   have HFX := hide hF
   have HLX := hide hl
   clear hF hl
   intro fuel hfu
   obtain ⟨m, rfl⟩ : ∃ m, fuel = m + 2 := ⟨fuel - 2, by omega⟩
   refine wpAny_one (i := 13) (by kernel_rfl) rfl rfl ?_
   go_simp
   refine wpAny_one (i := 14) (by kernel_rfl) rfl rfl ?_
   go_simp
   refine wpAny_end (by kernel_rfl) ?_
   have hFw : Far (fun k => k = g5 + 1) w x' := (far_below (E := fun k => k = g5 + 1) (unhide HB)).trans ((far_below (E := fun k => k = g5 + 1) (unhide HBZ)).trans (unhide HFX) (fun _ _ h => h)) (fun _ _ h => h)
   have hbw : Below w.heap.size w x' := hFw.below (Nat.le_refl _) (fun k hk h => by omega)
   cases res with
   | none =>
    have HBW := hide hbw
    clear hbw hFw HC HLX HFX HBZ
    go_wp2
    go_ret2
    first | exact .inl ⟨.inr rfl, rfl, unhide HBW⟩ | exact ⟨rfl, unhide HBW⟩ | exact .inl ⟨rfl, unhide HBW⟩
   | some logs =>
    have hL := (unhide HLX) logs rfl
    have hLx := hL.behind (unhide HBZ)
    have hFx : Far (fun k => k = g5 + 1) x x' := (far_below (E := fun k => k = g5 + 1) (unhide HBZ)).trans (unhide HFX) (fun _ _ h => h)
    have hSx' := (unhide hSTx).far hFx (fun k hk e => hnS (by rw [← e]; exact hk))
    obtain ⟨arr, lv', K, _, _⟩ := hL
    have hpx' := lt_of_block K.blk
    have q11 : x'.cell? ⟨g5 + 1, 11, none⟩ = some (.slice none 0 0) := by rw [blk_cell K.blk]; exact K.ar
    have hca : ∀ o, (x'.alloc o).cell? ⟨g5 + 1, 11, none⟩ = some (.slice none 0 0) := fun o => (World.cell?_alloc_lt x' _ ⟨g5 + 1, 11, none⟩ hpx').trans q11
    have hfa : ∀ o, (x'.alloc o).frozen? ⟨g5 + 1, 11, none⟩ = false := fun o => blk_free (i := 11) ((hao _ _ hpx').trans K.blk)
    have hzg : ¬ g5 + 1 = x'.heap.size := by omega
    have HLL := hide (And.intro hLx (And.intro hSx' hbw))
    clear q11 hLx hSx' K hFx hFw HLX HFX HBZ HC
    go_wp2
    go_ret2
    obtain ⟨hL, hS, hbw⟩ := unhide HLL
    obtain ⟨R, hR⟩ : ∃ R, R = Obj.cells (rulesOf (g5 + 1)).toArray 179 (0, 0) := ⟨_, rfl⟩
    obtain ⟨z2, hz2⟩ : ∃ z2, z2 = x'.setCell ⟨g5 + 1, 11, none⟩ (.slice (some ⟨x'.heap.size, 0, none⟩) 2 2) := ⟨_, rfl⟩
    have hsz2 : z2.heap.size = x'.heap.size := by rw [hz2, World.size_setCell]
    have hr2 : RowO (z2.alloc R) 179 2 (.slice (some ⟨x'.heap.size, 0, none⟩) 2 2) 2 (rulesOf (g5 + 1)) := by
     refine ⟨by simp [rulesOf], .inr ⟨x'.heap.size, 0, 2, (rulesOf (g5 + 1)).toArray, rfl, ?_, by omega, by unfold maxLen; omega, by simp [rulesOf], by simp [rulesOf]⟩⟩
     rw [← hsz2, heap_alloc_new, hR]
    obtain ⟨c, hPK, hPU⟩ := pkAt_ld hL hS (unhide HH).2.2.1 (fun k hk e => hnS (by rw [← e]; exact hk)) hz2 hr2
    have hR2 : R = Obj.cells #[.int .i64 1, .func (.func 109) #[.pointer (some ⟨g5 + 1, 0, none⟩)] #[], .int .i64 3, .func (.func 110) #[.pointer (some ⟨g5 + 1, 0, none⟩)] #[]] 179 (0, 0) := by rw [hR]; rfl
    subst hR2
    subst hz2
    have hwx := (unhide HB).size
    refine .inr ⟨(unhide HBD).1, (unhide HBD).2, logs, g5 + 1, c, rfl, rfl, hPK, ?_, fun k hk => ?_⟩
    ·exact (hbw.setCell (p := ⟨g5 + 1, 11, none⟩) (by show w.heap.size ≤ g5 + 1; omega) _).alloc (by rw [World.size_setCell]; exact hbw.size) _
    ·rcases hPU k hk with h | h | h | h
     ·omega
     ·omega
     ·exact (unhide HSU) k h
     ·have h2 : some x'.heap.size = some k := h
      injection h2 with h2
      have := hbw.size
      omega
 ·have heq : ∀ z : World, (Op.equalIn 10000 136 (.agg #[.int .i64 ep, .int .i64 nb, .int .i64 nd]) (.agg #[.int .i64 ep, .int .i64 0, .int .i64 0])).run Tryz.prog z = .ok false z := fun z => by
   rw [eq_nums]
   congr 1
   by_cases e1 : nb = 0
   ·have e2 : ¬ nd = 0 := fun e => hbd ⟨e1, e⟩
    have : ((nd : Int) == 0) = false := by simp; omega
    simp [e1, this]
   ·have : ((nb : Int) == 0) = false := by simp; omega
    simp [this]
  have HBD := hide hbd
  clear hbd HRX
  refine wp_region_frame (by kernel_rfl)
   [fun v _ => v = .pointer (some ⟨g5, 0, none⟩), fun v _ => v = .agg #[.int .i64 ep, .int .i64 nb, .int .i64 nd], fun v _ => v = .pointer (some ⟨g5 + 1, 0, none⟩), fun v _ => v = .pointer (some ⟨g5 + 1, 0, none⟩), fun v _ => v = .pointer (some ⟨g5 + 1, 1, none⟩), fun v _ => v = .int .i64 ep, fun v _ => v = .agg #[.int .i64 ep, .int .i64 0, .int .i64 0], fun v _ => v = .bool true, fun v _ => v = .bool true,
    fun _ _ => True, fun _ _ => True, fun _ _ => True, fun _ _ => True, fun _ _ => True, fun v _ => v = .bool true]
   [[(5, none)], [(26, some 0)], [(7, none)], [(28, some 2)], [(29, some 3)], [(30, some 4)], [(31, some 5)], [(27, some 1), (32, some 6)], [(33, some 7)], [(7, none), (34, some 8)], [(5, none), (34, some 8)], [(36, some 10), (34, some 8)], [(35, some 9), (37, some 11), (34, some 8)], [(38, some 12), (34, some 8)], [(34, some 8), (39, some 13)]] [some 26, some 27, some 28, some 29, some 30, some 31, some 32, some 33, some 34, some 35, some 36, some 37, some 38, some 39, some 40] [false, false, false, false, false, false, false, false, false, false, false, false, false, false, false, false, false, false, false, false, false, false, false, false, false, false, true, true, true, true, true, true, true, true, true, true, true, true, true, true, true, false, false, false, false, false, false, false, false, false, false, false]
   (by kernel_rfl) (by kernel_rfl) (by kernel_rfl) (by kernel_rfl) ?_ ?_ ?_
  ·repeat' (first | exact stable_eq _ | exact stable_true | exact trivial | apply And.intro)
  ·refine ⟨?_, ?_, ?_, ?_, ?_, ?_, ?_, ?_, ?_, ?_, ?_, ?_, ?_, ?_, ?_, trivial⟩
   all_goals
    intro a' z hbz hf
    have z5 := (hbz.block _ (by omega)).trans (unhide H5)
    have z6 := (hbz.block _ hxx).trans (unhide H6)
    have d0 := blk_cell (i := 0) z5
    have d1 := blk_cell (i := 1) z5
    have d2 := blk_cell (i := 2) z5
    have d3 := blk_cell (i := 3) z5
    have e1 := blk_cell (i := 1) z6
    simp [newArrE] at d0 d1 d2 d3 e1
    clear hbz z5 z6
    simp only [PlanFacts, List.getD_cons_zero, List.getD_cons_succ, Array.getD_eq_getD_getElem?] at hf
    try simp at hf
    try (have hg : a'.tmps[34]? = some (.bool true) := tmpB (by first | exact hf | exact hf.1 | exact hf.2 | exact hf.2.2))
    try go_simp
    try exact Below.refl _ _
    try trivial
   all_goals first
    | exact ⟨rfl, Below.refl _ _⟩
    | exact ⟨_, rfl, Below.refl _ _, rfl⟩
    | (refine (unhide (hNO _)).mono ?_; rintro e x' ⟨rfl, hb⟩; exact ⟨rfl, hb⟩)
    | (refine (unhide (hNO _)).mono ?_; rintro e x' ⟨rfl, hb⟩; exact ⟨_, rfl, hb, rfl⟩)
    | skip
  ·intro f z hbz hwd
   simp only [AllWords] at hwd
   have h14 := hwd.2.2.2.2.2.2.2.2.2.2.2.2.2.2.1
   have HBZ := hide ((unhide HB).trans (hbz.mono (unhide HB).size))
   clear hwd hbz
   simp only [mergeT, h14]
   generalize f 26 = x26
   generalize f 27 = x27
   generalize f 28 = x28
   generalize f 29 = x29
   generalize f 30 = x30
   generalize f 31 = x31
   generalize f 32 = x32
   generalize f 33 = x33
   generalize f 34 = x34
   generalize f 35 = x35
   generalize f 36 = x36
   generalize f 37 = x37
   generalize f 38 = x38
   generalize f 39 = x39
   go_wp2
   go_ret2
   first | exact .inl ⟨.inl (unhide HBD), rfl, unhide HBZ⟩ | exact ⟨.inl (unhide HBD), rfl, unhide HBZ⟩
end Go.Proofs.YtamafdcnbcoegaaGreat
namespace Go.Proofs.YtamafdcnbcoegaaGreat
open Go.RowKit
structure Alv (op ct n : Nat) (st : Mod.Stv) (e : Nat) (logs : Nat → List ByteArray) : Prop where
 dead : st.dk.dead = false
 arm : st.dk.armed = n
 op : st.opening = op
 ct : st.count ≤ ct
 dk : Mod.SkDisk st.dk.bytes st.opening st.count st.head e logs
structure Ded (op : Nat) (st : Mod.Stv) (e : Nat) (logs : Nat → List ByteArray) : Prop where
 dead : st.dk.dead = true
 op : st.opening = op
 dk : ∃ ct hd, Mod.SkDisk st.dk.bytes st.opening ct hd e logs
theorem alv_next {op ct n : Nat} {st : Mod.Stv} {e : Nat} {logs : Nat → List ByteArray} (h : Alv op ct n st e logs) (hct : ct + 1 < 18446744073709551616) : st.next = st.count + 1 := by
 have := h.ct
 unfold Mod.Stv.next
 omega
theorem alv_rec {op ct n : Nat} {st : Mod.Stv} {e : Nat} {logs : Nat → List ByteArray} (h : Alv op ct n st e logs) (hct : ct + 1 < 18446744073709551616) (hn : n ≠ 1) {s : Nat} (hs : s < 3) {b : ByteArray} (hb : b.size ≤ 20) (hr : Mod.cnt logs < 120) :
  (st.putRecord (Mod.cnt logs) s ((logs s).length + 1) b.data.toList).1 = 0 ∧ Alv op (ct + 1) (n - 1) (st.putRecord (Mod.cnt logs) s ((logs s).length + 1) b.data.toList).2 e (Mod.logAdd logs s b) := by
 have hnx := alv_next h hct
 have hd := h.dk.commit (b := b) hs hb hr (by have := h.ct; omega)
 have h1 := h.dead
 have h2 := h.arm
 have h3 := h.ct
 unfold Mod.Stv.putRecord Mod.Dk.put
 rw [if_neg (by rw [h1]; simp), if_neg (by rw [h2]; exact hn), hnx]
 exact ⟨rfl, rfl, by show st.dk.armed - 1 = n - 1; rw [h2], h.op, by show st.count + 1 ≤ ct + 1; omega, hd⟩
theorem ded_rec {op ct : Nat} {st : Mod.Stv} {e : Nat} {logs : Nat → List ByteArray} (h : Alv op ct 1 st e logs) (k s q : Nat) (b : List UInt8) :
  (st.putRecord k s q b).1 = 4 ∧ Ded op (st.putRecord k s q b).2 e logs := by
 have h1 := h.dead
 have h2 := h.arm
 unfold Mod.Stv.putRecord Mod.Dk.put
 rw [if_neg (by rw [h1]; simp), if_pos h2]
 exact ⟨rfl, rfl, h.op, _, _, h.dk⟩
theorem alv_num {op ct n : Nat} {st : Mod.Stv} {e : Nat} {logs : Nat → List ByteArray} (h : Alv op ct n st e logs) (hct : ct + 1 < 18446744073709551616) (hn : n ≠ 1) {e' : Nat} (he : e' ≤ 2147483647) :
  (st.putNumbers e' 0 0).1 = 0 ∧ Alv op (ct + 1) (n - 1) (st.putNumbers e' 0 0).2 e' logs := by
 have hnx := alv_next h hct
 have hd := h.dk.epoch he (by have := h.ct; omega)
 have h1 := h.dead
 have h2 := h.arm
 have h3 := h.ct
 unfold Mod.Stv.putNumbers Mod.Dk.put
 rw [if_neg (by rw [h1]; simp), if_neg (by rw [h2]; exact hn), hnx]
 exact ⟨rfl, rfl, by show st.dk.armed - 1 = n - 1; rw [h2], h.op, by show st.count + 1 ≤ ct + 1; omega, hd⟩
theorem ded_num {op ct : Nat} {st : Mod.Stv} {e : Nat} {logs : Nat → List ByteArray} (h : Alv op ct 1 st e logs) (a b c : Nat) :
  (st.putNumbers a b c).1 = 4 ∧ Ded op (st.putNumbers a b c).2 e logs := by
 have h1 := h.dead
 have h2 := h.arm
 unfold Mod.Stv.putNumbers Mod.Dk.put
 rw [if_neg (by rw [h1]; simp), if_pos h2]
 exact ⟨rfl, rfl, h.op, _, _, h.dk⟩
def DeadAt (op : Nat) (w x : World) (p e : Nat) (logs : Nat → List ByteArray) (c : Sv) : Prop := ∃ sh st, PkStep w x p e logs sh st c ∧ Ded op st e logs
def CmG (op ct n : Nat) (w x : World) (p : Nat) (a : Mod.Sk) (i : Nat) (b : ByteArray) (c : Sv) (out : List ByteArray) : Prop :=
 ∃ sh st, InCm a i ((a.logs i).length + 1) b out sh ∧ (Alv op (ct + out.length) (n - out.length) st a.epoch (grown a i out).logs ∧ (n = 0 ∨ out.length < n)) ∧ PkStep w x p a.epoch (grown a i out).logs sh st c
theorem grown_add (a : Mod.Sk) (s : Nat) (out : List ByteArray) (c : ByteArray) : Mod.logAdd (grown a s out).logs s c = (grown a s (out ++ [c])).logs := by
 have := grown_snoc a s out c
 exact this
theorem commit_gen {op ct n : Nat} {w : World} {p : Nat} {a : Mod.Sk} {sh : Nat → List (Nat × Value)} {st : Mod.Stv} {c : Sv} {out : List ByteArray} {i : Nat} (hi : i < 3) (H : PkAt w p a.epoch (grown a i out).logs sh st c) (hs : Alv op (ct + out.length) (n - out.length) st a.epoch (grown a i out).logs) (hn : n = 0 ∨ out.length < n) (b : ByteArray) (hb : b.size ≤ 20) (hroom : a.count + out.length < 120) (hct : ct + 1000 < 18446744073709551616) :
  Calls Tryz.prog 222 #[ptrTo p, .int .i64 i, .string b] w fun r w' =>
   (r = .returned (.int .i64 0) ∧ (n = 0 ∨ out.length + 1 < n) ∧ ∃ st', Alv op (ct + (out ++ [b]).length) (n - (out ++ [b]).length) st' a.epoch (grown a i (out ++ [b])).logs ∧ PkStep w w' p a.epoch (grown a i (out ++ [b])).logs sh st' c) ∨
   (r = .returned (.int .i64 4) ∧ n = out.length + 1 ∧ DeadAt op w w' p a.epoch (grown a i out).logs c) := by
 have hcn : Mod.cnt (grown a i out).logs < 120 := by
  have := grown_sum a i hi out
  unfold Mod.cnt
  omega
 refine (commit_any H i hi b hb (by rw [grown_sum a i hi]; exact hroom)).mono ?_
 rintro r w' ⟨rfl, h⟩
 by_cases h1 : n = out.length + 1
 ·right
  have hs1 : Alv op (ct + out.length) 1 st a.epoch (grown a i out).logs := by rw [show n - out.length = 1 by omega] at hs; exact hs
  obtain ⟨k1, k2⟩ := ded_rec hs1 (((grown a i out).logs 0).length + ((grown a i out).logs 1).length + ((grown a i out).logs 2).length) i (((grown a i out).logs i).length + 1) b.data.toList
  rw [k1, if_neg (by omega)] at h
  exact ⟨by rw [k1], h1, sh, _, h, k2⟩
 ·left
  obtain ⟨k1, k2⟩ := alv_rec hs (by omega) (by omega) hi hb hcn
  unfold Mod.cnt at k1 k2
  rw [k1, if_pos rfl, grown_snoc] at h
  rw [grown_add] at k2
  refine ⟨by rw [k1], by omega, _, ?_, h⟩
  rw [List.length_append, List.length_singleton, show ct + (out.length + 1) = ct + out.length + 1 by omega, show n - (out.length + 1) = n - out.length - 1 by omega]
  exact k2
theorem commit_ok {op ct n : Nat} {w : World} {p : Nat} {a : Mod.Sk} {sh : Nat → List (Nat × Value)} {st : Mod.Stv} {c : Sv} {out : List ByteArray} {i : Nat} (hi : i < 3) (H : PkAt w p a.epoch (grown a i out).logs sh st c) (hs : Alv op (ct + out.length) (n - out.length) st a.epoch (grown a i out).logs) (hn : n = 0 ∨ out.length < n) (b : ByteArray) (hb : b.size ≤ 20) (hroom : a.count + out.length < 120) (hct : ct + 1000 < 18446744073709551616) (h1 : n ≠ out.length + 1) :
  Calls Tryz.prog 222 #[ptrTo p, .int .i64 i, .string b] w fun r w' =>
   r = .returned (.int .i64 0) ∧ ∃ st', (Alv op (ct + (out ++ [b]).length) (n - (out ++ [b]).length) st' a.epoch (grown a i (out ++ [b])).logs ∧ (n = 0 ∨ (out ++ [b]).length < n)) ∧ PkStep w w' p a.epoch (grown a i (out ++ [b])).logs sh st' c := by
 refine (commit_gen hi H hs hn b hb hroom hct).mono ?_
 rintro r w' (⟨h2, h3, st', h4, h5⟩ | ⟨_, h3, _⟩)
 ·exact ⟨h2, st', ⟨h4, by rw [List.length_append, List.length_singleton]; exact h3⟩, h5⟩
 ·exact absurd h3 h1
theorem commit_bad {op ct n : Nat} {w : World} {p : Nat} {a : Mod.Sk} {sh : Nat → List (Nat × Value)} {st : Mod.Stv} {c : Sv} {out : List ByteArray} {i : Nat} (hi : i < 3) (H : PkAt w p a.epoch (grown a i out).logs sh st c) (hs : Alv op (ct + out.length) (n - out.length) st a.epoch (grown a i out).logs) (hn : n = 0 ∨ out.length < n) (b : ByteArray) (hb : b.size ≤ 20) (hroom : a.count + out.length < 120) (hct : ct + 1000 < 18446744073709551616) (h1 : n = out.length + 1) :
  Calls Tryz.prog 222 #[ptrTo p, .int .i64 i, .string b] w fun r w' =>
   r = .returned (.int .i64 4) ∧ DeadAt op w w' p a.epoch (grown a i out).logs c := by
 refine (commit_gen hi H hs hn b hb hroom hct).mono ?_
 rintro r w' (⟨_, h3, _⟩ | ⟨h2, _, h4⟩)
 ·omega
 ·exact ⟨h2, h4⟩
theorem commitFrom_pre {a : Mod.Sk} {st q n : Nat} : ∀ (f : Nat) (out : List ByteArray), ∃ more, a.commitFrom st q n f out = out ++ more
 | 0, out => ⟨[], by simp [Mod.Sk.commitFrom]⟩
 | f + 1, out => by
  unfold Mod.Sk.commitFrom
  split
  ·split
   ·exact ⟨[], by simp⟩
   ·rename_i k _
    obtain ⟨m, h⟩ := commitFrom_pre (a := a) (st := st) (q := q) (n := n) f (out ++ [(a.held.getD k (0, 0, ⟨#[]⟩)).2.2])
    exact ⟨(a.held.getD k (0, 0, ⟨#[]⟩)).2.2 :: m, by rw [h, List.append_assoc]; rfl⟩
  ·exact ⟨[], by simp⟩
def FinD (op n : Nat) (w x : World) (p : Nat) (a : Mod.Sk) (i : Nat) (b : ByteArray) (c : Sv) : Prop :=
 1 ≤ n ∧ n ≤ (a.commitFrom i ((a.logs i).length + 1) a.count 120 [b]).length ∧ DeadAt op w x p a.epoch (grown a i ((a.commitFrom i ((a.logs i).length + 1) a.count 120 [b]).take (n - 1))).logs c
theorem inCm_pre {a : Mod.Sk} {s q : Nat} {b : ByteArray} {out : List ByteArray} {sh : Nat → List (Nat × Value)} (I : InCm a s q b out sh) : ∃ more, a.commitFrom s q a.count 120 [b] = out ++ more := by
 rw [← I.run]
 exact commitFrom_pre _ _
set_option maxRecDepth 100000 in
set_option maxHeartbeats 8000000 in
theorem commitFrom_gen {op ct n : Nat} {w : World} {p : Nat} {a : Mod.Sk} {sh : Nat → List (Nat × Value)} {st : Mod.Stv} {c : Sv} (H : PkAt w p a.epoch a.logs sh st c) (hc : Alv op ct n st a.epoch a.logs) (hct : ct + 1000 < 18446744073709551616) (G : SkGood a) (M : SkMore a) (O : OnSh a.held sh) (i : Nat) (hi : i < 3) (b : ByteArray) (hb : b.size ≤ 20) (hroom : a.count < 120) :
  Calls Tryz.prog 205 #[ptrTo p, .int .i64 i, .string b] w fun r w' =>
   (r = .returned (.int .i64 0) ∧ ∃ out, CmG op ct n w w' p a i b c out ∧ out = a.commitFrom i ((a.logs i).length + 1) a.count 120 [b]) ∨
   (r = .returned (.int .i64 4) ∧ FinD op n w w' p a i b c) := by
 have I0 := inCm_start G M O H.ks.are i b hi hb hroom
 have hn0 : n = 0 ∨ ([] : List ByteArray).length < n := by simp; omega
 have hpre0 := inCm_pre I0
 have hfail : ∀ out x, n = out.length + 1 → (∃ more, a.commitFrom i ((a.logs i).length + 1) a.count 120 [b] = out ++ more ∧ more ≠ []) → DeadAt op w x p a.epoch (grown a i out).logs c → FinD op n w x p a i b c := by
  rintro out x hn ⟨more, hm, hne⟩ hd
  have hml : 0 < more.length := List.length_pos_iff.2 hne
  refine ⟨by omega, by rw [hm, List.length_append]; omega, ?_⟩
  rw [hm, show n - 1 = out.length by omega, List.take_left']
  ·exact hd
  ·rfl
 have HFAIL := fun out x h1 h2 h3 => hide (hfail out x h1 h2 h3)
 clear hfail
 have hpl := lt_of_block H.ks.blk
 have hlen : (a.logs i).length ≤ 120 := H.ks.loglen hi
 have hi0 : (0 : Int) ≤ (i : Int) := by omega
 have hi3 : (i : Int) < 3 := by omega
 have HI0 := hide I0
 have hall : ∀ y, (∃ v : Int, (v = 0 ∧ ∃ out, CmG op ct n w y p a i b c out) ∨ (v = 4 ∧ FinD op n w y p a i b c)) → Hid (∃ v : Int, (v = 0 ∧ ∃ out, CmG op ct n w y p a i b c out) ∨ (v = 4 ∧ FinD op n w y p a i b c)) := fun y h => h
 have hC0 : Calls Tryz.prog 222 #[ptrTo p, .int .i64 i, .string b] w fun r y => ∃ v : Int, r = .returned (.int .i64 v) ∧ ((v = 0 ∧ ∃ out, CmG op ct n w y p a i b c out) ∨ (v = 4 ∧ FinD op n w y p a i b c)) := by
  by_cases h1 : n = ([] : List ByteArray).length + 1
  ·refine (commit_bad (out := []) hi (by rw [grown_zero]; exact H) (by rw [grown_zero]; exact hc) hn0 b hb (by simpa using hroom) hct h1).mono ?_
   rintro r y ⟨rfl, hd⟩
   obtain ⟨m, hm⟩ := hpre0
   exact ⟨4, rfl, .inr ⟨rfl, unhide (HFAIL [] y h1 ⟨_, by rw [hm]; rfl, by simp⟩ hd)⟩⟩
  ·refine (commit_ok (out := []) hi (by rw [grown_zero]; exact H) (by rw [grown_zero]; exact hc) hn0 b hb (by simpa using hroom) hct h1).mono ?_
   rintro r y ⟨rfl, st', h2, h3⟩
   exact ⟨0, rfl, .inl ⟨rfl, [b], sh, st', I0, by simpa using h2, by simpa using h3⟩⟩
 have hC0 := hide hC0
 clear H I0 hall hpre0 hn0
 unfold ptrTo at *
 go_enter Tryz.func205, Tryz.ntmps205
 go_upto_region 3 with (go_at_call 222; refine (unhide hC0).mono ?_; rintro r y ⟨v0, rfl, hv0⟩)
 have HV0 := hide hv0
 clear hv0 HI0 hC0
 go_loopw [8, 9, 10] (fun v8 _ _ wr => ∃ v : Int, v8 = .int .i64 v ∧ ((v = 0 ∧ ∃ out, CmG op ct n w wr p a i b c out) ∨ (v = 4 ∧ FinD op n w wr p a i b c))) (fun v8 _ _ wr => if intOf v8 = 0 then 200 - sliceLen (wr.cell? ⟨p, 2 + i * 3, none⟩) else 0)
 case atStart => exact ⟨v0, rfl, unhide HV0⟩
 case round =>
  obtain ⟨v, rfl, hrel⟩ := hrel
  clear HV0
  rcases hrel with ⟨rfl, hrel⟩ | ⟨rfl, hfin⟩
  ·obtain ⟨out, sh1, st1, I, hs1, hk1⟩ := hrel
   obtain ⟨c1, K1, F1, N1, e1, e2⟩ := id hk1
   have hgs := grown_self a i out
   obtain ⟨ad, cap, hlv, clog⟩ := K1.ks.logc hi
   rw [hgs, List.length_append] at hlv clog
   have hRM := hide (hasRoom_any K1.ks)
   rw [grown_sum a i hi] at hRM
   have HI := hide I
   have HK := hide hk1
   have HK1 := hide K1
   have hmes : 200 - sliceLen (wr.cell? ⟨p, 2 + i * 3, none⟩) = 200 - ((a.logs i).length + out.length) := by rw [clog]; rfl
   by_cases hr : a.count + out.length < 120
   ·rw [decide_eq_true hr] at hRM
    obtain ⟨q, hq⟩ : ∃ q, q = (a.logs i).length + out.length + 1 := ⟨_, rfl⟩
    have hoL : out.length ≤ 120 := by omega
    have hNX := fun y (hy : Below wr.heap.size wr y) => hide (sinkNext_any y p (2 + i * 3) _ cap ad ((hy.cell (p := ⟨p, 2 + i * 3, none⟩) (lt_of_block K1.ks.blk)).trans clog) (by omega))
    rw [← hq] at hNX
    have hTK : ∃ (tb : ByteArray) (hv : Bool) (sh2 : Nat → List (Nat × Value)), (∀ y, Below wr.heap.size wr y → Calls Tryz.prog 223 #[.pointer (some ⟨p, 2 + i * 3 + 1, none⟩), .int .i64 q] y fun r w' => r = .returned (.tuple #[.agg #[.string tb], .bool hv]) ∧ TkAt wr w' p a.epoch (grown a i out).logs sh2 st1 c1 ∧ Far (fun k => k = p ∨ ShU (c1.nv i) (c1.mv i) k) y w') ∧
      ((hv = true ∧ look (sh1 i) (q : Int) = some (recS tb) ∧ sh2 = fun t => if t = i then delL (sh1 i) q else sh1 t) ∨ (hv = false ∧ look (sh1 i) (q : Int) = none ∧ sh2 = sh1)) := by
     rcases areS_look (K1.ks.are i hi) (q : Int) with ⟨tb, hl⟩ | hl
     ·refine ⟨tb, true, _, ?_, .inl ⟨rfl, hl, rfl⟩⟩
      intro y hy
      have Ky := K1.far (far_below (E := fun _ => False) hy) (fun _ _ h => h)
      refine (takeS_some (Ky.shAt hi) q tb hl).mono ?_
      rintro r w' ⟨rfl, hT⟩
      obtain ⟨c', h1, h2, h3, h4, h5⟩ := tkAt_took Ky hi hT (fun x hx => K1.ks.are i hi x ((delL_sub _ _).subset hx))
      exact ⟨rfl, ⟨c', h1, h2, (far_below (E := PkU p c1) hy).trans h3 (fun _ _ h => h), h4, h5⟩, hT.far⟩
     ·refine ⟨⟨#[]⟩, false, _, ?_, .inr ⟨rfl, hl, rfl⟩⟩
      intro y hy
      have Ky := K1.far (far_below (E := fun _ => False) hy) (fun _ _ h => h)
      refine (takeS_none (Ky.shAt hi) q hl).mono ?_
      rintro r w' ⟨rfl, hT⟩
      exact ⟨rfl, ⟨c1, Ky.far (far_below (E := fun _ => False) hT) (fun _ _ h => h), fun _ h => h, (far_below (E := PkU p c1) hy).trans (far_below hT) (fun _ _ h => h), rfl, rfl⟩, far_below hT⟩
    have hEl : ∀ k, (k = p ∨ ShU (c1.nv i) (c1.mv i) k) → k < wr.heap.size := fun k hk => K1.ks.lt k (hk.elim .inl (fun h => .inr (.inr ⟨i, hi, h⟩)))
    have hUl : ∀ k, PkU p c1 k → k < wr.heap.size := K1.lt
    have hSort := (K1.ks.shs i hi).sorted
    have hN1 : ∀ k, PkU p c1 k → PkU p c k ∨ w.heap.size ≤ k := N1
    have hFw := F1
    obtain ⟨tb, hv, sh2, hT1, hT2⟩ := hTK
    have HT1 := hide hT1
    have HT2 := hide hT2
    have HQ := hide hq
    have HSORT := hide hSort
    have HMES := hide hmes
    have HFN := hide (And.intro hN1 (And.intro hFw (And.intro e1 e2)))
    clear hk1 K1 F1 N1 I hlv clog hgs hmes hT1 hT2 hq hSort hN1 hFw e1 e2
    unfold ptrTo at hRM
    go_upto_region 4 with (go_at_call 204; refine (unhide hRM).mono ?_; rintro r y ⟨rfl, rfl⟩)
    refine wp_region_key (by kernel_rfl)
     [fun v _ => v = .pointer (some ⟨p, 2 + i * 3, none⟩), fun v _ => v = .pointer (some ⟨p, 2 + i * 3, none⟩), fun v _ => v = .pointer (some ⟨p, 2 + i * 3 + 1, none⟩), fun v _ => v = .pointer (some ⟨p, 2 + i * 3, none⟩), fun v _ => v = .int .i64 q, fun v z => v = .tuple #[.agg #[.string tb], .bool hv] ∧ TkAt y z p a.epoch (grown a i out).logs sh2 st1 c1, fun v _ => v = .tuple #[.agg #[.string tb], .bool hv], fun v _ => v = .agg #[.string tb], fun v _ => v = .bool hv,
     fun v z => ∃ g x, v = .pointer (some ⟨g, 0, none⟩) ∧ y.heap.size ≤ g ∧ z.heap[g]? = some (.cells #[.string x] 235 (0, 0)), fun v z => ∃ g, v = .pointer (some ⟨g, 0, none⟩) ∧ y.heap.size ≤ g ∧ z.heap[g]? = some (.cells #[.string tb] 235 (0, 0)), fun v _ => v = .bool hv]
     [[(7, none)], [(27, some 0)], [(28, some 1)], [(7, none)], [(30, some 3)], [(29, some 2), (31, some 4)], [(32, some 5)], [(26, some 6)], [(26, some 6)], [], [(9, some 9), (33, some 7)], [(34, some 8)]] [27, 28, 29, 30, 31, 32, 26, 33, 34, 9, 9, 10] [false, false, false, false, false, false, false, false, false, true, true, false, false, false, false, false, false, false, false, false, false, false, false, false, false, false, true, true, true, true, true, true, true, true, true, false, false, false, false, false, false, false, false]
     [(5, fun k => k = p ∨ ShU (c1.nv i) (c1.mv i) k), (10, fun k => y.heap.size ≤ k)]
     10 RecKept recKept_refl
     (by kernel_rfl) (by kernel_rfl) (by kernel_rfl) (by kernel_rfl) (by kernel_rfl) (by kernel_rfl) ?_ ?_ ?_ ?_
    ·repeat' (first | exact stable_eq _ | exact stable_true | exact (fun _ u z h hb => ⟨h.1, h.2.far hUl (far_below (E := fun _ => False) hb) (fun _ h => h.elim)⟩) | exact (fun _ u z h hb => h.imp fun _ h => h.imp fun _ h => ⟨h.1, h.2.1, (hb.block _ (lt_of_block h.2.2)).trans h.2.2⟩) | exact (fun _ u z h hb => h.imp fun _ h => ⟨h.1, h.2.1, (hb.block _ (lt_of_block h.2.2)).trans h.2.2⟩) | exact trivial | apply And.intro)
    ·refine ⟨?_, ?_, trivial⟩
     ·repeat' (first | exact trivial | exact .inl rfl | exact .inr (.inr (stableX_of (stableF_eq _ _))) | exact .inr (.inr (stableX_of (fun _ u z h hF => h.imp fun g h => h.imp fun _ h => ⟨h.1, h.2.1, hF.blk h.2.2 (fun e => by have := hEl g e; omega)⟩))) | exact .inr (.inr (stableX_of (fun _ u z h hF => h.imp fun g h => ⟨h.1, h.2.1, hF.blk h.2.2 (fun e => by have := hEl g e; omega)⟩))) | apply And.intro)
     ·repeat' (first | exact trivial | exact .inl rfl | exact .inr (.inr (stableX_of (stableF_eq _ _))) | exact .inr (.inr (stableX_of (fun _ u z h hF => ⟨h.1, h.2.far hUl hF (fun _ h => h)⟩))) | exact .inr (.inr (fun _ u z h _ hX => h.imp fun g h => by obtain ⟨x, h1, h2, h3⟩ := h; obtain ⟨x', h4⟩ := hX rfl g x h3; exact ⟨x', h1, h2, h4⟩)) | apply And.intro)
    ·refine ⟨?_, ?_, ?_, ?_, ?_, ?_, ?_, ?_, ?_, ?_, ?_, ?_, trivial⟩
     all_goals
      intro a' z hb hf
      simp only [PlanFacts, List.getD_cons_zero, List.getD_cons_succ, Array.getD_eq_getD_getElem?] at hf
      try simp at hf
     iterate 4
      ·clear hb
       go_simp
       exact ⟨_, rfl, Far.refl _ _, rfl⟩
     ·have hbz : Below y.heap.size y z := hb.below (Nat.le_refl _) (by
       rintro k hk ⟨q', hq', g1, g2, g3⟩
       simp at hq'
       rcases hq' with rfl | rfl
       ·exact absurd (show depB _ 5 4 = false from g2) (by decide +kernel)
       ·have g3 : y.heap.size ≤ k := g3
        omega)
      have HC := hide (unhide (hNX z hbz))
      clear hb hbz
      go_simp
      refine (unhide HC).mono ?_
      rintro r z2 ⟨rfl, rfl⟩
      exact ⟨_, rfl, Far.refl _ _, rfl⟩
     ·have hbz : Below y.heap.size y z := hb.below (Nat.le_refl _) (by
       rintro k hk ⟨q', hq', g1, g2, g3⟩
       simp at hq'
       rcases hq' with rfl | rfl
       ·exact g1 rfl
       ·have g3 : y.heap.size ≤ k := g3
        omega)
      have HC := hide ((unhide HT1) z hbz)
      clear hb hbz
      go_simp
      refine (unhide HC).mono ?_
      rintro r z2 ⟨rfl, h1, h2⟩
      exact ⟨_, rfl, footOf_of (.head _) h2, ⟨rfl, h1⟩⟩
     ·obtain ⟨hf, _⟩ := hf
      clear hb
      go_simp
      exact ⟨_, rfl, Far.refl _ _, rfl⟩
     iterate 2
      ·clear hb
       go_simp
       exact ⟨_, rfl, Far.refl _ _, rfl⟩
     ·have hzz := hb.size
      clear hb
      go_simp
      exact ⟨_, rfl, far_below ((Below.refl _ _).alloc (Nat.le_refl _) _), ⟨_, rfl, hzz, ⟨#[]⟩, heap_alloc_new _ _⟩⟩
     ·obtain ⟨⟨g, hg1, hg2, x0, hg3⟩, hf33⟩ := hf
      clear hb
      have y0 : z.cell? ⟨g, 0, none⟩ = some (.string x0) := blk_cell (i := 0) hg3
      have yf : z.frozen? ⟨g, 0, none⟩ = false := blk_free (i := 0) hg3
      have HG := hide (And.intro hg2 hg3)
      clear hg2 hg3
      have hk9 := hg1
      go_simp
      obtain ⟨g1, g2⟩ := unhide HG
      refine ⟨footOf_of (.tail _ (.head _)) ((far_set z g 0 (.string tb)).mono (fun k _ e => by rw [e]; exact g1)), ⟨undef, g, ?_, g1, ?_⟩, ?_⟩
      ·show a'.tmps.getD 9 undef = _
       rw [Array.getD_eq_getD_getElem?]
       exact hk9
      ·have := blk_set (j := 0) (v := .string tb) g2
       simpa using this
      ·exact recKept_set z g tb
     ·clear hb
      go_simp
      exact ⟨_, rfl, Far.refl _ _, rfl⟩
    ·intro f z hF hwd
     obtain ⟨_, hT⟩ := hwd.2.2.2.2.2.1
     obtain ⟨g, hg1, hg2, hg3⟩ := hwd.2.2.2.2.2.2.2.2.2.2.1
     have h10 := hwd.2.2.2.2.2.2.2.2.2.2.2.1
     clear hwd hF
     simp only [mergeT, hg1, h10]
     generalize f 26 = x26
     generalize f 27 = x27
     generalize f 28 = x28
     generalize f 29 = x29
     generalize f 30 = x30
     generalize f 31 = x31
     generalize f 32 = x32
     generalize f 33 = x33
     generalize f 34 = x34
     obtain ⟨hN1, hFw, e1, e2⟩ := unhide HFN
     obtain ⟨c2, K2, S2, F2, t1, t2⟩ := hT
     have hST : PkStep w z p a.epoch (grown a i out).logs sh2 st1 c := ⟨c2, K2, hFw.trans F2 (fun k hk hu => (hN1 k hu).elim id (fun h => by omega)), fun k hk => hN1 k (S2 k hk), t1.trans e1, t2.trans e2⟩
     have HST := hide hST
     have zb : z.cell? ⟨g, 0, none⟩ = some (.string tb) := blk_cell (i := 0) hg3
     have HK2 := hide K2
     have hlow : ∀ k, PkU p c2 k → PkU p c k ∨ w.heap.size ≤ k := fun k hk => hN1 k (S2 k hk)
     have hfz := hFw.trans F2 (fun k hk hu => (hN1 k hu).elim id (fun h => by omega))
     have HLOW := hide (And.intro hlow (And.intro hfz (And.intro (t1.trans e1) (t2.trans e2))))
     rcases unhide HT2 with ⟨rfl, hl, hsh⟩ | ⟨rfl, hl, hsh⟩
     ·have hq := unhide HQ
      have I := unhide HI
      have hbt : tb.size ≤ 20 := M.bod _ ((I.on i hi q tb).1 hl).1
      rw [hq] at hl hsh
      have I2 := inCm_next G M hi I hr (unhide HSORT) hl
      rw [← hsh] at I2
      obtain ⟨hsa, hsn⟩ := hs1
      obtain ⟨more2, hm2⟩ := inCm_pre I2
      have hcomp : ∀ logs sh st u, PkStep z u p a.epoch logs sh st c2 → PkStep w u p a.epoch logs sh st c := by
       rintro logs sh st u ⟨c3, K3, F3, N3, s1, s2⟩
       refine ⟨c3, K3, hfz.trans F3 (fun k hk hu => (hlow k hu).elim id (fun h => by omega)), fun k hk => ?_, s1.trans (t1.trans e1), s2.trans (t2.trans e2)⟩
       have hsz := hfz.size
       rcases N3 k hk with h | h
       ·exact hlow k h
       ·exact .inr (Nat.le_trans hsz h)
      have hCM : Calls Tryz.prog 222 #[ptrTo p, .int .i64 i, .string tb] z fun r u => ∃ v : Int, r = .returned (.int .i64 v) ∧ ((v = 0 ∧ CmG op ct n w u p a i b c (out ++ [tb])) ∨ (v = 4 ∧ FinD op n w u p a i b c)) := by
       by_cases h1 : n = out.length + 1
       ·refine (commit_bad (out := out) hi K2 hsa hsn tb hbt hr hct h1).mono ?_
        rintro r u ⟨rfl, sh3, st3, hd1, hd2⟩
        exact ⟨4, rfl, .inr ⟨rfl, unhide (HFAIL out u h1 ⟨tb :: more2, by rw [hm2]; simp, by simp⟩ ⟨sh3, st3, hcomp _ _ _ _ hd1, hd2⟩)⟩⟩
       ·refine (commit_ok (out := out) hi K2 hsa hsn tb hbt hr hct h1).mono ?_
        rintro r u ⟨rfl, st', h2, h3⟩
        exact ⟨0, rfl, .inl ⟨rfl, sh2, st', I2, h2, hcomp _ _ _ _ h3⟩⟩
      have HCM := hide hCM
      unfold ptrTo at HCM
      clear hl hsh hq I I2 hST K2 S2 F2 hlow hfz hN1 hFw e1 e2 t1 t2 hg3 HT1 HT2 HQ HI HK HK1 HFN HST hcomp hCM hsa hsn hm2 HLOW HK2
      go_wp2_with (go_at_call 222; refine (unhide HCM).mono ?_; rintro r u ⟨v, rfl, hv⟩; replace hv := hide hv)
      have hmes := unhide HMES
      go_roundw
      case rel =>
       rcases unhide hv with ⟨rfl, h⟩ | ⟨rfl, h⟩
       ·exact ⟨0, rfl, .inl ⟨rfl, _, h⟩⟩
       ·exact ⟨4, rfl, .inr ⟨rfl, h⟩⟩
      case measure =>
       rcases unhide hv with ⟨rfl, sh3, st3, _, _, c3, K3, _⟩ | ⟨rfl, h⟩
       ·obtain ⟨ad3, cap3, _, cl⟩ := K3.ks.logc hi
        rw [hmes, cl]
        show (if (0 : Int) = 0 then 200 - ((grown a i (out ++ [tb])).logs i).length else 0) < (if (0 : Int) = 0 then _ else 0)
        rw [if_pos rfl, if_pos rfl, grown_self, List.length_append, List.length_append, List.length_singleton]
        have hcl := count_len (a := a) hi
        omega
       ·rw [hmes]
        show (if (4 : Int) = 0 then _ else 0) < (if (0 : Int) = 0 then _ else 0)
        rw [if_neg (by omega), if_pos rfl]
        have hcl := count_len (a := a) hi
        omega
     ·have hq := unhide HQ
      have I := unhide HI
      rw [hq] at hl
      have HOUT := hide (inCm_stop hi I (.inr hl))
      subst hsh
      clear hl hq I hST K2 S2 F2 hlow hfz hN1 hFw e1 e2 t1 t2 hg3 HT1 HT2 HQ HK HK1 HFN HLOW HK2
      go_wp2
      go_ret
      exact .inl ⟨rfl, out, ⟨_, st1, unhide HI, hs1, unhide HST⟩, unhide HOUT⟩
   ·rw [decide_eq_false hr] at hRM
    have HST := hide (inCm_stop hi I (.inl hr))
    clear hk1 K1 F1 N1 I hlv clog hgs hmes
    unfold ptrTo at hRM
    go_wp2_with (go_at_call 204; refine (unhide hRM).mono ?_; rintro r y ⟨rfl, rfl⟩)
    go_ret
    exact .inl ⟨rfl, out, ⟨sh1, st1, unhide HI, hs1, unhide HK⟩, unhide HST⟩
  ·have HFN := hide hfin
   clear hfin HFAIL
   go_wp2
   go_ret
   exact .inr ⟨rfl, unhide HFN⟩
end Go.Proofs.YtamafdcnbcoegaaGreat
