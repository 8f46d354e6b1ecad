/-
  Part 16 of a proof: V5, T9, V6, T10, V7, CodesProof, V8, V9.
-/
import Derived.ProofKit
import Derived.SizedLaws
import Derived.OpenShut
import Derived.ShutString
import Derived.ChangeOld
import Derived.Lib.SmallJoins
import Derived.Deep.Slices
import Derived.JoinedCond
import Derived.Test.YtamafdcnbcoegaaGreatSd15
namespace Go.Proofs.YtamafdcnbcoegaaGreat
open Go.RowKit

/-- All the agents of a script. -/
def Agents {top : Nat} (C : AgentC top) (B D n : Nat) (x : World) (wb : Nat) : Prop := ∃ A ssv as_ hv hs its, AgentsAt C B n A x wb ssv as_ hv hs its ∧ ABnd D wb ssv hv its

set_option maxRecDepth 100000 in
set_option maxHeartbeats 8000000 in
theorem step_agent {top : Nat} (C : AgentC top) (B D n : Nat) (A : Nat → Nat → Prop) (w : World) (wb : Nat) (ssv as_ hv : Value) (hs : List Nat) (its : List AgItem) (kd nn i : Int) (s : ByteArray) (kp fk fe fst fq : Int) (fb : ByteArray)
    (S : AgentsAt C B n A w wb ssv as_ hv hs its) (hc : -9223372036854775808 ≤ nn ∧ nn ≤ 9223372036854775807) (h0 : 0 < its.length) (it : AgItem) (hit : its[pickN nn its.length]? = some it) (hkd : kd = 4 ∨ kd = 5 ∨ kd = 6 ∨ kd = 7)
    (HO : ∀ x, Below w.heap.size w x → Calls Tryz.prog 80 #[ptrTo wb, ptrTo it.q, opVal kd nn i s kp fk fe fst fq fb] x fun r y => r = .returned (.bool true) ∧ Agents C B y.heap.size (n + 52) y wb ∧ Far (fun k => B ≤ k ∧ k < D) x y) :
    Calls Tryz.prog 48 #[ptrTo wb, opVal kd nn i s kp fk fe fst fq fb] w fun r w' => r = .returned (.bool true) ∧ Agents C B w'.heap.size (n + 52) w' wb ∧ Far (fun k => B ≤ k ∧ k < D) w w' := by
  have HOO := fun x h => hide (HO x h)
  have hrow := S.row
  have hbx := hide S.bx
  have hwl := lt_of_block S.wat.blk
  have hjl := pickN_lt nn h0
  have h6 := S.six
  obtain ⟨g, cap, hg1⟩ : ∃ g cap, ssv = .slice (some ⟨g, 0, none⟩) its.length cap := by
    obtain ⟨g, cap, h⟩ := own_shape hrow (by omega)
    exact ⟨g, cap, h⟩
  subst hg1
  have hcell := World.ownsRow.cellAt hrow (pickN nn its.length) (by omega)
  rw [List.getElem?_map, hit] at hcell
  have hgl := (World.ownsRow.lt hrow g rfl).2
  have hlc : its.length ≤ cap := by
    have h := hrow.2
    rcases h with ⟨_, h⟩ | ⟨g', cap', cur, h1, _, _, h2, _⟩
    · omega
    · injection h1 with _ _ h3; omega
  have cj : w.cell? ⟨g, pickN nn its.length, none⟩ = some (ptrTo it.q) := by simpa using hcell
  have c1 := blk_cell (i := 0) S.wat.blk
  simp at c1
  have HP := fun x => hide (pick_any nn its.length x hc h0 (by omega))
  have HJL := hide hjl
  have HH0 := hide h0
  clear S hrow hcell HO hit
  generalize hln : its.length = ln at *
  clear hln
  generalize hpj : pickN nn ln = j at *
  clear hpj
  have hn0 : ¬ ln = 0 := by omega
  have hnb : ((ln : Int) == 0) = false := by simp; omega
  have hjz : (0 : Int) ≤ j := by omega
  have hjn : (j : Int) < ln := by omega
  unfold ptrTo opVal at *
  go_enter Tryz.func48, Tryz.ntmps48
  rcases hkd with rfl | rfl | rfl | rfl
  · go_upto_region 16 with fail
    have HB := hide ((Below.refl w.heap.size w).alloc (Nat.le_refl _) (.cells #[.int .i64 4, .int .i64 nn, .int .i64 i, .string s, .int .u64 kp, .int .i64 fk, .int .i64 fe, .int .i64 fst, .int .i64 fq, .string fb] 86))
    refine wp_region_cut (by kernel_rfl)
      [fun v _ => v = .pointer (some ⟨wb, 0, none⟩), fun v _ => v = .pointer (some ⟨wb, 0, none⟩), fun v _ => v = .pointer (some ⟨wb, 0, none⟩), fun v _ => v = .slice (some ⟨g, 0, none⟩) ln cap, fun v _ => v = .int .i64 ln, fun v _ => v = .bool false, fun v _ => v = .bool false,
       fun v _ => v = .pointer (some ⟨wb, 0, none⟩), fun v _ => v = .pointer (some ⟨wb, 0, none⟩), fun v _ => v = .pointer (some ⟨wb, 0, none⟩), fun v _ => v = .pointer (some ⟨wb, 0, none⟩), fun v _ => v = .slice (some ⟨g, 0, none⟩) ln cap, fun v _ => v = .pointer (some ⟨w.heap.size, 1, none⟩), fun v _ => v = .int .i64 nn,
       fun v _ => v = .pointer (some ⟨wb, 0, none⟩), fun v _ => v = .pointer (some ⟨wb, 0, none⟩), fun v _ => v = .pointer (some ⟨wb, 0, none⟩), fun v _ => v = .slice (some ⟨g, 0, none⟩) ln cap, fun v _ => v = .int .i64 ln, fun v _ => v = .int .i64 j, fun v _ => v = .pointer (some ⟨g, j, none⟩), fun v _ => v = .pointer (some ⟨it.q, 0, none⟩),
       fun v _ => v = .agg #[.int .i64 4, .int .i64 nn, .int .i64 i, .string s, .int .u64 kp, .int .i64 fk, .int .i64 fe, .int .i64 fst, .int .i64 fq, .string fb], fun _ _ => True, fun _ _ => True, fun _ _ => True]
      [[(0, none)], [(50, some 0)], [(51, some 1)], [(52, some 2)], [(53, some 3)], [(54, some 4)], [(55, some 5)], [(0, none), (56, some 6)], [(0, none), (56, some 6)], [(58, some 8), (56, some 6)], [(59, some 9), (56, some 6)], [(60, some 10), (56, some 6)], [(3, none), (56, some 6)], [(62, some 12), (56, some 6)], [(0, none), (56, some 6)], [(64, some 14), (56, some 6)], [(65, some 15), (56, some 6)], [(66, some 16), (56, some 6)], [(67, some 17), (56, some 6)], [(63, some 13), (68, some 18), (56, some 6)], [(61, some 11), (69, some 19), (56, some 6)], [(70, some 20), (56, some 6)], [(3, none), (56, some 6)], [(57, some 7), (71, some 21), (72, some 22), (56, some 6)], [(56, some 6), (73, some 23)], [(74, some 24)]] [some 50, some 51, some 52, some 53, some 54, some 55, some 56, some 57, some 58, some 59, some 60, some 61, some 62, some 63, some 64, some 65, some 66, some 67, some 68, some 69, some 70, some 71, some 72, some 73, some 74, some 4] [false, false, false, false, true, false, false, false, false, false, false, false, false, false, false, false, false, false, false, false, false, false, false, false, false, false, false, false, false, false, false, false, false, false, false, false, false, false, false, false, false, false, false, false, false, false, false, false, false, false, true, true, true, true, true, true, true, true, true, true, true, true, true, true, true, true, true, true, true, true, true, true, true, true, true, false, false, false, false, false, false, false, false, false, false, false, false, false, false, false, false, false, false, false, false, false, false, false, false, false, false, false, false, false, false]
      23 _ rfl (Nat.le_of_ble_eq_true (n := 24) (by kernel_rfl)) (by kernel_rfl) (by kernel_rfl) (by kernel_rfl) (by kernel_rfl) (by kernel_rfl) (by kernel_rfl) ?_ ?_ ?_ ?_
    · repeat' (first | exact stable_eq _ | exact stable_true | exact trivial | apply And.intro)
    · refine ⟨?_, ?_, ?_, ?_, ?_, ?_, ?_, ?_, ?_, ?_, ?_, ?_, ?_, ?_, ?_, ?_, ?_, ?_, ?_, ?_, ?_, ?_, ?_, trivial⟩
      all_goals
        intro b x hb hf
        have hb2 := (unhide HB).trans (hb.mono (by simp))
        have y1 := (hb2.cell (p := ⟨wb, 0, none⟩) hwl).trans c1
        have yj := (hb2.cell (p := ⟨g, j, none⟩) hgl).trans cj
        have bc := fun k => boxed_cells hb k
        have b0 := bc 0
        have b1 := bc 1
        have b2 := bc 2
        have b3 := bc 3
        have b4 := bc 4
        have b5 := bc 5
        have b6 := bc 6
        have b7 := bc 7
        have b8 := bc 8
        have b9 := bc 9
        clear hb hb2 bc
        simp at b0 b1 b2 b3 b4 b5 b6 b7 b8 b9
        simp only [PlanFacts, List.getD_cons_zero, List.getD_cons_succ, Array.getD_eq_getD_getElem?] at hf
        try simp at hf
        try (have hg : b.tmps[56]? = some (.bool false) := tmp_bool (by first | exact hf | exact hf.2 | exact hf.2.2))
        try go_simp
        try simp only [hg, if_true]
        try go_simp
        try exact Below.refl _ _
      all_goals first
        | exact ⟨rfl, Below.refl _ _⟩
        | (refine (unhide (HP _)).mono ?_; rintro e x' ⟨rfl, rfl⟩; exact ⟨rfl, Below.refl _ _⟩)
        | skip
    · intro f x hwd
      simp only [AllWords, List.take] at hwd
      have hf56 := hwd.2.2.2.2.2.2.1
      clear hwd
      simp only [mergeT, hf56]
      rfl
    · intro f x2 hb hwd
      simp only [AllWords, List.take] at hwd
      have hf56 := hwd.2.2.2.2.2.2.1
      have hf57 := hwd.2.2.2.2.2.2.2.1
      have hf71 := hwd.2.2.2.2.2.2.2.2.2.2.2.2.2.2.2.2.2.2.2.2.2.1
      have hf72 := hwd.2.2.2.2.2.2.2.2.2.2.2.2.2.2.2.2.2.2.2.2.2.2.1
      have BB := hide ((unhide HB).trans (hb.mono (by simp)))
      clear hwd hb
      simp only [mergeT, hf56, hf57, hf71, hf72]
      go_simp
      refine (unhide (HOO x2 (unhide BB))).mono ?_
      rintro r3 x3 ⟨rfl, S3, B3⟩
      have SS3 := hide S3
      have BB3 := hide ((far_below (E := fun k => B ≤ k ∧ k < D) (unhide BB)).trans B3 (fun _ _ h => h))
      clear S3 B3
      intro fuel hfu
      obtain ⟨m, rfl⟩ : ∃ m, fuel = m + 2 := ⟨fuel - 2, by omega⟩
      refine wpAny_one (i := 24) (by kernel_rfl) rfl rfl ?_
      go_simp
      refine wpAny_one (i := 25) (by kernel_rfl) rfl rfl ?_
      go_simp
      refine wpAny_end (by kernel_rfl) ?_
      go_wp2
      go_ret
      exact ⟨rfl, unhide SS3, unhide BB3⟩
  · go_upto_region 16 with fail
    have HB := hide ((Below.refl w.heap.size w).alloc (Nat.le_refl _) (.cells #[.int .i64 5, .int .i64 nn, .int .i64 i, .string s, .int .u64 kp, .int .i64 fk, .int .i64 fe, .int .i64 fst, .int .i64 fq, .string fb] 86))
    refine wp_region_cut (by kernel_rfl)
      [fun v _ => v = .pointer (some ⟨wb, 0, none⟩), fun v _ => v = .pointer (some ⟨wb, 0, none⟩), fun v _ => v = .pointer (some ⟨wb, 0, none⟩), fun v _ => v = .slice (some ⟨g, 0, none⟩) ln cap, fun v _ => v = .int .i64 ln, fun v _ => v = .bool false, fun v _ => v = .bool false,
       fun v _ => v = .pointer (some ⟨wb, 0, none⟩), fun v _ => v = .pointer (some ⟨wb, 0, none⟩), fun v _ => v = .pointer (some ⟨wb, 0, none⟩), fun v _ => v = .pointer (some ⟨wb, 0, none⟩), fun v _ => v = .slice (some ⟨g, 0, none⟩) ln cap, fun v _ => v = .pointer (some ⟨w.heap.size, 1, none⟩), fun v _ => v = .int .i64 nn,
       fun v _ => v = .pointer (some ⟨wb, 0, none⟩), fun v _ => v = .pointer (some ⟨wb, 0, none⟩), fun v _ => v = .pointer (some ⟨wb, 0, none⟩), fun v _ => v = .slice (some ⟨g, 0, none⟩) ln cap, fun v _ => v = .int .i64 ln, fun v _ => v = .int .i64 j, fun v _ => v = .pointer (some ⟨g, j, none⟩), fun v _ => v = .pointer (some ⟨it.q, 0, none⟩),
       fun v _ => v = .agg #[.int .i64 5, .int .i64 nn, .int .i64 i, .string s, .int .u64 kp, .int .i64 fk, .int .i64 fe, .int .i64 fst, .int .i64 fq, .string fb], fun _ _ => True, fun _ _ => True, fun _ _ => True]
      [[(0, none)], [(50, some 0)], [(51, some 1)], [(52, some 2)], [(53, some 3)], [(54, some 4)], [(55, some 5)], [(0, none), (56, some 6)], [(0, none), (56, some 6)], [(58, some 8), (56, some 6)], [(59, some 9), (56, some 6)], [(60, some 10), (56, some 6)], [(3, none), (56, some 6)], [(62, some 12), (56, some 6)], [(0, none), (56, some 6)], [(64, some 14), (56, some 6)], [(65, some 15), (56, some 6)], [(66, some 16), (56, some 6)], [(67, some 17), (56, some 6)], [(63, some 13), (68, some 18), (56, some 6)], [(61, some 11), (69, some 19), (56, some 6)], [(70, some 20), (56, some 6)], [(3, none), (56, some 6)], [(57, some 7), (71, some 21), (72, some 22), (56, some 6)], [(56, some 6), (73, some 23)], [(74, some 24)]] [some 50, some 51, some 52, some 53, some 54, some 55, some 56, some 57, some 58, some 59, some 60, some 61, some 62, some 63, some 64, some 65, some 66, some 67, some 68, some 69, some 70, some 71, some 72, some 73, some 74, some 4] [false, false, false, false, true, false, false, false, false, false, false, false, false, false, false, false, false, false, false, false, false, false, false, false, false, false, false, false, false, false, false, false, false, false, false, false, false, false, false, false, false, false, false, false, false, false, false, false, false, false, true, true, true, true, true, true, true, true, true, true, true, true, true, true, true, true, true, true, true, true, true, true, true, true, true, false, false, false, false, false, false, false, false, false, false, false, false, false, false, false, false, false, false, false, false, false, false, false, false, false, false, false, false, false, false]
      23 _ rfl (Nat.le_of_ble_eq_true (n := 24) (by kernel_rfl)) (by kernel_rfl) (by kernel_rfl) (by kernel_rfl) (by kernel_rfl) (by kernel_rfl) (by kernel_rfl) ?_ ?_ ?_ ?_
    · repeat' (first | exact stable_eq _ | exact stable_true | exact trivial | apply And.intro)
    · refine ⟨?_, ?_, ?_, ?_, ?_, ?_, ?_, ?_, ?_, ?_, ?_, ?_, ?_, ?_, ?_, ?_, ?_, ?_, ?_, ?_, ?_, ?_, ?_, trivial⟩
      all_goals
        intro b x hb hf
        have hb2 := (unhide HB).trans (hb.mono (by simp))
        have y1 := (hb2.cell (p := ⟨wb, 0, none⟩) hwl).trans c1
        have yj := (hb2.cell (p := ⟨g, j, none⟩) hgl).trans cj
        have bc := fun k => boxed_cells hb k
        have b0 := bc 0
        have b1 := bc 1
        have b2 := bc 2
        have b3 := bc 3
        have b4 := bc 4
        have b5 := bc 5
        have b6 := bc 6
        have b7 := bc 7
        have b8 := bc 8
        have b9 := bc 9
        clear hb hb2 bc
        simp at b0 b1 b2 b3 b4 b5 b6 b7 b8 b9
        simp only [PlanFacts, List.getD_cons_zero, List.getD_cons_succ, Array.getD_eq_getD_getElem?] at hf
        try simp at hf
        try (have hg : b.tmps[56]? = some (.bool false) := tmp_bool (by first | exact hf | exact hf.2 | exact hf.2.2))
        try go_simp
        try simp only [hg, if_true]
        try go_simp
        try exact Below.refl _ _
      all_goals first
        | exact ⟨rfl, Below.refl _ _⟩
        | (refine (unhide (HP _)).mono ?_; rintro e x' ⟨rfl, rfl⟩; exact ⟨rfl, Below.refl _ _⟩)
        | skip
    · intro f x hwd
      simp only [AllWords, List.take] at hwd
      have hf56 := hwd.2.2.2.2.2.2.1
      clear hwd
      simp only [mergeT, hf56]
      rfl
    · intro f x2 hb hwd
      simp only [AllWords, List.take] at hwd
      have hf56 := hwd.2.2.2.2.2.2.1
      have hf57 := hwd.2.2.2.2.2.2.2.1
      have hf71 := hwd.2.2.2.2.2.2.2.2.2.2.2.2.2.2.2.2.2.2.2.2.2.1
      have hf72 := hwd.2.2.2.2.2.2.2.2.2.2.2.2.2.2.2.2.2.2.2.2.2.2.1
      have BB := hide ((unhide HB).trans (hb.mono (by simp)))
      clear hwd hb
      simp only [mergeT, hf56, hf57, hf71, hf72]
      go_simp
      refine (unhide (HOO x2 (unhide BB))).mono ?_
      rintro r3 x3 ⟨rfl, S3, B3⟩
      have SS3 := hide S3
      have BB3 := hide ((far_below (E := fun k => B ≤ k ∧ k < D) (unhide BB)).trans B3 (fun _ _ h => h))
      clear S3 B3
      intro fuel hfu
      obtain ⟨m, rfl⟩ : ∃ m, fuel = m + 2 := ⟨fuel - 2, by omega⟩
      refine wpAny_one (i := 24) (by kernel_rfl) rfl rfl ?_
      go_simp
      refine wpAny_one (i := 25) (by kernel_rfl) rfl rfl ?_
      go_simp
      refine wpAny_end (by kernel_rfl) ?_
      go_wp2
      go_ret
      exact ⟨rfl, unhide SS3, unhide BB3⟩
  · go_upto_region 16 with fail
    have HB := hide ((Below.refl w.heap.size w).alloc (Nat.le_refl _) (.cells #[.int .i64 6, .int .i64 nn, .int .i64 i, .string s, .int .u64 kp, .int .i64 fk, .int .i64 fe, .int .i64 fst, .int .i64 fq, .string fb] 86))
    refine wp_region_cut (by kernel_rfl)
      [fun v _ => v = .pointer (some ⟨wb, 0, none⟩), fun v _ => v = .pointer (some ⟨wb, 0, none⟩), fun v _ => v = .pointer (some ⟨wb, 0, none⟩), fun v _ => v = .slice (some ⟨g, 0, none⟩) ln cap, fun v _ => v = .int .i64 ln, fun v _ => v = .bool false, fun v _ => v = .bool false,
       fun v _ => v = .pointer (some ⟨wb, 0, none⟩), fun v _ => v = .pointer (some ⟨wb, 0, none⟩), fun v _ => v = .pointer (some ⟨wb, 0, none⟩), fun v _ => v = .pointer (some ⟨wb, 0, none⟩), fun v _ => v = .slice (some ⟨g, 0, none⟩) ln cap, fun v _ => v = .pointer (some ⟨w.heap.size, 1, none⟩), fun v _ => v = .int .i64 nn,
       fun v _ => v = .pointer (some ⟨wb, 0, none⟩), fun v _ => v = .pointer (some ⟨wb, 0, none⟩), fun v _ => v = .pointer (some ⟨wb, 0, none⟩), fun v _ => v = .slice (some ⟨g, 0, none⟩) ln cap, fun v _ => v = .int .i64 ln, fun v _ => v = .int .i64 j, fun v _ => v = .pointer (some ⟨g, j, none⟩), fun v _ => v = .pointer (some ⟨it.q, 0, none⟩),
       fun v _ => v = .agg #[.int .i64 6, .int .i64 nn, .int .i64 i, .string s, .int .u64 kp, .int .i64 fk, .int .i64 fe, .int .i64 fst, .int .i64 fq, .string fb], fun _ _ => True, fun _ _ => True, fun _ _ => True]
      [[(0, none)], [(50, some 0)], [(51, some 1)], [(52, some 2)], [(53, some 3)], [(54, some 4)], [(55, some 5)], [(0, none), (56, some 6)], [(0, none), (56, some 6)], [(58, some 8), (56, some 6)], [(59, some 9), (56, some 6)], [(60, some 10), (56, some 6)], [(3, none), (56, some 6)], [(62, some 12), (56, some 6)], [(0, none), (56, some 6)], [(64, some 14), (56, some 6)], [(65, some 15), (56, some 6)], [(66, some 16), (56, some 6)], [(67, some 17), (56, some 6)], [(63, some 13), (68, some 18), (56, some 6)], [(61, some 11), (69, some 19), (56, some 6)], [(70, some 20), (56, some 6)], [(3, none), (56, some 6)], [(57, some 7), (71, some 21), (72, some 22), (56, some 6)], [(56, some 6), (73, some 23)], [(74, some 24)]] [some 50, some 51, some 52, some 53, some 54, some 55, some 56, some 57, some 58, some 59, some 60, some 61, some 62, some 63, some 64, some 65, some 66, some 67, some 68, some 69, some 70, some 71, some 72, some 73, some 74, some 4] [false, false, false, false, true, false, false, false, false, false, false, false, false, false, false, false, false, false, false, false, false, false, false, false, false, false, false, false, false, false, false, false, false, false, false, false, false, false, false, false, false, false, false, false, false, false, false, false, false, false, true, true, true, true, true, true, true, true, true, true, true, true, true, true, true, true, true, true, true, true, true, true, true, true, true, false, false, false, false, false, false, false, false, false, false, false, false, false, false, false, false, false, false, false, false, false, false, false, false, false, false, false, false, false, false]
      23 _ rfl (Nat.le_of_ble_eq_true (n := 24) (by kernel_rfl)) (by kernel_rfl) (by kernel_rfl) (by kernel_rfl) (by kernel_rfl) (by kernel_rfl) (by kernel_rfl) ?_ ?_ ?_ ?_
    · repeat' (first | exact stable_eq _ | exact stable_true | exact trivial | apply And.intro)
    · refine ⟨?_, ?_, ?_, ?_, ?_, ?_, ?_, ?_, ?_, ?_, ?_, ?_, ?_, ?_, ?_, ?_, ?_, ?_, ?_, ?_, ?_, ?_, ?_, trivial⟩
      all_goals
        intro b x hb hf
        have hb2 := (unhide HB).trans (hb.mono (by simp))
        have y1 := (hb2.cell (p := ⟨wb, 0, none⟩) hwl).trans c1
        have yj := (hb2.cell (p := ⟨g, j, none⟩) hgl).trans cj
        have bc := fun k => boxed_cells hb k
        have b0 := bc 0
        have b1 := bc 1
        have b2 := bc 2
        have b3 := bc 3
        have b4 := bc 4
        have b5 := bc 5
        have b6 := bc 6
        have b7 := bc 7
        have b8 := bc 8
        have b9 := bc 9
        clear hb hb2 bc
        simp at b0 b1 b2 b3 b4 b5 b6 b7 b8 b9
        simp only [PlanFacts, List.getD_cons_zero, List.getD_cons_succ, Array.getD_eq_getD_getElem?] at hf
        try simp at hf
        try (have hg : b.tmps[56]? = some (.bool false) := tmp_bool (by first | exact hf | exact hf.2 | exact hf.2.2))
        try go_simp
        try simp only [hg, if_true]
        try go_simp
        try exact Below.refl _ _
      all_goals first
        | exact ⟨rfl, Below.refl _ _⟩
        | (refine (unhide (HP _)).mono ?_; rintro e x' ⟨rfl, rfl⟩; exact ⟨rfl, Below.refl _ _⟩)
        | skip
    · intro f x hwd
      simp only [AllWords, List.take] at hwd
      have hf56 := hwd.2.2.2.2.2.2.1
      clear hwd
      simp only [mergeT, hf56]
      rfl
    · intro f x2 hb hwd
      simp only [AllWords, List.take] at hwd
      have hf56 := hwd.2.2.2.2.2.2.1
      have hf57 := hwd.2.2.2.2.2.2.2.1
      have hf71 := hwd.2.2.2.2.2.2.2.2.2.2.2.2.2.2.2.2.2.2.2.2.2.1
      have hf72 := hwd.2.2.2.2.2.2.2.2.2.2.2.2.2.2.2.2.2.2.2.2.2.2.1
      have BB := hide ((unhide HB).trans (hb.mono (by simp)))
      clear hwd hb
      simp only [mergeT, hf56, hf57, hf71, hf72]
      go_simp
      refine (unhide (HOO x2 (unhide BB))).mono ?_
      rintro r3 x3 ⟨rfl, S3, B3⟩
      have SS3 := hide S3
      have BB3 := hide ((far_below (E := fun k => B ≤ k ∧ k < D) (unhide BB)).trans B3 (fun _ _ h => h))
      clear S3 B3
      intro fuel hfu
      obtain ⟨m, rfl⟩ : ∃ m, fuel = m + 2 := ⟨fuel - 2, by omega⟩
      refine wpAny_one (i := 24) (by kernel_rfl) rfl rfl ?_
      go_simp
      refine wpAny_one (i := 25) (by kernel_rfl) rfl rfl ?_
      go_simp
      refine wpAny_end (by kernel_rfl) ?_
      go_wp2
      go_ret
      exact ⟨rfl, unhide SS3, unhide BB3⟩
  · go_upto_region 16 with fail
    have HB := hide ((Below.refl w.heap.size w).alloc (Nat.le_refl _) (.cells #[.int .i64 7, .int .i64 nn, .int .i64 i, .string s, .int .u64 kp, .int .i64 fk, .int .i64 fe, .int .i64 fst, .int .i64 fq, .string fb] 86))
    refine wp_region_cut (by kernel_rfl)
      [fun v _ => v = .pointer (some ⟨wb, 0, none⟩), fun v _ => v = .pointer (some ⟨wb, 0, none⟩), fun v _ => v = .pointer (some ⟨wb, 0, none⟩), fun v _ => v = .slice (some ⟨g, 0, none⟩) ln cap, fun v _ => v = .int .i64 ln, fun v _ => v = .bool false, fun v _ => v = .bool false,
       fun v _ => v = .pointer (some ⟨wb, 0, none⟩), fun v _ => v = .pointer (some ⟨wb, 0, none⟩), fun v _ => v = .pointer (some ⟨wb, 0, none⟩), fun v _ => v = .pointer (some ⟨wb, 0, none⟩), fun v _ => v = .slice (some ⟨g, 0, none⟩) ln cap, fun v _ => v = .pointer (some ⟨w.heap.size, 1, none⟩), fun v _ => v = .int .i64 nn,
       fun v _ => v = .pointer (some ⟨wb, 0, none⟩), fun v _ => v = .pointer (some ⟨wb, 0, none⟩), fun v _ => v = .pointer (some ⟨wb, 0, none⟩), fun v _ => v = .slice (some ⟨g, 0, none⟩) ln cap, fun v _ => v = .int .i64 ln, fun v _ => v = .int .i64 j, fun v _ => v = .pointer (some ⟨g, j, none⟩), fun v _ => v = .pointer (some ⟨it.q, 0, none⟩),
       fun v _ => v = .agg #[.int .i64 7, .int .i64 nn, .int .i64 i, .string s, .int .u64 kp, .int .i64 fk, .int .i64 fe, .int .i64 fst, .int .i64 fq, .string fb], fun _ _ => True, fun _ _ => True, fun _ _ => True]
      [[(0, none)], [(50, some 0)], [(51, some 1)], [(52, some 2)], [(53, some 3)], [(54, some 4)], [(55, some 5)], [(0, none), (56, some 6)], [(0, none), (56, some 6)], [(58, some 8), (56, some 6)], [(59, some 9), (56, some 6)], [(60, some 10), (56, some 6)], [(3, none), (56, some 6)], [(62, some 12), (56, some 6)], [(0, none), (56, some 6)], [(64, some 14), (56, some 6)], [(65, some 15), (56, some 6)], [(66, some 16), (56, some 6)], [(67, some 17), (56, some 6)], [(63, some 13), (68, some 18), (56, some 6)], [(61, some 11), (69, some 19), (56, some 6)], [(70, some 20), (56, some 6)], [(3, none), (56, some 6)], [(57, some 7), (71, some 21), (72, some 22), (56, some 6)], [(56, some 6), (73, some 23)], [(74, some 24)]] [some 50, some 51, some 52, some 53, some 54, some 55, some 56, some 57, some 58, some 59, some 60, some 61, some 62, some 63, some 64, some 65, some 66, some 67, some 68, some 69, some 70, some 71, some 72, some 73, some 74, some 4] [false, false, false, false, true, false, false, false, false, false, false, false, false, false, false, false, false, false, false, false, false, false, false, false, false, false, false, false, false, false, false, false, false, false, false, false, false, false, false, false, false, false, false, false, false, false, false, false, false, false, true, true, true, true, true, true, true, true, true, true, true, true, true, true, true, true, true, true, true, true, true, true, true, true, true, false, false, false, false, false, false, false, false, false, false, false, false, false, false, false, false, false, false, false, false, false, false, false, false, false, false, false, false, false, false]
      23 _ rfl (Nat.le_of_ble_eq_true (n := 24) (by kernel_rfl)) (by kernel_rfl) (by kernel_rfl) (by kernel_rfl) (by kernel_rfl) (by kernel_rfl) (by kernel_rfl) ?_ ?_ ?_ ?_
    · repeat' (first | exact stable_eq _ | exact stable_true | exact trivial | apply And.intro)
    · refine ⟨?_, ?_, ?_, ?_, ?_, ?_, ?_, ?_, ?_, ?_, ?_, ?_, ?_, ?_, ?_, ?_, ?_, ?_, ?_, ?_, ?_, ?_, ?_, trivial⟩
      all_goals
        intro b x hb hf
        have hb2 := (unhide HB).trans (hb.mono (by simp))
        have y1 := (hb2.cell (p := ⟨wb, 0, none⟩) hwl).trans c1
        have yj := (hb2.cell (p := ⟨g, j, none⟩) hgl).trans cj
        have bc := fun k => boxed_cells hb k
        have b0 := bc 0
        have b1 := bc 1
        have b2 := bc 2
        have b3 := bc 3
        have b4 := bc 4
        have b5 := bc 5
        have b6 := bc 6
        have b7 := bc 7
        have b8 := bc 8
        have b9 := bc 9
        clear hb hb2 bc
        simp at b0 b1 b2 b3 b4 b5 b6 b7 b8 b9
        simp only [PlanFacts, List.getD_cons_zero, List.getD_cons_succ, Array.getD_eq_getD_getElem?] at hf
        try simp at hf
        try (have hg : b.tmps[56]? = some (.bool false) := tmp_bool (by first | exact hf | exact hf.2 | exact hf.2.2))
        try go_simp
        try simp only [hg, if_true]
        try go_simp
        try exact Below.refl _ _
      all_goals first
        | exact ⟨rfl, Below.refl _ _⟩
        | (refine (unhide (HP _)).mono ?_; rintro e x' ⟨rfl, rfl⟩; exact ⟨rfl, Below.refl _ _⟩)
        | skip
    · intro f x hwd
      simp only [AllWords, List.take] at hwd
      have hf56 := hwd.2.2.2.2.2.2.1
      clear hwd
      simp only [mergeT, hf56]
      rfl
    · intro f x2 hb hwd
      simp only [AllWords, List.take] at hwd
      have hf56 := hwd.2.2.2.2.2.2.1
      have hf57 := hwd.2.2.2.2.2.2.2.1
      have hf71 := hwd.2.2.2.2.2.2.2.2.2.2.2.2.2.2.2.2.2.2.2.2.2.1
      have hf72 := hwd.2.2.2.2.2.2.2.2.2.2.2.2.2.2.2.2.2.2.2.2.2.2.1
      have BB := hide ((unhide HB).trans (hb.mono (by simp)))
      clear hwd hb
      simp only [mergeT, hf56, hf57, hf71, hf72]
      go_simp
      refine (unhide (HOO x2 (unhide BB))).mono ?_
      rintro r3 x3 ⟨rfl, S3, B3⟩
      have SS3 := hide S3
      have BB3 := hide ((far_below (E := fun k => B ≤ k ∧ k < D) (unhide BB)).trans B3 (fun _ _ h => h))
      clear S3 B3
      intro fuel hfu
      obtain ⟨m, rfl⟩ : ∃ m, fuel = m + 2 := ⟨fuel - 2, by omega⟩
      refine wpAny_one (i := 24) (by kernel_rfl) rfl rfl ?_
      go_simp
      refine wpAny_one (i := 25) (by kernel_rfl) rfl rfl ?_
      go_simp
      refine wpAny_end (by kernel_rfl) ?_
      go_wp2
      go_ret
      exact ⟨rfl, unhide SS3, unhide BB3⟩
end Go.Proofs.YtamafdcnbcoegaaGreat
namespace Go.Proofs.YtamafdcnbcoegaaGreat
open Go.RowKit

set_option maxRecDepth 100000 in
set_option maxHeartbeats 1000000 in
theorem none_any (n : Nat) (hn : n ≤ 10000) (w : World) :
    Calls Tryz.prog 84 #[.int .i64 n] w fun r w' => r = .returned (.string ⟨(List.replicate n 0).toArray⟩) ∧ Below w.heap.size w w' := by
  go_enter Tryz.func84, Tryz.ntmps84
  go_wp2_with (at_make; refine wp_make_full rfl _ _ rfl w.heap.size _ _ _ _ n rfl rfl rfl rfl (by omega) (Nat.le_refl _) ?_; intro w1 hown1 hg1; have b1 := hide (below_grown_new (B := w.heap.size) hg1 (Nat.le_refl _) (by simp)); have hcs := (bat_of_row (A := fun _ _ => True) (l := List.replicate n 0) (by unfold Owns at hown1; rw [bv_length]; rw [List.length_replicate] at hown1 ⊢; exact row_zero hown1) (fun _ _ _ _ => trivial)).str; clear hown1 hg1)
  go_ret
  exact ⟨rfl, unhide b1⟩

end Go.Proofs.YtamafdcnbcoegaaGreat
namespace Go.Proofs.YtamafdcnbcoegaaGreat
open Go.RowKit

theorem infoAg : (Tryz.prog.info? 115).map (fun i => (i.zero, i.size, i.bytes)) = some (some (.pointer none), 1, 8) := by kernel_rfl
def rr0 : RRest := { dead := false, g0 := 0, g1 := 0, g2 := 0, st := 0, ex := .slice none 0 0 }
def refNewA : Array Value := #[.int .i64 1, .int .i64 0, .bool false, .bool false, .bool false, .int .i64 0, .slice none 0 0, .slice none 0 0, .int .i64 0, .slice none 0 0, .slice none 0 0, .int .i64 0, .slice none 0 0, .slice none 0 0, .int .i64 0, .int .i64 0, .int .i64 0, .int .i64 0, .slice none 0 0]
theorem refAt_new (w : World) (p : Nat) (h : w.heap[p]? = some (.cells refNewA 124 (0, 0))) : RefAt w p ag0 rr0 (fun _ => .slice none 0 0) (fun _ => .slice none 0 0) :=
  ⟨h, fun _ _ => rowO_nil _ _ _, fun _ _ => rowO_nil _ _ _, fun _ _ _ _ _ _ h => by (cases h), fun _ _ _ _ _ _ h => by (cases h), by simp [ag0], by simp [ag0], by simp [ag0], by simp [ag0], by simp [ag0]⟩
theorem agGood_zero (n : Nat) : AgGood n ag0 := ⟨by simp [ag0], by simp [ag0], by simp [ag0], fun s hs x hx => by simp [ag0] at hx⟩

theorem madeA_plain {top : Nat} {C : AgentC top} {B D n : Nat} {A : Nat → Nat → Prop} {w x w1 : World} {wb sv : Nat} {ssv as_ hv v1 : Value} {hs : List Nat} {its : List AgItem} {U : Nat → Prop} (S : AgentsAt C B n A w wb ssv as_ hv hs its) (hD : ABnd D wb ssv hv its) (h6 : its.length < 6) (hb : Below w.heap.size w x) (hAt : C.At x sv ag0 U) (hU : ∀ k, U k → w.heap.size ≤ k)
    (happ : App (((x.alloc (.cells refNewA 124)).alloc (.cells #[ptrTo sv, ptrTo x.heap.size, .bool false, .int .i64 0] 128)).alloc (.cells #[ptrTo (x.heap.size + 1)] 115)) w1 ssv v1)
    (hown : w1.ownsRow 0 115 1 v1 (its.map (fun it => ptrTo it.q) ++ [ptrTo (x.heap.size + 1)]).length (its.map (fun it => ptrTo it.q) ++ [ptrTo (x.heap.size + 1)])) :
    Agents C B (w1.setCell ⟨wb, 0, none⟩ v1).heap.size n (w1.setCell ⟨wb, 0, none⟩ v1) wb ∧ Far (fun k => B ≤ k ∧ k < D) w (w1.setCell ⟨wb, 0, none⟩ v1) := by
  have hsz := hb.size
  have hUl := C.lt hAt
  have hssl := fun k h => (World.ownsRow.lt S.row k h).2
  have hwl := lt_of_block S.wat.blk
  have hss0 : ssv.ownBlock ≠ some wb := fun e => (S.ssu wb e).2 (.inl rfl)
  generalize hX : (((x.alloc (.cells refNewA 124)).alloc (.cells #[ptrTo sv, ptrTo x.heap.size, .bool false, .int .i64 0] 128)).alloc (.cells #[ptrTo (x.heap.size + 1)] 115)) = X at happ
  have hXs : X.heap.size = x.heap.size + 3 := by rw [← hX]; simp
  have FX : Far (fun _ => False) x X := by
    rw [← hX]
    exact far_below ((((Below.refl _ _).alloc (Nat.le_refl _) _).alloc (by simp) _).alloc (by simp; omega) _)
  have hr : X.heap[x.heap.size]? = some (.cells refNewA 124 (0, 0)) := by
    rw [← hX, Below.heap_alloc _ _ _ (by simp; omega), Below.heap_alloc _ _ _ (by simp)]
    exact heap_alloc_new x _
  have hq : X.heap[x.heap.size + 1]? = some (.cells #[ptrTo sv, ptrTo x.heap.size, .bool false, .int .i64 0] 128 (0, 0)) := by
    rw [← hX, Below.heap_alloc _ _ _ (by simp)]
    have := heap_alloc_new (x.alloc (.cells refNewA 124)) (.cells #[ptrTo sv, ptrTo x.heap.size, .bool false, .int .i64 0] 128)
    simpa using this
  have F1 := far_grown happ.grown
  have F2 := far_set w1 wb 0 v1
  have FY : Far (fun k => k = wb ∨ ssv.ownBlock = some k) X (w1.setCell ⟨wb, 0, none⟩ v1) := (F1.mono (E' := fun k => k = wb ∨ ssv.ownBlock = some k) (fun _ _ h => .inr h)).trans F2 (fun _ _ h => .inl h)
  have FW : Far (fun k => k = wb ∨ ssv.ownBlock = some k) w (w1.setCell ⟨wb, 0, none⟩ v1) := ((far_below (E := fun k => k = wb ∨ ssv.ownBlock = some k) hb).trans FX (fun _ _ h => h.elim)).trans FY (fun _ _ h => h)
  have hno : ∀ k, w.heap.size ≤ k → ¬ (k = wb ∨ ssv.ownBlock = some k) := by
    rintro k hk (e | e)
    · omega
    · have := hssl k e; omega
  have hb1 : w1.heap[wb]? = some (.cells #[ssv, as_, hv] 83 (0, 0)) := F1.blk (FX.blk ((far_below (E := fun _ => False) hb).blk S.wat.blk (fun h => h)) (fun h => h)) hss0
  have hv1 : ∀ g, v1.ownBlock = some g → ssv.ownBlock = some g ∨ x.heap.size + 3 ≤ g := by
    intro g hg
    rcases happ.where_ with h | ⟨_, g', h, hg'⟩
    · exact .inl (h ▸ hg)
    · rw [h] at hg; injection hg with hg; exact .inr (by omega)
  have hI : (⟨x.heap.size + 1, sv, x.heap.size, ag0, rr0, fun _ => .slice none 0 0, fun _ => .slice none 0 0, U, 0⟩ : AgItem).Is C n (w1.setCell ⟨wb, 0, none⟩ v1) := by
    refine ⟨FY.blk hq (hno (x.heap.size + 1) (by omega)), C.far (C.far hAt FX (fun _ _ h => h)) FY (fun k hk => hno k (hU k hk)), refAt_new _ x.heap.size (FY.blk hr (hno _ hsz)), rfl, agGood_zero n, fun h => by have := hUl (x.heap.size + 1) h; omega, ?_, ?_⟩
    · rintro (e | ⟨_, _, e | e⟩)
      · have : x.heap.size + 1 = x.heap.size := e
        omega
      · cases e
      · cases e
    · rintro k hk (e | ⟨_, _, e | e⟩)
      · have := hUl k hk; have : k = x.heap.size := e; omega
      · cases e
      · cases e
  have hnew : ∀ k, (⟨x.heap.size + 1, sv, x.heap.size, ag0, rr0, fun _ => .slice none 0 0, fun _ => .slice none 0 0, U, 0⟩ : AgItem).In k → w.heap.size ≤ k ∧ v1.ownBlock ≠ some k := by
    intro k hk
    have h1 : w.heap.size ≤ k ∧ k < x.heap.size + 3 := by
      rcases hk with e | (e | ⟨_, _, e | e⟩) | e
      · have : k = x.heap.size + 1 := e
        omega
      · have : k = x.heap.size := e
        omega
      · cases e
      · cases e
      · have := hU k e; have := hUl k e; omega
    refine ⟨h1.1, fun e => ?_⟩
    rcases hv1 k e with h | h
    · have := hssl k h; omega
    · omega
  have hwb2 : (w1.setCell ⟨wb, 0, none⟩ v1).heap[wb]? = some (.cells #[v1, as_, hv] 83 (0, 0)) := by
    have := blk_set (j := 0) (v := v1) hb1
    simpa using this
  have hrow2 : (w1.setCell ⟨wb, 0, none⟩ v1).ownsRow 0 115 1 v1 (its.length + 1) (its.map (fun it => ptrTo it.q) ++ [ptrTo (x.heap.size + 1)]) := by
    have := own_set (u := v1) (j := 0) hown hb1 (by decide)
    simpa using this
  have SM := S.more _ h6 FW hwb2 hrow2 (fun g hg => (hv1 g hg).imp id (by omega)) hI hnew
  refine ⟨⟨A, v1, as_, hv, hs, _, SM, SM.bnd⟩, FW.mono (fun k _ e => ?_)⟩
  rcases e with rfl | e
  · exact ⟨S.usB k (.inl rfl), hD k (.inl (.inl rfl))⟩
  · exact ⟨(S.ssu k e).1, hD k (.inr (.inl e))⟩

set_option maxRecDepth 100000 in
set_option maxHeartbeats 4000000 in
theorem made_agent {top : Nat} (C : AgentC top) (B D n : Nat) (A : Nat → Nat → Prop) (w : World) (wb : Nat) (ssv as_ hv : Value) (hs : List Nat) (its : List AgItem) (nn i : Int) (s : ByteArray) (kp fk fe fst fq : Int) (fb : ByteArray)
    (S : AgentsAt C B n A w wb ssv as_ hv hs its) (hD : ABnd D wb ssv hv its) (h6 : its.length < 6) :
    Calls Tryz.prog 50 #[ptrTo wb, opVal 3 nn i s kp fk fe fst fq fb] w fun r w' => r = .returned (.bool true) ∧ Agents C B w'.heap.size n w' wb ∧ Far (fun k => B ≤ k ∧ k < D) w w' := by
  have HS := hide S
  have HDD := hide hD
  have hwl := lt_of_block S.wat.blk
  clear S hD
  unfold ptrTo opVal
  go_enter Tryz.func50, Tryz.ntmps50
  go_upto_region 2 with fail
  refine wp_world (fun x => Below w.heap.size w x) ((Below.refl _ _).alloc (Nat.le_refl _) _) ?_
  intro x0 b0
  have B0 := hide b0
  clear b0
  obtain ⟨Z, hZ⟩ : ∃ Z : ByteArray, Z = ⟨(List.replicate 1664 0).toArray⟩ := ⟨_, rfl⟩
  have HN : ∀ x, Hid (Calls Tryz.prog 84 #[.int .i64 1664] x fun r w' => r = .returned (.string Z) ∧ Below x.heap.size x w') := fun x => by rw [hZ]; exact hide (none_any 1664 (by omega) x)
  have hzs : Z.size ≤ 140737488355328 := by rw [hZ]; simp [ByteArray.size]
  have HZ : Hid (Z.data.toList = List.replicate 1664 0) := by rw [hZ]; show _ = _; simp
  clear hZ
  go_wp2_with (go_at_call 84; refine (unhide (HN _)).mono ?_; rintro r1 x1 ⟨rfl, hb1⟩; obtain ⟨vs, y1, hconv, hat, hby⟩ := conv_bytes x1 Z hzs; rw [unhide HZ] at hat; have HAT := hide hat; have BB1 := hide (((unhide B0).trans (hb1.mono (unhide B0).size)).trans (hby.mono (Nat.le_trans (unhide B0).size hb1.size))); clear hat hb1 hby)
  refine (C.opened vs (unhide HAT)).mono ?_
  rintro r2 x2 ⟨sv, U, rfl, hAt, hb2, hU⟩
  have B2 := hide ((unhide BB1).trans (hb2.mono (unhide BB1).size))
  have HU : Hid (∀ k, U k → w.heap.size ≤ k) := fun k hk => Nat.le_trans (unhide BB1).size (hU k hk)
  have HA2 : Hid (C.At x2 sv ag0 U) := hAt
  clear hAt hb2 hU HAT BB1 hconv B0 HN hzs HZ
  unfold ptrTo
  go_upto_region 5 with fail
  refine wp_world (fun x => Below w.heap.size w x ∧ C.At x sv ag0 U) ⟨unhide B2, unhide HA2⟩ ?_
  clear B2 HA2
  rintro x3 ⟨b3, hAt3⟩
  have F3 : Far (fun _ => False) w x3 := far_below b3
  have S3 := hide (World.ownsRow.alloc (World.ownsRow.alloc (World.ownsRow.alloc (w := x3) (F3.own (unhide HS).row (fun _ _ h => h)) (.cells refNewA 124)) (.cells #[ptrTo sv, ptrTo x3.heap.size, .bool false, .int .i64 0] 128)) (.cells #[ptrTo (x3.heap.size + 1)] 115))
  have wb3 := F3.blk (unhide HS).wat.blk (fun h => h)
  have c1 := blk_cell (i := 0) wb3
  have f1 := blk_free (i := 0) wb3
  simp at c1
  have HB3 := hide b3
  have HAT3 := hide hAt3
  have HWB3 := hide wb3
  have HBL := hide (fun (k : Nat) (hk : k < x3.heap.size) => ((Below.heap_alloc ((x3.alloc (.cells refNewA 124)).alloc (.cells #[ptrTo sv, ptrTo x3.heap.size, .bool false, .int .i64 0] 128)) (.cells #[ptrTo (x3.heap.size + 1)] 115) k (by simp; omega)).trans ((Below.heap_alloc (x3.alloc (.cells refNewA 124)) (.cells #[ptrTo sv, ptrTo x3.heap.size, .bool false, .int .i64 0] 128) k (by simp; omega)).trans (Below.heap_alloc x3 (.cells refNewA 124) k hk))))
  have HSZ : Hid (x3.heap.size ≤ (((x3.alloc (.cells refNewA 124)).alloc (.cells #[ptrTo sv, ptrTo x3.heap.size, .bool false, .int .i64 0] 128)).alloc (.cells #[ptrTo (x3.heap.size + 1)] 115)).heap.size) := by show _ ≤ _; simp; omega
  have HCU : Hid ((((x3.alloc (.cells refNewA 124)).alloc (.cells #[ptrTo sv, ptrTo x3.heap.size, .bool false, .int .i64 0] 128)).alloc (.cells #[ptrTo (x3.heap.size + 1)] 115)).cell? ⟨x3.heap.size + 1 + 1, 0, none⟩ = some (ptrTo (x3.heap.size + 1))) := by
    show _ = _
    have := blk_cell (i := 0) (heap_alloc_new ((x3.alloc (.cells refNewA 124)).alloc (.cells #[ptrTo sv, ptrTo x3.heap.size, .bool false, .int .i64 0] 128)) (.cells #[ptrTo (x3.heap.size + 1)] 115))
    simpa using this
  have HMP := fun w1 v1 h1 h2 => hide (madeA_plain (w1 := w1) (v1 := v1) (unhide HS) (unhide HDD) h6 b3 hAt3 (unhide HU) h1 h2)
  have hss0 := hide (fun (e : ssv.ownBlock = some wb) => ((unhide HS).ssu wb e).2 (.inl rfl))
  have hxl := Nat.lt_of_lt_of_le hwl b3.size
  clear b3 hAt3 F3 wb3
  unfold refNewA ptrTo at *
  go_upto_region 6 with (at_builtin; (refine wpList_app1 rfl (.tmp 28) (.tmp 34) 79 rfl 115 (.pointer none) 8 Tryz.underlying79 infoAg rfl ssv (its.map fun it => .pointer (some ⟨it.q, 0, none⟩)) (by rw [List.length_map]; exact unhide S3) rfl ⟨x3.heap.size + 1 + 1, 0, none⟩ (.pointer (some ⟨x3.heap.size + 1, 0, none⟩)) rfl (unhide HCU) rfl (by rw [List.length_map]; omega) (by rw [List.length_map]; omega) ?_; intro v1 w1 hown1 hold1 happ1; have HM := hide (unhide (HMP w1 v1 happ1 hown1)); obtain ⟨g1, cap1, hv1⟩ := own_shape hown1 (by simp); rw [show (its.map (fun it => Value.pointer (some ⟨it.q, 0, none⟩)) ++ [Value.pointer (some ⟨x3.heap.size + 1, 0, none⟩)]).length = its.length + 1 by simp] at hv1; have hwb1 := app_blk happ1 (unhide HBL) (unhide HSZ) (unhide HWB3) (unhide hss0); subst hv1; have c11 := blk_cell (i := 0) hwb1; have f11 := blk_free (i := 0) hwb1; clear hwb1 hown1 hold1 happ1))
  go_wp2
  go_ret
  exact ⟨rfl, unhide HM⟩

set_option maxRecDepth 100000 in
set_option maxHeartbeats 4000000 in
theorem stepA_made {top : Nat} (C : AgentC top) (B D n : Nat) (w : World) (wb : Nat) (nn i : Int) (s : ByteArray) (kp fk fe fst fq : Int) (fb : ByteArray) (S : Agents C B D n w wb) :
    Calls Tryz.prog 48 #[ptrTo wb, opVal 3 nn i s kp fk fe fst fq fb] w fun r w' => r = .returned (.bool true) ∧ Agents C B w'.heap.size n w' wb ∧ Far (fun k => B ≤ k ∧ k < D) w w' := by
  obtain ⟨A, ssv, as_, hv, hs, its, S, hD⟩ := S
  have hb : ∀ O, Below w.heap.size w (w.alloc O) := fun O => (Below.refl _ _).alloc (Nat.le_refl _) O
  have S1 := fun O => S.below (hb O)
  have c1 := blk_cell (i := 0) S.wat.blk
  simp at c1
  obtain ⟨ad, cap, hsv, hl, _, _⟩ := listAt_own S.row
  rw [List.length_map] at hsv hl
  have hwl := lt_of_block S.wat.blk
  have hbx := hide S.bx
  by_cases h6 : its.length < 6
  · have HM := fun O => hide (made_agent C B D n A (w.alloc O) wb ssv as_ hv hs its nn i s kp fk fe fst fq fb (S1 O) hD h6)
    have h6i : ¬ (6 : Int) ≤ its.length := by omega
    clear S S1 hb
    subst hsv
    unfold ptrTo opVal at *
    go_enter Tryz.func48, Tryz.ntmps48
    go_upto_region 7 with fail
    go_wp2_with (go_at_call 50; refine (unhide (HM _)).mono ?_; rintro r2 x2 ⟨rfl, S2, B2⟩)
    go_ret
    exact ⟨rfl, S2, (far_below (E := fun k => B ≤ k ∧ k < D) ((Below.refl _ _).alloc (Nat.le_refl _) _)).trans B2 (fun _ _ h => h)⟩
  · have h6i : (6 : Int) ≤ its.length := by omega
    have HS := fun O => hide (show Agents C B (w.alloc O).heap.size n (w.alloc O) wb from ⟨A, ssv, as_, hv, hs, its, S1 O, (S1 O).bnd⟩)
    clear S S1 hb
    subst hsv
    unfold ptrTo opVal at *
    go_enter Tryz.func48, Tryz.ntmps48
    go_wp2
    go_ret
    exact ⟨rfl, unhide (HS _), far_below ((Below.refl _ _).alloc (Nat.le_refl _) _)⟩
end Go.Proofs.YtamafdcnbcoegaaGreat
namespace Go.Proofs.YtamafdcnbcoegaaGreat
open Go.RowKit

/-- A step lies in ten cells. -/
def OpIn (w : World) (b0 o : Nat) : Prop :=
  ∃ (kd nn i : Int) (s : ByteArray) (kp k e st q : Int) (b : ByteArray), s.size ≤ 140737488353980 ∧ (-9223372036854775808 ≤ nn ∧ nn ≤ 9223372036854775807) ∧
    ∀ j, j < 10 → w.cell? ⟨b0, o + j, none⟩ = #[.int .i64 kd, .int .i64 nn, .int .i64 i, .string s, .int .u64 kp, .int .i64 k, .int .i64 e, .int .i64 st, .int .i64 q, .string b][j]?

end Go.Proofs.YtamafdcnbcoegaaGreat
namespace Go.Proofs.YtamafdcnbcoegaaGreat
open Go.RowKit

theorem Agents.mono {top : Nat} {C : AgentC top} {B D n m : Nat} {x : World} {wb : Nat} (h : Agents C B D n x wb) (hm : n ≤ m) : Agents C B D m x wb := by
  obtain ⟨A, ssv, as_, hv, hs, its, S, hD⟩ := h
  exact ⟨A, ssv, as_, hv, hs, its, ⟨Nat.le_trans S.hn hm, S.wat, S.row, S.six, fun i u hu => (S.each i u hu).up hm, S.apart, S.us, S.ssu, S.usB, S.bx, S.a2⟩, hD⟩
theorem Agents.below {top : Nat} {C : AgentC top} {B D n : Nat} {x y : World} {wb : Nat} (h : Agents C B D n x wb) (hb : Below x.heap.size x y) : Agents C B D n y wb := by
  obtain ⟨A, ssv, as_, hv, hs, its, S, hD⟩ := h
  exact ⟨A, ssv, as_, hv, hs, its, S.below hb, hD⟩
theorem Agents.size {top : Nat} {C : AgentC top} {B D n : Nat} {x : World} {wb : Nat} (h : Agents C B D n x wb) : Agents C B x.heap.size n x wb := by
  obtain ⟨A, ssv, as_, hv, hs, its, S, _⟩ := h
  exact ⟨A, ssv, as_, hv, hs, its, S, S.bnd⟩
theorem Agents.looks {top : Nat} {C : AgentC top} {B D n : Nat} {w : World} {wb : Nat} (h : Agents C B D n w wb) :
    Calls Tryz.prog 49 #[ptrTo wb] w fun r w' => r = .returned (.bool true) ∧ Agents C B D n w' wb ∧ Below w.heap.size w w' := by
  have h0 := h
  obtain ⟨A, ssv, as_, hv, hs, its, S, _⟩ := h
  refine (looks_any A w wb _ _ hv hs S.wat).mono ?_
  rintro r w' ⟨rfl, k, rfl⟩
  exact ⟨rfl, h0.below (below_drewN (Below.refl _ _) _), below_drewN (Below.refl _ _) _⟩

/-- A step on one of the agents. -/
theorem onAgent_one {top : Nat} (C : AgentC top) (B D n : Nat) (A : Nat → Nat → Prop) (w : World) (wb : Nat) (ssv as_ hv : Value) (hs : List Nat) (its : List AgItem) (j : Nat) (it : AgItem) (kd nn i : Int) (s : ByteArray) (kp fk fe fst fq : Int) (fb : ByteArray)
    (S : AgentsAt C B n A w wb ssv as_ hv hs its) (hD : ABnd D wb ssv hv its) (hit : its[j]? = some it) (hkd : kd = 4 ∨ kd = 5 ∨ kd = 6 ∨ kd = 7) (zs : s.size ≤ 140737488353980) (zn : n + 52 ≤ 1000000000) (zt : n < top) :
    Calls Tryz.prog 80 #[ptrTo wb, ptrTo it.q, opVal kd nn i s kp fk fe fst fq fb] w fun r y => r = .returned (.bool true) ∧ Agents C B y.heap.size (n + 52) y wb ∧ Far (fun k => B ≤ k ∧ k < D) w y := by
  have P := S.each j it hit
  have hA : ∀ b o, A b o → b < w.heap.size ∧ ¬ Us wb hv b ∧ ¬ AgPairU it.q it.rp it.lv it.hk it.U b := fun b o h => ⟨(S.a2 b o h).1, (S.a2 b o h).2.1, (S.a2 b o h).2.2.2 j it hit⟩
  have hPU : ∀ k, AgPairU it.q it.rp it.lv it.hk it.U k → ¬ Us wb hv k := fun k h => (S.us j it hit k h).2.1
  have hz := S.hn
  refine (onAgent_any C A w wb ssv as_ hv hs kd nn i s kp fk fe fst fq fb it.q it.sv it.rp it.a it.r it.lv it.hk it.U it.left S.wat P hkd zt (by omega) hA hPU zs (by omega)).mono ?_
  rintro r y ⟨rfl, a', T⟩
  obtain ⟨A', hv', hs', its', S', hb⟩ := S.step j it hit hD (T.up (M2 := n + 52) (N2 := n + 52) (by omega) (by omega)) (by omega)
  exact ⟨rfl, ⟨A', ssv, as_, hv', hs', its', S', S'.bnd⟩, hb⟩

set_option maxRecDepth 100000 in
set_option maxHeartbeats 4000000 in
/-- .. where there is none. -/
theorem stepA_zero {top : Nat} (C : AgentC top) (B D n : Nat) (A : Nat → Nat → Prop) (w : World) (wb : Nat) (ssv as_ hv : Value) (hs : List Nat) (its : List AgItem) (kd nn i : Int) (s : ByteArray) (kp fk fe fst fq : Int) (fb : ByteArray)
    (S : AgentsAt C B n A w wb ssv as_ hv hs its) (h0 : its.length = 0) (hkd : kd = 4 ∨ kd = 5 ∨ kd = 6 ∨ kd = 7) :
    Calls Tryz.prog 48 #[ptrTo wb, opVal kd nn i s kp fk fe fst fq fb] w fun r w' => r = .returned (.bool true) ∧ Agents C B w'.heap.size (n + 52) w' wb ∧ Far (fun k => B ≤ k ∧ k < D) w w' := by
  have HS := fun (x : World) (hb : Below w.heap.size w x) => hide (show Agents C B x.heap.size (n + 52) x wb from Agents.mono ⟨A, ssv, as_, hv, hs, its, S.below hb, (S.below hb).bnd⟩ (by omega))
  have c1 := blk_cell (i := 0) S.wat.blk
  simp at c1
  obtain ⟨ad, cap, hsv, hl, _, _⟩ := listAt_own S.row
  rw [List.length_map, h0] at hsv hl
  have hwl := lt_of_block S.wat.blk
  have hbx := hide S.bx
  clear S
  subst hsv
  unfold ptrTo opVal at *
  rcases hkd with rfl | rfl | rfl | rfl
  all_goals
    go_enter Tryz.func48, Tryz.ntmps48
    go_upto_region 16 with fail
    go_quiet (fail)
    go_wp2
    go_ret
    exact ⟨rfl, unhide (HS _ (by first | exact (Below.refl _ _).alloc (Nat.le_refl _) _ | exact below_drewN ((Below.refl _ _).alloc (Nat.le_refl _) _) _)), far_below (by first | exact (Below.refl _ _).alloc (Nat.le_refl _) _ | exact below_drewN ((Below.refl _ _).alloc (Nat.le_refl _) _) _)⟩

theorem step_agents {top : Nat} (C : AgentC top) (B D n : Nat) (w : World) (wb : Nat) (kd nn i : Int) (s : ByteArray) (kp fk fe fst fq : Int) (fb : ByteArray) (S : Agents C B D n w wb) (hkd : kd = 3 ∨ kd = 4 ∨ kd = 5 ∨ kd = 6 ∨ kd = 7) (hc : -9223372036854775808 ≤ nn ∧ nn ≤ 9223372036854775807) (zs : s.size ≤ 140737488353980) (zn : n + 52 ≤ 1000000000) (zt : n < top) :
    Calls Tryz.prog 48 #[ptrTo wb, opVal kd nn i s kp fk fe fst fq fb] w fun r w' => r = .returned (.bool true) ∧ Agents C B w'.heap.size (n + 52) w' wb ∧ Far (fun k => B ≤ k ∧ k < D) w w' := by
  rcases hkd with rfl | hkd
  · refine (stepA_made C B D n w wb nn i s kp fk fe fst fq fb S).mono ?_
    rintro r w' ⟨rfl, S', hb⟩
    exact ⟨rfl, S'.mono (by omega), hb⟩
  · obtain ⟨A, ssv, as_, hv, hs, its, S, hD⟩ := S
    by_cases h0 : its.length = 0
    · exact stepA_zero C B D n A w wb ssv as_ hv hs its kd nn i s kp fk fe fst fq fb S h0 hkd
    · have hj := pickN_lt nn (n := its.length) (by omega)
      have hit := List.getElem?_eq_getElem hj
      exact step_agent C B D n A w wb ssv as_ hv hs its kd nn i s kp fk fe fst fq fb S hc (by omega) _ hit hkd (fun x hb => onAgent_one C B D n A x wb ssv as_ hv hs its _ _ kd nn i s kp fk fe fst fq fb (S.below hb) hD hit hkd zs zn zt)

/-- A world that has just been made. -/
theorem agents_new {top : Nat} (C : AgentC top) (w : World) : Agents C w.heap.size (w.heap.size + 1) 0 (w.alloc (.cells #[.slice none 0 0, .slice none 0 0, .slice none 0 0] 83)) w.heap.size :=
  ⟨fun _ _ => False, .slice none 0 0, .slice none 0 0, .slice none 0 0, [], [], ⟨by simp, ⟨heap_alloc_new w _, World.ownsRow_nil _ _ _ _, fun p hp => absurd hp List.not_mem_nil⟩, World.ownsRow_nil _ _ _ _, by simp, fun i u h => by (simp at h), fun i j u v h => by (simp at h), fun i u h => by (simp at h), fun k h => by (cases h), fun k h => h.elim (fun h => by omega) (fun h => by cases h), by simp, fun b o h => h.elim⟩, fun k h => by
    rcases h with (h | h) | h | ⟨i, u, h, _⟩
    · omega
    · cases h
    · cases h
    · simp at h⟩

set_option maxRecDepth 100000 in
set_option maxHeartbeats 4000000 in
theorem upTo_agents {top : Nat} (C : AgentC top) (ad : Option Addr) (len cap : Nat) (w : World) (z : 52 * len + 52 ≤ 1000000000) (zt : 52 * len < top) (h : 0 < len → ∃ b0 off, ad = some ⟨b0, off, none⟩ ∧ b0 < w.heap.size ∧ ∀ i, i < len → OpIn w b0 (off + i * 10)) :
    Calls Tryz.prog 15 #[.slice ad len cap, .int .i64 3, .int .i64 7, .int .i64 3, .int .i64 7] w fun r w' => r = .returned (.int .i64 (-1)) ∧ Below w.heap.size w w' := by
  have HH := hide h
  have S0 := hide (agents_new C w)
  clear h
  have n1 : len ≤ 9223372036854775807 := by omega
  go_enter Tryz.func15, Tryz.ntmps15
  go_wp2
  go_loopw [12] (fun i wr => ∃ k n : Nat, k ≤ len ∧ i = .int .i64 k ∧ n ≤ 52 * k ∧ Agents C w.heap.size wr.heap.size n wr w.heap.size ∧ Below w.heap.size w wr) (fun i _ => len - (intOf i).toNat)
  case atStart => exact ⟨0, 0, by omega, rfl, by omega, (unhide S0).size, (Below.refl _ _).alloc (Nat.le_refl _) _⟩
  case round =>
    obtain ⟨k, n, hk, rfl, hn, S, hb⟩ := hrel
    by_cases hlt : k < len
    · obtain ⟨b0, off, rfl, hb0, hops⟩ := (unhide HH) (by omega)
      obtain ⟨kd, nn, ii, s, kp, fk, fe, fst, fq, fb, zs, zb, hc⟩ := hops k hlt
      have c0 := (hb.cell (p := ⟨b0, off + k * 10 + 0, none⟩) hb0).trans (hc 0 (by omega))
      have c1 := (hb.cell (p := ⟨b0, off + k * 10 + 1, none⟩) hb0).trans (hc 1 (by omega))
      have c2 := (hb.cell (p := ⟨b0, off + k * 10 + 2, none⟩) hb0).trans (hc 2 (by omega))
      have c3 := (hb.cell (p := ⟨b0, off + k * 10 + 3, none⟩) hb0).trans (hc 3 (by omega))
      have c4 := (hb.cell (p := ⟨b0, off + k * 10 + 4, none⟩) hb0).trans (hc 4 (by omega))
      have c5 := (hb.cell (p := ⟨b0, off + k * 10 + 5, none⟩) hb0).trans (hc 5 (by omega))
      have c6 := (hb.cell (p := ⟨b0, off + k * 10 + 6, none⟩) hb0).trans (hc 6 (by omega))
      have c7 := (hb.cell (p := ⟨b0, off + k * 10 + 7, none⟩) hb0).trans (hc 7 (by omega))
      have c8 := (hb.cell (p := ⟨b0, off + k * 10 + 8, none⟩) hb0).trans (hc 8 (by omega))
      have c9 := (hb.cell (p := ⟨b0, off + k * 10 + 9, none⟩) hb0).trans (hc 9 (by omega))
      simp at c0 c1 c2 c3 c4 c5 c6 c7 c8 c9
      have SS := hide S
      have HB := hide hb
      have ZS := hide zs
      have ZB := hide zb
      clear hc hops hb0 S hb zs zb HH S0
      go_upto_region 6 with fail
      refine wp_world (fun x => Agents C w.heap.size wr.heap.size n x w.heap.size ∧ Below w.heap.size w x ∧ w.heap.size ≤ wr.heap.size ∧ wr.heap.size < x.heap.size ∧ x.heap[wr.heap.size]? = some (.cells #[.int .i64 kd, .int .i64 nn, .int .i64 ii, .string s, .int .u64 kp, .int .i64 fk, .int .i64 fe, .int .i64 fst, .int .i64 fq, .string fb] 86 (0, 0)))
        ⟨(unhide SS).below ((Below.refl _ _).alloc (Nat.le_refl _) _), (unhide HB).trans (((Below.refl _ _).alloc (Nat.le_refl _) _).mono (unhide HB).size), (unhide HB).size, by simp, heap_alloc_new wr _⟩ ?_
      clear c0 c1 c2 c3 c4 c5 c6 c7 c8 c9 SS HB
      generalize wr.heap.size = ob
      rintro x ⟨S, hb, how, hox, hob⟩
      have y0 := blk_cell (i := 0) hob
      have y1 := blk_cell (i := 1) hob
      have y2 := blk_cell (i := 2) hob
      have y3 := blk_cell (i := 3) hob
      have y4 := blk_cell (i := 4) hob
      have y5 := blk_cell (i := 5) hob
      have y6 := blk_cell (i := 6) hob
      have y7 := blk_cell (i := 7) hob
      have y8 := blk_cell (i := 8) hob
      have y9 := blk_cell (i := 9) hob
      simp at y0 y1 y2 y3 y4 y5 y6 y7 y8 y9
      have HOB := hide hob
      have HB := hide hb
      have SS := hide S
      clear S hb hox hob
      by_cases k8 : 3 ≤ kd
      · by_cases k10 : kd ≤ 7
        · have hkd : kd = 3 ∨ kd = 4 ∨ kd = 5 ∨ kd = 6 ∨ kd = 7 := by omega
          have HS := hide (step_agents C w.heap.size ob n x w.heap.size kd nn ii s kp fk fe fst fq fb (unhide SS) hkd (unhide ZB) (unhide ZS) (by omega) (by omega))
          unfold ptrTo opVal at HS
          clear SS ZB ZS
          rcases hkd with rfl | rfl | rfl | rfl | rfl
          all_goals
            go_upto_region 8 with (go_at_call 48; refine (unhide HS).mono ?_; rintro r x2 ⟨rfl, S2, F2⟩; have SS2 := hide S2; have FF2 := hide F2; clear S2 F2)
            have ob2 := (unhide FF2).blk (unhide HOB) (by omega)
            have hb2 := (unhide HB).trans ((unhide FF2).below (B := w.heap.size) (unhide HB).size (fun g hg e => by omega))
            have OB2 := hide ob2
            have HB2 := hide hb2
            have HL := hide (unhide SS2).looks
            unfold ptrTo at HL
            clear HS y0 y1 y2 y3 y4 y5 y6 y7 y8 y9 HOB HB ob2 hb2 FF2
            go_upto_region 9 with (go_at_call 49; refine (unhide HL).mono ?_; rintro r x3 ⟨rfl, S3, B3⟩; have ob3 := (B3.block _ (lt_of_block (unhide OB2))).trans (unhide OB2); have y0 := blk_cell (i := 0) ob3; simp at y0; have SS3 := hide S3; have BB3 := hide B3; clear S3 B3 ob3)
            go_wp2
            go_roundw
            case rel => exact ⟨k + 1, n + 52, by omega, by go_num, by omega, (unhide SS3).size, (unhide HB2).trans ((unhide BB3).mono (unhide HB2).size)⟩
            case measure => simp [intOf]; omega
        · have k10i : 7 < kd := by omega
          go_wp2
          go_roundw
          case rel => exact ⟨k + 1, n, by omega, by go_num, by omega, (unhide SS).size, unhide HB⟩
          case measure => simp [intOf]; omega
      · have k8i : kd < 3 := by omega
        go_wp2
        go_roundw
        case rel => exact ⟨k + 1, n, by omega, by go_num, by omega, (unhide SS).size, unhide HB⟩
        case measure => simp [intOf]; omega
    · have HB := hide hb
      clear hb S
      go_wp2
      go_ret
      exact ⟨rfl, unhide HB⟩
end Go.Proofs.YtamafdcnbcoegaaGreat
namespace Go.Proofs.YtamafdcnbcoegaaGreat
open Go.ChangeShapes Go.WideShapes Go.ChangeAt Go.RowKit

theorem Tryz.own : ownKnob Tryz.prog.godebug = none := by kernel_rfl
theorem Tryz.laidOut : laidOutB Tryz.prog = true := by kernel_rfl

theorem opCells : Tryz.prog.cellsOf 86 = 10 := by kernel_rfl
theorem frCells : Tryz.prog.cellsOf 41 = 5 := by kernel_rfl
theorem intCells : Tryz.prog.cellsOf 3 = 1 := by kernel_rfl
theorem u64Cells : Tryz.prog.cellsOf 27 = 1 := by kernel_rfl
theorem strCells : Tryz.prog.cellsOf 9 = 1 := by kernel_rfl

theorem add_plain (b off k : Nat) : (⟨b, off, none⟩ : Addr).add k = ⟨b, off + k, none⟩ := by
  unfold Addr.add
  split
  · rename_i h; rw [h]; rfl
  · rfl

end Go.Proofs.YtamafdcnbcoegaaGreat
namespace Go.Proofs.YtamafdcnbcoegaaGreat
open Go.ChangeShapes Go.WideShapes Go.ChangeAt Go.RowKit

theorem madeA_new {top : Nat} (C : AgentC top) (w : World) : Calls Tryz.prog 50 #[ptrTo w.heap.size, opVal 3 0 0 ⟨#[]⟩ 0 0 0 0 0 ⟨#[]⟩] (w.alloc (.cells #[.slice none 0 0, .slice none 0 0, .slice none 0 0] 83)) fun r w' =>
    r = .returned (.bool true) ∧ Agents C w.heap.size w'.heap.size 0 w' w.heap.size ∧ Below w.heap.size w w' := by
  have S : AgentsAt C w.heap.size 0 (fun _ _ => False) (w.alloc (.cells #[.slice none 0 0, .slice none 0 0, .slice none 0 0] 83)) w.heap.size (.slice none 0 0) (.slice none 0 0) (.slice none 0 0) [] [] :=
    ⟨by simp, ⟨heap_alloc_new w _, World.ownsRow_nil _ _ _ _, fun p hp => absurd hp List.not_mem_nil⟩, World.ownsRow_nil _ _ _ _, by simp, fun i u h => by (simp at h), fun i j u v h => by (simp at h), fun i u h => by (simp at h), fun k h => by (cases h), fun k h => h.elim (fun h => by omega) (fun h => by cases h), by simp, fun b o h => h.elim⟩
  refine (made_agent C w.heap.size _ 0 _ _ w.heap.size _ _ _ [] [] 0 0 ⟨#[]⟩ 0 0 0 0 0 ⟨#[]⟩ S S.bnd (by simp)).mono ?_
  rintro r w' ⟨rfl, S', F⟩
  exact ⟨rfl, S', ((Below.refl _ _).alloc (Nat.le_refl _) _).trans (F.below (by simp) (fun k hk h => by omega))⟩

set_option maxRecDepth 100000 in
set_option maxHeartbeats 2000000 in
theorem sends_head {top : Nat} (C : AgentC top) (ht : 1000 ≤ top) (w : World) :
    Calls Tryz.prog 16 #[] w fun r w' => r = .returned (.bool true) ∧ Below w.heap.size w w' := by
  have HM := hide (madeA_new C w)
  unfold ptrTo opVal at HM
  go_enter Tryz.func16, Tryz.ntmps16
  go_upto_region 3 with (go_at_call 50; refine (unhide HM).mono ?_; rintro r w1 ⟨rfl, S1, B1⟩; have SS1 := hide S1; have BB1 := hide B1; clear S1 B1)
  clear HM
  have HS := hide (step_agents C w.heap.size _ 0 w1 w.heap.size 4 0 0 ⟨#[97]⟩ 0 0 0 0 0 ⟨#[]⟩ (unhide SS1) (by omega) (by omega) (by decide) (by omega) (by omega))
  unfold ptrTo opVal at HS
  go_upto_region 6 with (go_at_call 48; refine (unhide HS).mono ?_; rintro r w3 ⟨rfl, S3, F3⟩; have SS3 := hide S3; have BB3 := hide ((unhide BB1).trans (F3.below (B := w.heap.size) (unhide BB1).size (fun k hk h => by omega))); clear S3 F3)
  clear HS SS1 BB1
  have HS := hide (step_agents C w.heap.size _ 52 w3 w.heap.size 5 0 0 ⟨#[]⟩ 0 0 0 0 0 ⟨#[]⟩ (unhide SS3) (by omega) (by omega) (by decide) (by omega) (by omega))
  unfold ptrTo opVal at HS
  go_upto_region 7 with (go_at_call 48; refine (unhide HS).mono ?_; rintro r w4 ⟨rfl, S4, F4⟩; have SS4 := hide S4; have BB4 := hide ((unhide BB3).trans (F4.below (B := w.heap.size) (unhide BB3).size (fun k hk h => by omega))); clear S4 F4)
  clear HS SS3 BB3
  have HS := hide (step_agents C w.heap.size _ 104 w4 w.heap.size 7 0 0 ⟨#[]⟩ 0 0 0 0 0 ⟨#[]⟩ (unhide SS4) (by omega) (by omega) (by decide) (by omega) (by omega))
  unfold ptrTo opVal at HS
  go_upto_region 8 with (go_at_call 48; refine (unhide HS).mono ?_; rintro r w5 ⟨rfl, S5, F5⟩; have BB5 := hide ((unhide BB4).trans (F5.below (B := w.heap.size) (unhide BB4).size (fun k hk h => by omega))); clear S5 F5)
  go_wp2
  go_ret
  exact ⟨rfl, unhide BB5⟩

set_option maxRecDepth 100000 in
set_option maxHeartbeats 1000000 in
theorem sends_any {top : Nat} (C : AgentC top) (ad : Option Addr) (len cap : Nat) (w : World) (z : len ≤ 1048576) (ht : 100000000 ≤ top) (h : 0 < len → ∃ b0 off, ad = some ⟨b0, off, none⟩ ∧ b0 < w.heap.size ∧ ∀ i, i < len → OpIn w b0 (off + i * 10)) :
    Calls Tryz.prog 4 #[.slice ad len cap] w fun r w' => r = .returned (.bool true) ∧ Below w.heap.size w w' := by
  have HU := fun w1 (hb : Below w.heap.size w w1) => hide (upTo_agents C ad len cap w1 (by omega) (by omega) (fun h0 => by
    obtain ⟨b0, off, e, hlt, ho⟩ := h h0
    refine ⟨b0, off, e, Nat.lt_of_lt_of_le hlt hb.size, fun i hi => ?_⟩
    obtain ⟨kd, nn, ii, s, kp, k, e, st, q, b, zs, zb, hc⟩ := ho i hi
    exact ⟨kd, nn, ii, s, kp, k, e, st, q, b, zs, zb, fun j hj => (hb.cell (p := ⟨b0, off + i * 10 + j, none⟩) hlt).trans (hc j hj)⟩))
  clear h
  go_enter Tryz.func4, Tryz.ntmps4
  go_wp2_with (first | (go_at_call 16; refine (sends_head C (by omega) _).mono ?_; rintro r w1 ⟨rfl, hb1⟩; have HB1 := hide hb1; have HU1 := HU _ hb1; clear hb1) | (go_at_call 15; refine (unhide HU1).mono ?_; rintro r w2 ⟨rfl, hb2⟩))
  go_ret
  exact ⟨rfl, (unhide HB1).trans (hb2.mono (unhide HB1).size)⟩
end Go.Proofs.YtamafdcnbcoegaaGreat
namespace Go.Proofs.YtamafdcnbcoegaaGreat
open Go.ChangeShapes Go.WideShapes Go.ChangeAt Go.RowKit

theorem bulk_mem {H : Type} {d : DataW H} : ∀ {l : List (DataW H)}, d ∈ l → Rows.uptoBulk d ≤ Rows.uptoBulkAll l
  | [], h => by cases h
  | x :: r, h => by
    rw [Rows.uptoBulkAll]
    rw [List.mem_cons] at h
    rcases h with rfl | h
    · omega
    · have := bulk_mem h
      omega
theorem bulk_pos {H : Type} (d : DataW H) : 1 ≤ Rows.uptoBulk d := by
  cases d with
  | lit x => cases x <;> simp [Rows.uptoBulk]
  | _ => simp [Rows.uptoBulk]
theorem bulk_len {H : Type} : ∀ (l : List (DataW H)), l.length ≤ Rows.uptoBulkAll l
  | [] => by simp
  | x :: r => by
    rw [Rows.uptoBulkAll, List.length_cons]
    have := bulk_len r
    have := bulk_pos x
    omega
set_option maxRecDepth 100000 in
/-- A step among the cells that came in, of little bulk. -/
theorem open_opu {H : Type} {enc : TypeId × Value → H} {w : World} {base : Nat} {spare : Nat → Bool} {held : Bool} {fuel : Nat} {cs : List Value} {y : DataW H × List MemPlace}
    (h : DataW.trod enc Tryz.prog w base spare held fuel 86 cs = some y) (hw : Rows.uptoBulk y.1 ≤ 1048576) :
    ∃ (kd nn i : Int) (s : ByteArray) (kp k e st q : Int) (b : ByteArray), cs = [.int .i64 kd, .int .i64 nn, .int .i64 i, .string s, .int .u64 kp, .int .i64 k, .int .i64 e, .int .i64 st, .int .i64 q, .string b] ∧ s.size ≤ 1048576 ∧ (-9223372036854775808 ≤ nn ∧ nn ≤ 9223372036854775807) := by
  obtain ⟨xs, n, _, rfl, hl, hlen, hx⟩ := DataW.trod_struct Tryz.underlying86 h
  rw [opCells] at hl
  match cs, hl, xs, hlen with
  | [d0, d1, d2, d3, d4, d5, d6, d7, d8, d9], _, [y0, y1, y2, y3, y4, y5], _ =>
    have h0 := hx 0 _ rfl
    have h1 := hx 1 _ rfl
    have h2 := hx 2 _ rfl
    have h3 := hx 3 _ rfl
    have h4 := hx 4 _ rfl
    have h5 := hx 5 _ rfl
    simp [intCells, strCells, u64Cells, frCells] at h0 h1 h2 h3 h4 h5
    obtain ⟨kd, e0, _, _⟩ := DataW.trod_int Tryz.underlying3 h0
    obtain ⟨nn, e1, _, wf1⟩ := DataW.trod_int Tryz.underlying3 h1
    obtain ⟨i, e2, _, _⟩ := DataW.trod_int Tryz.underlying3 h2
    obtain ⟨s, e3, x3, _⟩ := DataW.trod_string Tryz.underlying9 h3
    obtain ⟨kp, e4, _, _⟩ := DataW.trod_int Tryz.underlying27 h4
    obtain ⟨zs, n2, _, x5, _, hlen2, hz⟩ := DataW.trod_struct Tryz.underlying41 h5
    match zs, hlen2 with
    | [z0, z1, z2, z3, z4], _ =>
      have g0 := hz 0 _ rfl
      have g1 := hz 1 _ rfl
      have g2 := hz 2 _ rfl
      have g3 := hz 3 _ rfl
      have g4 := hz 4 _ rfl
      simp [intCells, strCells] at g0 g1 g2 g3 g4
      obtain ⟨k, e5, _, _⟩ := DataW.trod_int Tryz.underlying3 g0
      obtain ⟨e, e6, _, _⟩ := DataW.trod_int Tryz.underlying3 g1
      obtain ⟨st, e7, _, _⟩ := DataW.trod_int Tryz.underlying3 g2
      obtain ⟨q, e8, _, _⟩ := DataW.trod_int Tryz.underlying3 g3
      obtain ⟨b, e9, x9, _⟩ := DataW.trod_string Tryz.underlying9 g4
      simp at e0 e1 e2 e3 e4 e5 e6 e7 e8 e9
      subst e0 e1 e2 e3 e4 e5 e6 e7 e8 e9
      subst x9 x5 x3
      refine ⟨kd, nn, i, s, kp, k, e, st, q, b, rfl, ?_, ?_⟩
      · simp only [Rows.uptoBulk, Rows.uptoBulkAll, List.map_cons] at hw
        simp at hw
        omega
      · simp only [Lit.wf, Bool.and_eq_true, decide_eq_true_eq] at wf1
        rw [show IntKind.i64.min = -9223372036854775808 from by decide, show IntKind.i64.max = 9223372036854775807 from by decide] at wf1
        exact wf1
set_option maxRecDepth 100000 in
/-- The script that came in, of little bulk. -/
theorem open_opsu {H : Type} {enc : TypeId × Value → H} {w : World} {base : Nat} {spare : Nat → Bool} {held : Bool} {v : Value} {d : DataW H} {p : List MemPlace}
    (h : DataW.Trod enc Tryz.prog w base spare held 22 v d p) (hv : ∃ a len cap, v = .slice a len cap) (hw : Rows.uptoBulk d ≤ 1048576) :
    ∃ ad len cap, v = .slice ad len cap ∧ len ≤ 1048576 ∧ (0 < len → ∃ b0 off, ad = some ⟨b0, off, none⟩ ∧ b0 < w.heap.size ∧ ∀ i, i < len → OpIn w b0 (off + i * 10)) := by
  obtain ⟨a0, l0, c0, rfl⟩ := hv
  obtain ⟨fuel, hf⟩ := h
  have hcs : (Value.slice a0 l0 c0).cells.toList = [.slice a0 l0 c0] := rfl
  rw [hcs] at hf
  rcases Deep.open_slice Tryz.underlying22 hf with ⟨e, _⟩ | ⟨a, len, cap, m, n, D, Pl, e, _, hl, _, hm, hd, hi⟩
  · injection e with e
    injection e with e1 e2 e3
    subst e1 e2 e3
    exact ⟨none, 0, 0, rfl, by omega, fun h => absurd h (by omega)⟩
  · injection e with e
    injection e with e1 e2 e3
    subst e1 e2 e3
    injection hd with hd _
    subst hd
    have hlm : l0 ≤ m := by rw [hm]; split <;> omega
    have hbu : ((List.range l0).map D).length ≤ 1048576 ∧ ∀ x ∈ (List.range l0).map D, Rows.uptoBulk x ≤ 1048576 := by
      simp only [Rows.uptoBulk] at hw
      have h1 := bulk_len ((List.range l0).map D)
      refine ⟨by omega, fun x hx => ?_⟩
      have := bulk_mem hx
      omega
    refine ⟨some a, l0, c0, rfl, by have := hbu.1; simpa using this, fun h0 => ?_⟩
    rw [opCells] at hi
    obtain ⟨b0, off, sp⟩ := a
    have hsp : sp = none ∧ b0 < w.heap.size := by
      obtain ⟨cs', h1, h2⟩ := hi 0 (by omega)
      obtain ⟨_, hlen, hc⟩ := World.cells?_some h1
      have := hc 0 (by omega)
      rw [List.getElem?_eq_getElem (by omega)] at this
      simp only [Addr.add, Nat.zero_mul, if_true] at this
      unfold World.cell? at this
      simp only at this
      split at this
      · rename_i hb
        refine ⟨?_, lt_of_block hb⟩
        cases sp with
        | none => rfl
        | some _ => simp at this
      · cases this
    obtain ⟨rfl, hlt⟩ := hsp
    refine ⟨b0, off, rfl, hlt, fun i hil => ?_⟩
    obtain ⟨cs', h1, h2⟩ := hi i (by omega)
    obtain ⟨_, hlen, hc⟩ := World.cells?_some h1
    obtain ⟨kd, nn, ii, s, kp, k, e, st, q, b, rfl, z1, z2⟩ := open_opu h2 (hbu.2 _ (List.mem_map.2 ⟨i, by simpa using hil, rfl⟩))
    refine ⟨kd, nn, ii, s, kp, k, e, st, q, b, by omega, z2, fun j hj => ?_⟩
    have := hc j hj
    rw [add_plain, add_plain] at this
    rw [this]
    simp


set_option maxRecDepth 100000 in
theorem sends_lifted {top : Nat} (C : AgentC top) (ht : 100000000 ≤ top) (os : Os) (started : os.Started) (H : Type) (enc : TypeId × Value → H) (F : Stop.Interp) :
    ReturnsInHanded {} Tryz.checked os 4 .any ((Rows.OpenSpec.upto Rows.sendsSpec).pre6 enc Tryz.prog Tryz.f4 Rows.sendsUptoRow.domain false) (((Rows.OpenSpec.upto Rows.sendsSpec).at F).post enc Tryz.prog Tryz.f4 false true false false) := by
  refine returnsInHanded_of_cond (C := Tryz.checked) (k := Rows.uptoSmall) rfl Tryz.own started (by kernel_rfl) Tryz.func4
    (OpenSpec.witness (enc := enc) (C := Tryz.checked) (x := ([.nil], [], [])) rfl false ⟨#[], #[.slice none 0 0], []⟩ 8 (by kernel_rfl) (by kernel_rfl) (by kernel_rfl) (by kernel_rfl) (by kernel_rfl) (by kernel_rfl)) ?_
  intro W base args ds gs before hval0 hW hcnd hk hholds
  have hval : ∀ (j : Nat) t v, Tryz.f4.params[j]? = some t → args[j]? = some v → Value.okWide Tryz.prog W .any base t v := hval0
  have hW' := hW
  obtain ⟨p, q, hA0, hV, rfl, hfz, hnd⟩ := hW
  have hA : DataW.TrodAll enc Tryz.prog W 0 (fun _ => true) true Tryz.f4.params.toList args.toList ds p := hA0
  rw [Tryz.params4] at hA hval
  obtain ⟨v0, vs0, d0, ds0, p0, q0, hargs, rfl, rfl, h0, r0⟩ := trodAll_cons hA
  obtain ⟨rfl, rfl, rfl⟩ := trodAll_nil r0
  obtain rfl : args = #[v0] := by cases args; simp_all
  obtain ⟨rfl, rfl⟩ := trodVars_none hV
  have k0 := h0
  have lt0 : ∀ x ∈ p0, x.block < W.heap.size := by obtain ⟨m, hm⟩ := k0; exact DataW.trod_lt m _ _ _ hm
  have hbk : Rows.uptoBulk d0 ≤ 1048576 := by
    have h : Rows.uptoBulkAll ([d0] ++ []) ≤ 1048576 := of_decide_eq_true hk
    have := bulk_mem (d := d0) (l := [d0] ++ []) (by simp)
    omega
  obtain ⟨ad, len, cap, rfl, hlen, hops⟩ := open_opsu h0 (okWide_slice Tryz.underlying22 (hval 0 22 v0 rfl rfl)) hbk
  clear hA0 hval0
  refine (sends_any C ad len cap W hlen ht hops).mono fun e W' ⟨he, bel⟩ => ?_
  subst he
  exact ⟨_, rfl, _, _, _, [], _, [], hW', trodAll_mk1 (shut_bool Tryz.underlying4 _), (trodAll_cons_mk (Below.trod Tryz.laidOut (by kernel_rfl) (of_decide_eq_true (by kernel_rfl)) k0 bel lt0) trodAll_mk0), rfl, bel.frame _, fun h => by cases h⟩

/-- P4 to P7: every Submit, Tick, Deliver, Spool and Epoch of agents, for a program's agent that keeps its contract. -/
theorem sends_holds {top : Nat} (C : AgentC top) (ht : 100000000 ≤ top) : Rows.SendsUptoSaid :=
  OpenClaim.holds_of_cond 4 Tryz.f4 rfl rfl rfl rfl rfl rfl rfl ⟨rfl, rfl, rfl, rfl, rfl⟩ rfl rfl rfl rfl rfl (by kernel_rfl) Tryz.func4 (by kernel_rfl)
    (of_decide_eq_true (by kernel_rfl)) (by unfold Func.isWrapper; rw [if_neg (by decide +kernel)]; exact ⟨rfl, rfl⟩)
    (fun os started H enc _ F => by rw [OpenClaim.pre_of_none' rfl]; exact sends_lifted C ht os started H enc F)
end Go.Proofs.YtamafdcnbcoegaaGreat
