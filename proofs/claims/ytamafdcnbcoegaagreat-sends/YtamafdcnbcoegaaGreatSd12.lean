/-
  Part 12 of a proof: L9, L10, L11, K14, K16, L12, L13, K17.
-/
import Derived.Maps.AppendAt
import Derived.Test.YtamafdcnbcoegaaGreatSd11
namespace Go.Proofs.YtamafdcnbcoegaaGreat
open Go.RowKit
def clr (sh : Nat → List (Nat × Value)) (j : Nat) (t : Nat) : List (Nat × Value) := if t % 3 ≠ 0 ∧ t < j * 3 then [] else sh t
theorem clr_zero (sh : Nat → List (Nat × Value)) : clr sh 0 = sh := by funext t; unfold clr; rw [if_neg (by omega)]
theorem clr_next (sh : Nat → List (Nat × Value)) (j : Nat) : (fun t => if t = j * 3 + 2 then ([] : List (Nat × Value)) else (fun t => if t = j * 3 + 1 then [] else clr sh j t) t) = clr sh (j + 1) := by
  funext t
  unfold clr
  by_cases h1 : t = j * 3 + 2
  · rw [if_pos h1, if_pos (by omega)]
  · rw [if_neg h1]
    show (if t = j * 3 + 1 then ([] : List (Nat × Value)) else _) = _
    by_cases h2 : t = j * 3 + 1
    · rw [if_pos h2, if_pos (by omega)]
    · rw [if_neg h2]
      by_cases h3 : t % 3 ≠ 0 ∧ t < j * 3
      · rw [if_pos h3, if_pos (by omega)]
      · rw [if_neg h3, if_neg (by omega)]
section
variable {w : World} {p : Nat} {g : Nat → Nat} {free : List Nat} {sh : Nat → List (Nat × Value)} {st : Mod.Stv} {c : Av} {a : Mod.Ag} {op : Nat} {pl : Nat → List Nat}
theorem onAg_fresh (O : OnAg a op g free sh pl) : OnAg { a with welcome := true, fl := Mod.fresh a.fl 3 } op g free (clr sh 3) pl := by
  have hfl : ∀ i, i < 3 → Mod.fresh a.fl 3 i = { a.fl i with kept := (a.fl i).kept.map fun r => (r.1, 0), held := [] } := fun i hi => by unfold Mod.fresh; rw [if_pos hi]
  refine ⟨O.ep, fun i hi => ?_, fun i hi => ?_, fun i hi => ?_, fun i hi n => ?_, fun i hi => ?_, fun i hi n => ?_, fun i hi => ?_, fun i hi => ?_, O.nd, O.lt, ?_⟩
  · show g i = (Mod.fresh a.fl 3 i).base
    rw [hfl i hi]; exact O.bs i hi
  · show (pl i).length = (Mod.fresh a.fl 3 i).kept.length
    rw [hfl i hi]; simpa using O.pn i hi
  · show clr sh 3 (i * 3) = keptL (Mod.fresh a.fl 3 i).base (Mod.fresh a.fl 3 i).kept (pl i)
    unfold clr
    rw [if_neg (by omega), hfl i hi, O.kp i hi]
    exact keptL_same _ _ _ _ (by simp)
  · show look (clr sh 3 (i * 3 + 1)) _ = sentF (Mod.fresh a.fl 3 i) n
    unfold clr
    rw [if_pos (by omega), hfl i hi]
    unfold sentF
    simp only
    split
    · rfl
    · cases h : ((a.fl i).kept.map fun r => (r.1, 0))[n - (a.fl i).base - 1]? with
      | none => rfl
      | some x =>
        rw [List.getElem?_map] at h
        cases hk : (a.fl i).kept[n - (a.fl i).base - 1]? with
        | none => rw [hk] at h; cases h
        | some y => rw [hk] at h; cases h; rfl
  · show AreI (clr sh 3 (i * 3 + 1))
    unfold clr
    rw [if_pos (by omega)]
    intro x hx; cases hx
  · show (look (clr sh 3 (i * 3 + 2)) _).isSome = (Mod.fresh a.fl 3 i).held.contains n
    unfold clr
    rw [if_pos (by omega), hfl i hi]
    rfl
  · show AreU (clr sh 3 (i * 3 + 2))
    unfold clr
    rw [if_pos (by omega)]
    intro x hx; cases hx
  · show (clr sh 3 (i * 3 + 2)).length ≤ 3
    unfold clr
    rw [if_pos (by omega)]
    simp
  · have h := O.sum
    have h2 : Mod.Ag.room { a with welcome := true, fl := Mod.fresh a.fl 3 } = a.room := by
      simp [Mod.Ag.room, Mod.fresh]
    rw [h2]
    exact h
theorem wel_max (b l : Nat) (n : Int) : max (b : Int) (min n ((b + l : Nat) : Int)) = ((b + min (n - b).toNat l : Nat) : Int) := by omega
set_option maxRecDepth 100000 in
set_option maxHeartbeats 4000000 in
theorem obeyWelcome_no (H : PaAt w p g a.ticks a.welcome a.fenced free sh st c) (O : OnAg a st.opening g free sh pl) (e : Nat) (s q : Int) (b : ByteArray) (he : e ≠ a.epoch) :
    Calls Tryz.prog 104 #[ptrTo p, .agg #[.int .i64 2, .int .i64 e, .int .i64 s, .int .i64 q, .string b]] w fun r z => r = .returned (.int .i64 0) ∧ Below w.heap.size w z := by
  have HEP := fun z (hz : Below w.heap.size w z) => hide (agEpoch_any (H.below hz))
  obtain ⟨ep, hep⟩ : ∃ ep, ep = a.epoch := ⟨_, rfl⟩
  have hop : st.opening = ep := by rw [hep]; exact O.ep
  rw [hop] at HEP
  rw [← hep] at he
  have DD := hide (boxAt_new w #[.int .i64 2, .int .i64 e, .int .i64 s, .int .i64 q, .string b])
  have hne : ((e : Int) != (ep : Int)) = true := by simp; omega
  clear H O hop hep
  unfold ptrTo at *
  go_enter Tryz.func104, Tryz.ntmps104
  go_upto_region 1 with fail
  refine wp_world (BoxAt w #[.int .i64 2, .int .i64 e, .int .i64 s, .int .i64 q, .string b]) (unhide DD) ?_
  clear DD
  intro x X
  have y1 := blk_cell (i := 1) X.box
  simp at y1
  have HE1 := fun n => hide (unhide (HEP (x.drewN n) (X.drewN n).bel))
  have HX := hide X
  clear X
  go_quiet (first | (go_at_call 66; exact Calls.quiet_of_same (unhide (HE1 _))))
  go_wp2
  go_ret
  exact ⟨rfl, ((unhide HX).drewN _).bel⟩

set_option maxRecDepth 100000 in
set_option maxHeartbeats 8000000 in
theorem obeyWelcome_yes (H : PaAt w p g a.ticks a.welcome a.fenced free sh st c) (hs : Sound st) (O : OnAg a st.opening g free sh pl) (e : Nat) (s q : Int) (b : ByteArray) (he : e = a.epoch) (h12 : b.size = 12) (hbnd : ∀ i, i < 3 → (a.fl i).base + (a.fl i).kept.length < 4294967296) :
    Calls Tryz.prog 104 #[ptrTo p, .agg #[.int .i64 2, .int .i64 e, .int .i64 s, .int .i64 q, .string b]] w fun r z => r = .returned (.int .i64 0) ∧ AgIs w z p (a.deliver 2 e s q b) c := by
  have hpl := lt_of_block H.ks.blk
  have HEP := fun z (hz : Below w.heap.size w z) => hide (agEpoch_any (H.below hz))
  obtain ⟨n, hn⟩ : ∃ n, n = a.says 2 e s q b := ⟨_, rfl⟩
  have hd : a.deliver 2 e s q b = { a.drop n with welcome := true, fl := Mod.fresh (a.drop n).fl 3 } := by
    unfold Mod.Ag.deliver
    rw [if_neg (by omega), if_neg (by omega), if_neg (by omega), if_pos rfl, hn]
  have hnl : ∀ i, i < 3 → n i ≤ (a.fl i).kept.length := fun i _ => by rw [hn]; exact says_le _ _ _ _ _ _ _
  have hni : ∀ i, n i = min (Wire.numAt b.data.toList (4 * i) - (a.fl i).base).toNat (a.fl i).kept.length := fun i => by
    rw [hn]
    unfold Mod.Ag.says
    rw [if_neg (by omega), if_pos rfl]
    rfl
  obtain ⟨X, hX⟩ : ∃ X : Nat → Nat, X = fun i => (a.fl i).base + n i := ⟨_, rfl⟩
  have hmx : ∀ i, max ((a.fl i).base : Int) (min (Wire.numAt b.data.toList (4 * i)) (((a.fl i).base + (a.fl i).kept.length : Nat) : Int)) = (X i : Int) := fun i => by
    rw [wel_max, hX]
    show _ = (((a.fl i).base + n i : Nat) : Int)
    rw [hni i]
  have hLG := fun z (hz : Below w.heap.size w z) => letGo_any (H.below hz) hs O n X hnl (fun i _ => by rw [hX]) (fun i hi => by have := hbnd i hi; have := hnl i hi; rw [hX]; show (a.fl i).base + n i < _; omega)
  have hCM := fun z => Committed_any b z h12
  have hLs := fun i (hi : i < 3) z (hz : Below w.heap.size w z) => agLast_any (H.below hz) O hi (O.bs i hi)
  have q0 : w.cell? ⟨p, 1, none⟩ = some (.int .i64 (a.fl 0).base) := by rw [blk_cell H.ks.blk, ← O.bs 0 (by omega)]; exact H.ks.ag 0 (by omega)
  have q1 : w.cell? ⟨p, 2, none⟩ = some (.int .i64 (a.fl 1).base) := by rw [blk_cell H.ks.blk, ← O.bs 1 (by omega)]; exact H.ks.ag 1 (by omega)
  have q2 : w.cell? ⟨p, 3, none⟩ = some (.int .i64 (a.fl 2).base) := by rw [blk_cell H.ks.blk, ← O.bs 2 (by omega)]; exact H.ks.ag 2 (by omega)
  have HL0 := fun z hz => hide (hLs 0 (by omega) z hz)
  have HL1 := fun z hz => hide (hLs 1 (by omega) z hz)
  have HL2 := fun z hz => hide (hLs 2 (by omega) z hz)
  have m0 := hmx 0
  have m1 := hmx 1
  have m2 := hmx 2
  simp only [Nat.mul_zero, Nat.mul_one, show 4 * 2 = 8 from rfl] at m0 m1 m2
  have HCM := fun z => hide (hCM z)
  generalize Wire.numAt b.data.toList 0 = n0 at *
  generalize Wire.numAt b.data.toList 4 = n1 at *
  generalize Wire.numAt b.data.toList 8 = n2 at *
  have HLG := fun z hz => hide (hLG z hz)
  obtain ⟨x0, hx0⟩ : ∃ x, x = X 0 := ⟨_, rfl⟩
  obtain ⟨x1, hx1⟩ : ∃ x, x = X 1 := ⟨_, rfl⟩
  obtain ⟨x2, hx2⟩ : ∃ x, x = X 2 := ⟨_, rfl⟩
  rw [← hx0] at m0
  rw [← hx1] at m1
  rw [← hx2] at m2
  rw [← hx0, ← hx1, ← hx2] at HLG
  obtain ⟨b0, hb0⟩ : ∃ v, v = (a.fl 0).base + (a.fl 0).kept.length := ⟨_, rfl⟩
  obtain ⟨b1, hb1⟩ : ∃ v, v = (a.fl 1).base + (a.fl 1).kept.length := ⟨_, rfl⟩
  obtain ⟨b2, hb2⟩ : ∃ v, v = (a.fl 2).base + (a.fl 2).kept.length := ⟨_, rfl⟩
  rw [← hb0] at m0 HL0
  rw [← hb1] at m1 HL1
  rw [← hb2] at m2 HL2
  obtain ⟨g0, hg0⟩ : ∃ v, v = (a.fl 0).base := ⟨_, rfl⟩
  obtain ⟨g1, hg1⟩ : ∃ v, v = (a.fl 1).base := ⟨_, rfl⟩
  obtain ⟨g2, hg2⟩ : ∃ v, v = (a.fl 2).base := ⟨_, rfl⟩
  rw [← hg0] at m0 q0
  rw [← hg1] at m1 q1
  rw [← hg2] at m2 q2
  simp only [show ((0 : Nat) : Int) = 0 from rfl, show ((1 : Nat) : Int) = 1 from rfl, show ((2 : Nat) : Int) = 2 from rfl] at HL0 HL1 HL2
  obtain ⟨ep, hep⟩ : ∃ ep, ep = a.epoch := ⟨_, rfl⟩
  have hop : st.opening = ep := by rw [hep]; exact O.ep
  rw [hop] at HEP
  have hne : ((e : Int) != (ep : Int)) = false := by simp; omega
  obtain ⟨a2, ha2⟩ : ∃ a2, a2 = a.deliver 2 e s q b := ⟨_, rfl⟩
  rw [← ha2] at hd ⊢
  obtain ⟨a1, ha1⟩ : ∃ a1, a1 = a.drop n := ⟨_, rfl⟩
  rw [← ha1] at hd HLG
  have HD := hide hd
  have DD := hide (boxAt_new w #[.int .i64 2, .int .i64 e, .int .i64 s, .int .i64 q, .string b])
  have i0 : ∀ w : World, (Instr.index 98 (.agg #[.int .i64 n0, .int .i64 n1, .int .i64 n2]) (.int .i64 0)).run Tryz.prog w = .ok (.int .i64 n0) w := fun _ => by kernel_rfl
  have i1 : ∀ w : World, (Instr.index 98 (.agg #[.int .i64 n0, .int .i64 n1, .int .i64 n2]) (.int .i64 1)).run Tryz.prog w = .ok (.int .i64 n1) w := fun _ => by kernel_rfl
  have i2 : ∀ w : World, (Instr.index 98 (.agg #[.int .i64 n0, .int .i64 n1, .int .i64 n2]) (.int .i64 2)).run Tryz.prog w = .ok (.int .i64 n2) w := fun _ => by kernel_rfl
  clear H O hs hn hd hnl hni hX hmx hLG hCM hLs hx0 hx1 hx2 hb0 hb1 hb2 hg0 hg1 hg2 hop hep ha2 ha1 he h12 hbnd
  unfold ptrTo at *
  go_enter Tryz.func104, Tryz.ntmps104
  go_upto_region 1 with fail
  refine wp_world (BoxAt w #[.int .i64 2, .int .i64 e, .int .i64 s, .int .i64 q, .string b]) (unhide DD) ?_
  clear DD
  intro x X9
  have y1 := blk_cell (i := 1) X9.box
  simp at y1
  have HE1 := fun n => hide (unhide (HEP (x.drewN n) (X9.drewN n).bel))
  have HX := hide X9
  clear X9
  go_quiet (first | (go_at_call 66; exact Calls.quiet_of_same (unhide (HE1 _))))
  go_upto_region 3 with fail
  refine wp_world (BoxAt w #[.int .i64 2, .int .i64 e, .int .i64 s, .int .i64 q, .string b]) ((unhide HX).drewN _) ?_
  clear HX y1 HE1
  intro x X9
  have y4 := blk_cell (i := 4) X9.box
  simp at y4
  have d0 := (X9.bel.cell (p := ⟨p, 1, none⟩) hpl).trans q0
  have d1 := (X9.bel.cell (p := ⟨p, 2, none⟩) hpl).trans q1
  have d2 := (X9.bel.cell (p := ⟨p, 3, none⟩) hpl).trans q2
  have hxl := X9.lt
  have HX := hide X9
  clear X9 q0 q1 q2
  go_upto_region 4 with fail
  obtain ⟨g5, hg5⟩ : ∃ g5, g5 = x.heap.size := ⟨_, rfl⟩
  have HG5 := hide hg5
  have hg5w : w.heap.size ≤ g5 := by have := (unhide HX).bel.size; omega
  rw [← hg5]
  have hpg5 : ¬ w.heap.size = g5 := by omega
  clear hg5
  refine wp_world (fun y => y.heap[g5]? = some (.cells #[.int .i64 g0, .int .i64 g1, .int .i64 g2] 136 (0, 0)) ∧ BoxAt w #[.int .i64 2, .int .i64 e, .int .i64 s, .int .i64 q, .string b] y) ?_ ?_
  · rw [unhide HG5]
    exact ⟨heap_alloc_new _ _, (unhide HX).below ((Below.refl _ _).alloc (Nat.le_refl _) _)⟩
  clear HX HG5 y4 d0 d1 d2 hxl
  rintro y ⟨h5, X9⟩
  have y4 := blk_cell (i := 4) X9.box
  simp at y4
  have HY := hide (And.intro h5 X9)
  clear h5 X9
  go_upto_region 5 with (go_at_call 151; refine (unhide (HCM _)).mono ?_; rintro r z ⟨rfl, hb⟩)
  have h5z := (hb.block _ (lt_of_block (unhide HY).1)).trans (unhide HY).1
  have hbz := (unhide HY).2.bel.trans (hb.mono (unhide HY).2.bel.size)
  have HZ := hide (And.intro h5z hbz)
  clear hb h5z hbz HY y4
  go_loopw [6, 7, 22] (fun _ _ i wr => ∃ j : Nat, j ≤ 3 ∧ i = .int .i64 j ∧ wr.heap[g5]? = some (.cells #[.int .i64 (if 0 < j then x0 else g0 : Nat), .int .i64 (if 1 < j then x1 else g1 : Nat), .int .i64 (if 2 < j then x2 else g2 : Nat)] 136 (0, 0)) ∧ Below w.heap.size w wr) (fun _ _ i _ => 3 - (intOf i).toNat)
  case atStart =>
    obtain ⟨h1, h2⟩ := unhide HZ
    exact ⟨0, by omega, rfl, by simpa using h1, h2⟩
  case round =>
    obtain ⟨j, hj, rfl, h5, hbw⟩ := hrel
    clear HZ
    have e0 := blk_cell (i := 0) h5
    have e1 := blk_cell (i := 1) h5
    have e2 := blk_cell (i := 2) h5
    have h5l := lt_of_block h5
    have H5 := hide h5
    have HBW := hide hbw
    clear h5 hbw
    rcases (show j = 0 ∨ j = 1 ∨ j = 2 ∨ j = 3 by omega) with rfl | rfl | rfl | rfl
    · simp at e0
      go_wp2_with fail
      refine wp_region_last (by kernel_rfl)
        [fun v _ => v = .int .i64 0, fun v _ => v = .int .i64 0, fun v _ => v = .pointer (some ⟨g5, 0, none⟩), fun v _ => v = .int .i64 g0, fun v _ => v = .int .i64 n0, fun v _ => v = .pointer (some ⟨p, 0, none⟩), fun v _ => v = .int .i64 0, fun v _ => v = .int .i64 b0, fun v _ => v = .int .i64 (min n0 (b0 : Int)), fun v _ => v = .int .i64 x0, fun v _ => v = .pointer (some ⟨g5, 0, none⟩), fun _ _ => True]
        [[(6, none)], [(6, none)], [(5, none), (27, some 1)], [(28, some 2)], [(7, none)], [(0, none)], [(6, none)], [(31, some 5), (32, some 6)], [(30, some 4), (33, some 7)], [(29, some 3), (34, some 8)], [(5, none), (26, some 0)], [(36, some 10), (35, some 9)]] [some 26, some 27, some 28, some 29, some 30, some 31, some 32, some 33, some 34, some 35, some 36, none] [false, false, false, false, false, false, false, false, false, false, false, false, false, false, false, false, false, false, false, false, false, false, false, false, false, false, true, true, true, true, true, true, true, true, true, true, true, false, false, false, false, false, false, false, false, false, false, false, false, false, false, false, false, false, false, false, false, false, false, false, false, false, false, false, false]
        11 _ rfl rfl (by kernel_rfl) (by kernel_rfl) (by kernel_rfl) (by kernel_rfl) (by kernel_rfl) (by kernel_rfl) ?_ ?_ ?_
      · repeat' (first | exact stable_eq _ | exact stable_true | exact trivial | apply And.intro)
      · refine ⟨?_, ?_, ?_, ?_, ?_, ?_, ?_, ?_, ?_, ?_, ?_, trivial⟩
        all_goals
          intro a' z hb hf
          have d0 := (hb.cell (p := ⟨g5, 0, none⟩) h5l).trans e0
          have HL := hide (unhide (HL0 z ((unhide HBW).trans (hb.mono (unhide HBW).size))))
          clear hb
          simp only [PlanFacts, List.getD_cons_zero, List.getD_cons_succ, Array.getD_eq_getD_getElem?] at hf
          try simp at hf
          go_simp
          try exact ⟨_, rfl, Below.refl _ _, rfl⟩
          try exact Below.refl _ _
        all_goals first
          | (refine (unhide HL).mono ?_; rintro r z2 ⟨rfl, q, rfl⟩; exact ⟨rfl, below_drewN (Below.refl _ _) q⟩)
          | (refine (unhide HL).mono ?_; rintro r z2 ⟨rfl, q, rfl⟩; exact ⟨_, rfl, below_drewN (Below.refl _ _) q, rfl⟩)
          | skip
      · intro f z hby hwd
        simp only [AllWords, List.take] at hwd
        have q9 := hwd.2.2.2.2.2.2.2.2.2.1
        have q10 := hwd.2.2.2.2.2.2.2.2.2.2.1
        clear hwd
        have z5 := (hby.block _ h5l).trans (unhide H5)
        have d0 := (hby.cell (p := ⟨g5, 0, none⟩) h5l).trans e0
        have f0 := blk_free (i := 0) z5
        have HZ5 := hide z5
        have HBZ := hide ((unhide HBW).trans (hby.mono (unhide HBW).size))
        clear hby z5
        simp only [mergeT, q9, q10]
        generalize f 26 = v26
        generalize f 27 = v27
        generalize f 28 = v28
        generalize f 29 = v29
        generalize f 30 = v30
        generalize f 31 = v31
        generalize f 32 = v32
        generalize f 33 = v33
        generalize f 34 = v34
        go_simp
        go_wp2
        refine ⟨⟨1, by omega, by go_num, ?_, ?_⟩, by simp [intOf]⟩
        · have := blk_set (j := 0) (v := .int .i64 x0) (unhide HZ5)
          simpa using this
        · exact (unhide HBZ).setCell (p := ⟨g5, 0, none⟩) hg5w _
    · simp at e1
      go_wp2_with fail
      refine wp_region_last (by kernel_rfl)
        [fun v _ => v = .int .i64 1, fun v _ => v = .int .i64 1, fun v _ => v = .pointer (some ⟨g5, 1, none⟩), fun v _ => v = .int .i64 g1, fun v _ => v = .int .i64 n1, fun v _ => v = .pointer (some ⟨p, 0, none⟩), fun v _ => v = .int .i64 1, fun v _ => v = .int .i64 b1, fun v _ => v = .int .i64 (min n1 (b1 : Int)), fun v _ => v = .int .i64 x1, fun v _ => v = .pointer (some ⟨g5, 1, none⟩), fun _ _ => True]
        [[(6, none)], [(6, none)], [(5, none), (27, some 1)], [(28, some 2)], [(7, none)], [(0, none)], [(6, none)], [(31, some 5), (32, some 6)], [(30, some 4), (33, some 7)], [(29, some 3), (34, some 8)], [(5, none), (26, some 0)], [(36, some 10), (35, some 9)]] [some 26, some 27, some 28, some 29, some 30, some 31, some 32, some 33, some 34, some 35, some 36, none] [false, false, false, false, false, false, false, false, false, false, false, false, false, false, false, false, false, false, false, false, false, false, false, false, false, false, true, true, true, true, true, true, true, true, true, true, true, false, false, false, false, false, false, false, false, false, false, false, false, false, false, false, false, false, false, false, false, false, false, false, false, false, false, false, false]
        11 _ rfl rfl (by kernel_rfl) (by kernel_rfl) (by kernel_rfl) (by kernel_rfl) (by kernel_rfl) (by kernel_rfl) ?_ ?_ ?_
      · repeat' (first | exact stable_eq _ | exact stable_true | exact trivial | apply And.intro)
      · refine ⟨?_, ?_, ?_, ?_, ?_, ?_, ?_, ?_, ?_, ?_, ?_, trivial⟩
        all_goals
          intro a' z hb hf
          have d1 := (hb.cell (p := ⟨g5, 1, none⟩) h5l).trans e1
          have HL := hide (unhide (HL1 z ((unhide HBW).trans (hb.mono (unhide HBW).size))))
          clear hb
          simp only [PlanFacts, List.getD_cons_zero, List.getD_cons_succ, Array.getD_eq_getD_getElem?] at hf
          try simp at hf
          go_simp
          try exact ⟨_, rfl, Below.refl _ _, rfl⟩
          try exact Below.refl _ _
        all_goals first
          | (refine (unhide HL).mono ?_; rintro r z2 ⟨rfl, q, rfl⟩; exact ⟨rfl, below_drewN (Below.refl _ _) q⟩)
          | (refine (unhide HL).mono ?_; rintro r z2 ⟨rfl, q, rfl⟩; exact ⟨_, rfl, below_drewN (Below.refl _ _) q, rfl⟩)
          | skip
      · intro f z hby hwd
        simp only [AllWords, List.take] at hwd
        have q9 := hwd.2.2.2.2.2.2.2.2.2.1
        have q10 := hwd.2.2.2.2.2.2.2.2.2.2.1
        clear hwd
        have z5 := (hby.block _ h5l).trans (unhide H5)
        have d1 := (hby.cell (p := ⟨g5, 1, none⟩) h5l).trans e1
        have f1 := blk_free (i := 1) z5
        have HZ5 := hide z5
        have HBZ := hide ((unhide HBW).trans (hby.mono (unhide HBW).size))
        clear hby z5
        simp only [mergeT, q9, q10]
        generalize f 26 = v26
        generalize f 27 = v27
        generalize f 28 = v28
        generalize f 29 = v29
        generalize f 30 = v30
        generalize f 31 = v31
        generalize f 32 = v32
        generalize f 33 = v33
        generalize f 34 = v34
        go_simp
        go_wp2
        refine ⟨⟨2, by omega, by go_num, ?_, ?_⟩, by simp [intOf]⟩
        · have := blk_set (j := 1) (v := .int .i64 x1) (unhide HZ5)
          simpa using this
        · exact (unhide HBZ).setCell (p := ⟨g5, 1, none⟩) hg5w _
    · simp at e2
      go_wp2_with fail
      refine wp_region_last (by kernel_rfl)
        [fun v _ => v = .int .i64 2, fun v _ => v = .int .i64 2, fun v _ => v = .pointer (some ⟨g5, 2, none⟩), fun v _ => v = .int .i64 g2, fun v _ => v = .int .i64 n2, fun v _ => v = .pointer (some ⟨p, 0, none⟩), fun v _ => v = .int .i64 2, fun v _ => v = .int .i64 b2, fun v _ => v = .int .i64 (min n2 (b2 : Int)), fun v _ => v = .int .i64 x2, fun v _ => v = .pointer (some ⟨g5, 2, none⟩), fun _ _ => True]
        [[(6, none)], [(6, none)], [(5, none), (27, some 1)], [(28, some 2)], [(7, none)], [(0, none)], [(6, none)], [(31, some 5), (32, some 6)], [(30, some 4), (33, some 7)], [(29, some 3), (34, some 8)], [(5, none), (26, some 0)], [(36, some 10), (35, some 9)]] [some 26, some 27, some 28, some 29, some 30, some 31, some 32, some 33, some 34, some 35, some 36, none] [false, false, false, false, false, false, false, false, false, false, false, false, false, false, false, false, false, false, false, false, false, false, false, false, false, false, true, true, true, true, true, true, true, true, true, true, true, false, false, false, false, false, false, false, false, false, false, false, false, false, false, false, false, false, false, false, false, false, false, false, false, false, false, false, false]
        11 _ rfl rfl (by kernel_rfl) (by kernel_rfl) (by kernel_rfl) (by kernel_rfl) (by kernel_rfl) (by kernel_rfl) ?_ ?_ ?_
      · repeat' (first | exact stable_eq _ | exact stable_true | exact trivial | apply And.intro)
      · refine ⟨?_, ?_, ?_, ?_, ?_, ?_, ?_, ?_, ?_, ?_, ?_, trivial⟩
        all_goals
          intro a' z hb hf
          have d2 := (hb.cell (p := ⟨g5, 2, none⟩) h5l).trans e2
          have HL := hide (unhide (HL2 z ((unhide HBW).trans (hb.mono (unhide HBW).size))))
          clear hb
          simp only [PlanFacts, List.getD_cons_zero, List.getD_cons_succ, Array.getD_eq_getD_getElem?] at hf
          try simp at hf
          go_simp
          try exact ⟨_, rfl, Below.refl _ _, rfl⟩
          try exact Below.refl _ _
        all_goals first
          | (refine (unhide HL).mono ?_; rintro r z2 ⟨rfl, q, rfl⟩; exact ⟨rfl, below_drewN (Below.refl _ _) q⟩)
          | (refine (unhide HL).mono ?_; rintro r z2 ⟨rfl, q, rfl⟩; exact ⟨_, rfl, below_drewN (Below.refl _ _) q, rfl⟩)
          | skip
      · intro f z hby hwd
        simp only [AllWords, List.take] at hwd
        have q9 := hwd.2.2.2.2.2.2.2.2.2.1
        have q10 := hwd.2.2.2.2.2.2.2.2.2.2.1
        clear hwd
        have z5 := (hby.block _ h5l).trans (unhide H5)
        have d2 := (hby.cell (p := ⟨g5, 2, none⟩) h5l).trans e2
        have f2 := blk_free (i := 2) z5
        have HZ5 := hide z5
        have HBZ := hide ((unhide HBW).trans (hby.mono (unhide HBW).size))
        clear hby z5
        simp only [mergeT, q9, q10]
        generalize f 26 = v26
        generalize f 27 = v27
        generalize f 28 = v28
        generalize f 29 = v29
        generalize f 30 = v30
        generalize f 31 = v31
        generalize f 32 = v32
        generalize f 33 = v33
        generalize f 34 = v34
        go_simp
        go_wp2
        refine ⟨⟨3, by omega, by go_num, ?_, ?_⟩, by simp [intOf]⟩
        · have := blk_set (j := 2) (v := .int .i64 x2) (unhide HZ5)
          simpa using this
        · exact (unhide HBZ).setCell (p := ⟨g5, 2, none⟩) hg5w _
    · simp at e0 e1 e2
      have HLX := hide (unhide (HLG wr (unhide HBW)))
      clear HLG HL0 HL1 HL2 i0 i1 i2 m0 m1 m2
      go_upto_region 12 with (go_at_call 152; refine (unhide HLX).mono ?_; rintro r y ⟨rfl, hag⟩)
      obtain ⟨gg, fr1, sh1, pl1, st1, hP1, hs1, hO1⟩ := hag
      have HP1 := hide (hP1.behind (unhide HBW))
      have HO1 := hide (And.intro hs1 hO1)
      clear hP1 hs1 hO1 HLX e0 e1 e2 H5
      go_wp2
      go_loopw [9, 44] (fun _ i wr => ∃ j : Nat, j ≤ 3 ∧ i = .int .i64 j ∧ PaStep w wr p gg a1.ticks a1.welcome a1.fenced fr1 (clr sh1 j) st1 c) (fun _ i _ => 3 - (intOf i).toNat)
      case atStart => exact ⟨0, by omega, rfl, by rw [clr_zero]; exact unhide HP1⟩
      case round =>
        obtain ⟨j, hj, rfl, hP⟩ := hrel
        clear HP1
        by_cases hlt : j < 3
        · obtain ⟨c1, K1, F1, N1, t1, t2⟩ := hP
          have hC1 := clearI_any (K1.shAt (i := j * 3 + 1) (by omega))
          rw [show 4 + (j * 3 + 1) * 2 = 4 + j * 6 + 2 by omega] at hC1
          have HC1 := hide hC1
          have HK1 := hide (And.intro K1 (And.intro F1 (And.intro N1 (And.intro t1 t2))))
          have hj0 : (0 : Int) ≤ (j : Int) := by omega
          have hj3 : (j : Int) < 3 := by omega
          clear K1 F1 N1 t1 t2 hC1
          go_upto_region 16 with (go_at_call 153; refine (unhide HC1).mono ?_; rintro r y ⟨rfl, hst⟩)
          obtain ⟨K1, F1, N1, t1, t2⟩ := unhide HK1
          have hst2 : ShStep wr y p (4 + (j * 3 + 1) * 2) 151 c1.arr (c1.nv (j * 3 + 1)) (c1.mv (j * 3 + 1)) [] := by rw [show 4 + (j * 3 + 1) * 2 = 4 + j * 6 + 2 by omega]; exact hst
          obtain ⟨c2, K2, F2, N2, s1, s2⟩ := paAfter F1 N1 t1 t2 (paStep_sh K1 (i := j * 3 + 1) (by omega) hst2)
          have hC2 := clearU_any (K2.shAt (i := j * 3 + 2) (by omega))
          rw [show 4 + (j * 3 + 2) * 2 = 4 + j * 6 + 4 by omega] at hC2
          have HC2 := hide hC2
          have HK2 := hide (And.intro K2 (And.intro F2 (And.intro N2 (And.intro s1 s2))))
          clear K1 F1 N1 t1 t2 K2 F2 N2 s1 s2 hC2 hst hst2 HK1 HC1
          go_wp2_with (go_at_call 154; refine (unhide HC2).mono ?_; rintro r z ⟨rfl, hst⟩)
          obtain ⟨K2, F2, N2, s1, s2⟩ := unhide HK2
          have hst2 : ShStep y z p (4 + (j * 3 + 2) * 2) 151 c2.arr (c2.nv (j * 3 + 2)) (c2.mv (j * 3 + 2)) [] := by rw [show 4 + (j * 3 + 2) * 2 = 4 + j * 6 + 4 by omega]; exact hst
          have hP3 := paAfter F2 N2 s1 s2 (paStep_sh K2 (i := j * 3 + 2) (by omega) hst2)
          rw [clr_next] at hP3
          exact ⟨⟨j + 1, by omega, by go_num, hP3⟩, by simp [intOf]; omega⟩
        · obtain rfl : j = 3 := by omega
          obtain ⟨c1, K1, _⟩ := id hP
          have f24 := blk_free (i := 24) K1.ks.blk
          have d24 : wr.cell? ⟨p, 24, none⟩ = some (.bool a1.welcome) := by rw [blk_cell K1.ks.blk, K1.ks.aw]
          have HP := hide (hP.trans (fun c' h => paStep_wel h true))
          clear hP K1
          go_wp2
          go_ret
          refine ⟨rfl, ?_⟩
          rw [unhide HD]
          exact ⟨gg, fr1, clr sh1 3, pl1, st1, unhide HP, (unhide HO1).1, onAg_fresh (unhide HO1).2⟩
end
end Go.Proofs.YtamafdcnbcoegaaGreat
namespace Go.Proofs.YtamafdcnbcoegaaGreat
open Go.RowKit

theorem snoc_ind {P : List Nat → Prop} (h0 : P []) (h1 : ∀ l n, P l → P (l ++ [n])) (l : List Nat) : P l := by
  have H : ∀ (k : Nat) (l : List Nat), l.length = k → P l := by
    intro k
    induction k with
    | zero => intro l hl; rw [List.length_eq_zero_iff.1 hl]; exact h0
    | succ k ih =>
      intro l hl
      rcases List.eq_nil_or_concat l with rfl | ⟨l', n, rfl⟩
      · simp at hl
      · rw [List.concat_eq_append]
        exact h1 _ _ (ih _ (by simpa using hl))
  exact H _ l rfl
theorem heldF_snoc (l : List Nat) (n : Nat) : (l ++ [n]).foldl (fun l n => putL l n recU) [] = putL (l.foldl (fun l n => putL l n recU) []) n recU := by simp
theorem heldF_areU : ∀ (l : List Nat), AreU (l.foldl (fun l n => putL l n recU) []) := by
  refine snoc_ind (fun x hx => by cases hx) (fun l n ih => ?_)
  · rw [heldF_snoc]
    intro x hx
    rcases mem_putL hx with rfl | hx
    · rfl
    · exact ih x hx
theorem heldF_len : ∀ (l : List Nat), (l.foldl (fun l n => putL l n recU) []).length ≤ l.length := by
  refine snoc_ind (by simp) (fun l n ih => ?_)
  · rw [heldF_snoc]
    have := length_putL_le (l.foldl (fun l n => putL l n recU) []) n recU
    simp
    omega
theorem heldF_look : ∀ (l : List Nat) (n : Nat), (look (l.foldl (fun l n => putL l n recU) []) (n : Int)).isSome = l.contains n := by
  refine snoc_ind (fun n => rfl) (fun l m ih => ?_)
  · intro n
    rw [heldF_snoc, look_putL]
    unfold putF
    by_cases h : (n : Int) = (m : Int)
    · have h' : n = m := by omega
      subst h'
      rw [if_pos rfl]
      simp
    · rw [if_neg h, ih n]
      have h' : ¬ n = m := by omega
      simp [h']
section
variable {g : Nat → Nat} {free : List Nat} {sh : Nat → List (Nat × Value)} {a : Mod.Ag} {op : Nat} {pl : Nat → List Nat}
theorem onAg_held (O : OnAg a op g free sh pl) {s : Nat} (hs : s < 3) (l : List Nat) (hl : l.length ≤ 3) :
    OnAg { a with fl := Mod.upd a.fl s { a.fl s with held := l } } op g free (fun t => if t = s * 3 + 2 then l.foldl (fun l n => putL l n recU) [] else sh t) pl := by
  have hfl : ∀ j, Mod.upd a.fl s { a.fl s with held := l } j = if j = s then { a.fl s with held := l } else a.fl j := fun j => rfl
  refine ⟨O.ep, fun j hj => ?_, fun j hj => ?_, fun j hj => ?_, fun j hj n => ?_, fun j hj => ?_, fun j hj n => ?_, fun j hj => ?_, fun j hj => ?_, O.nd, O.lt, ?_⟩
  · show g j = (Mod.upd a.fl s { a.fl s with held := l } j).base
    rw [hfl]
    by_cases e : j = s
    · subst e; rw [if_pos rfl]; exact O.bs j hj
    · rw [if_neg e]; exact O.bs j hj
  · show (pl j).length = (Mod.upd a.fl s { a.fl s with held := l } j).kept.length
    rw [hfl]
    by_cases e : j = s
    · subst e; rw [if_pos rfl]; exact O.pn j hj
    · rw [if_neg e]; exact O.pn j hj
  · show (if j * 3 = s * 3 + 2 then _ else sh (j * 3)) = keptL (Mod.upd a.fl s { a.fl s with held := l } j).base (Mod.upd a.fl s { a.fl s with held := l } j).kept (pl j)
    rw [if_neg (by omega), hfl]
    by_cases e : j = s
    · subst e; rw [if_pos rfl]; exact O.kp j hj
    · rw [if_neg e]; exact O.kp j hj
  · show look (if j * 3 + 1 = s * 3 + 2 then _ else sh (j * 3 + 1)) _ = sentF (Mod.upd a.fl s { a.fl s with held := l } j) n
    rw [if_neg (by omega), hfl]
    by_cases e : j = s
    · subst e; rw [if_pos rfl]; exact O.sn j hj n
    · rw [if_neg e]; exact O.sn j hj n
  · show AreI (if j * 3 + 1 = s * 3 + 2 then _ else sh (j * 3 + 1))
    rw [if_neg (by omega)]; exact O.si j hj
  · show (look (if j * 3 + 2 = s * 3 + 2 then _ else sh (j * 3 + 2)) _).isSome = (Mod.upd a.fl s { a.fl s with held := l } j).held.contains n
    rw [hfl]
    by_cases e : j = s
    · subst e; rw [if_pos rfl, if_pos rfl]; exact heldF_look l n
    · rw [if_neg (by omega), if_neg e]; exact O.hd j hj n
  · show AreU (if j * 3 + 2 = s * 3 + 2 then _ else sh (j * 3 + 2))
    by_cases e : j = s
    · subst e; rw [if_pos rfl]; exact heldF_areU l
    · rw [if_neg (by omega)]; exact O.hu j hj
  · show (if j * 3 + 2 = s * 3 + 2 then _ else sh (j * 3 + 2)).length ≤ 3
    by_cases e : j = s
    · subst e; rw [if_pos rfl]; exact Nat.le_trans (heldF_len l) hl
    · rw [if_neg (by omega)]; exact O.hl j hj
  · have h := O.sum
    obtain ⟨f2, hf2⟩ : ∃ f2, f2 = ({ a.fl s with held := l } : Mod.Flow) := ⟨_, rfl⟩
    have hk : f2.kept.length = (a.fl s).kept.length := by rw [hf2]
    have h2 := room_upd (a := a) hs f2
    rw [← hf2]
    omega
end
theorem body0 {b : ByteArray} (h : 0 < b.size) : b[0].toNat = (b.data.toList.getD 0 0).toNat := by
  have h' : 0 < b.data.size := h
  simp [List.getD_eq_getElem?_getD, Array.getElem?_eq_getElem h', ByteArray.getElem_eq_getElem_data]
end Go.Proofs.YtamafdcnbcoegaaGreat
namespace Go.Proofs.YtamafdcnbcoegaaGreat
open Go.RowKit
section
variable {w : World} {p : Nat} {g : Nat → Nat} {free : List Nat} {sh : Nat → List (Nat × Value)} {st : Mod.Stv} {c : Av} {a : Mod.Ag} {pl : Nat → List Nat}
set_option maxRecDepth 100000 in
set_option maxHeartbeats 4000000 in
theorem obeyAck_skip (H : PaAt w p g a.ticks a.welcome a.fenced free sh st c) (O : OnAg a st.opening g free sh pl) (e : Nat) (s q : Int) (b : ByteArray) (he : e ≠ a.epoch ∨ a.welcome = false) :
    Calls Tryz.prog 105 #[ptrTo p, .agg #[.int .i64 4, .int .i64 e, .int .i64 s, .int .i64 q, .string b]] w fun r z => r = .returned (.int .i64 0) ∧ Below w.heap.size w z := by
  have HEP := fun z (hz : Below w.heap.size w z) => hide (agEpoch_any (H.below hz))
  have hpl := lt_of_block H.ks.blk
  have c24 : w.cell? ⟨p, 24, none⟩ = some (.bool a.welcome) := by rw [blk_cell H.ks.blk, H.ks.aw]
  obtain ⟨ep, hep⟩ : ∃ ep, ep = a.epoch := ⟨_, rfl⟩
  have hop : st.opening = ep := by rw [hep]; exact O.ep
  rw [hop] at HEP
  rw [← hep] at he
  have DD := hide (boxAt_new w #[.int .i64 4, .int .i64 e, .int .i64 s, .int .i64 q, .string b])
  generalize a.welcome = wel at *
  clear H O hop hep
  unfold ptrTo at *
  go_enter Tryz.func105, Tryz.ntmps105
  go_upto_region 1 with fail
  refine wp_world (BoxAt w #[.int .i64 4, .int .i64 e, .int .i64 s, .int .i64 q, .string b]) (unhide DD) ?_
  clear DD
  intro x X
  have y1 := blk_cell (i := 1) X.box
  simp at y1
  have d24 := (X.bel.cell (p := ⟨p, 24, none⟩) hpl).trans c24
  have HE1 := fun n => hide (unhide (HEP (x.drewN n) (X.drewN n).bel))
  have HX := hide X
  clear X c24
  by_cases hne : e = ep
  · have hwf : wel = false := he.resolve_left (fun h => h hne)
    subst hwf
    have hn : ((e : Int) != (ep : Int)) = false := by simp [hne]
    go_quiet (first | (go_at_call 66; exact Calls.quiet_of_same (unhide (HE1 _))))
    go_wp2
    go_ret
    exact ⟨rfl, ((unhide HX).drewN _).bel⟩
  · have hn : ((e : Int) != (ep : Int)) = true := by simp; omega
    go_quiet (first | (go_at_call 66; exact Calls.quiet_of_same (unhide (HE1 _))))
    go_wp2
    go_ret
    exact ⟨rfl, ((unhide HX).drewN _).bel⟩

set_option maxRecDepth 100000 in
set_option maxHeartbeats 8000000 in
theorem obeyAck_do (H : PaAt w p g a.ticks a.welcome a.fenced free sh st c) (hs : Sound st) (O : OnAg a st.opening g free sh pl) (e : Nat) (s q : Nat) (b : ByteArray) (he : e = a.epoch) (hw : a.welcome = true) (hs3 : s < 3) (hb1 : 0 < b.size) (hbnd : ∀ i, i < 3 → (a.fl i).base + (a.fl i).kept.length ≤ 1000000000) :
    Calls Tryz.prog 105 #[ptrTo p, .agg #[.int .i64 4, .int .i64 e, .int .i64 s, .int .i64 q, .string b]] w fun r z => r = .returned (.int .i64 0) ∧ AgIs w z p (a.deliver 4 e s q b) c := by
  have hpl := lt_of_block H.ks.blk
  have HEP := fun z (hz : Below w.heap.size w z) => hide (agEpoch_any (H.below hz))
  have c24 : w.cell? ⟨p, 24, none⟩ = some (.bool true) := by rw [blk_cell H.ks.blk, H.ks.aw, hw]
  obtain ⟨sq, hsq⟩ : ∃ sq, sq = a.ackSeq s q := ⟨_, rfl⟩
  have hsq2 : sq = min q ((a.fl s).base + (a.fl s).kept.length) := by rw [hsq]; rfl
  obtain ⟨n, hn⟩ : ∃ n, n = a.says 4 e s q b := ⟨_, rfl⟩
  have hd : a.deliver 4 e s q b = if sq < (a.fl s).base then a else { a.drop n with fl := Mod.upd (a.drop n).fl s { (a.drop n).fl s with held := Mod.bitsOf sq b[0].toNat 3 } } := by
    unfold Mod.Ag.deliver
    rw [if_neg (by omega), if_neg (by omega), if_neg (by omega), if_neg (by omega), if_pos rfl, hn, body0 hb1]
    have hst : ((s : Nat) : Int).toNat = s := rfl
    rw [hst, ← hsq, hw]
    by_cases h : sq < (a.fl s).base
    · rw [if_pos (.inr h), if_pos h]
    · rw [if_neg (by simp; omega), if_neg h]
  have hnl : ∀ i, i < 3 → n i ≤ (a.fl i).kept.length := fun i _ => by rw [hn]; exact says_le _ _ _ _ _ _ _
  have hni : ∀ i, n i = if i = s then min (q - (a.fl s).base) (a.fl s).kept.length else 0 := fun i => by
    rw [hn]
    unfold Mod.Ag.says
    rw [if_neg (by omega), if_neg (by omega)]
    by_cases h : i = s
    · subst h
      rw [if_pos ⟨rfl, rfl, hw⟩, if_pos rfl]
      unfold Mod.Ag.gone
      congr 1
      omega
    · rw [if_neg (fun h' => h (by have := h'.2.1; omega)), if_neg h]
  obtain ⟨X, hX⟩ : ∃ X : Nat → Nat, X = fun i => if i = s then sq else (a.fl i).base := ⟨_, rfl⟩
  have hLG : ¬ sq < (a.fl s).base → ∀ z, Below w.heap.size w z → Hid (Calls Tryz.prog 152 #[ptrTo p, .agg #[.int .i64 (X 0), .int .i64 (X 1), .int .i64 (X 2)]] z fun r z' => r = .returned (.int .i64 0) ∧ AgIs z z' p (a.drop n) c) := fun hlt z hz => by
    have hXi : ∀ i, i < 3 → X i = (a.fl i).base + n i := fun i hi => by
      rw [hX, hni i]
      show (if i = s then sq else (a.fl i).base) = _
      by_cases h : i = s
      · subst h; rw [if_pos rfl, if_pos rfl]; omega
      · rw [if_neg h, if_neg h]; rfl
    refine hide (letGo_any (H.below hz) hs O n X hnl hXi (fun i hi => ?_))
    have := hbnd i hi
    have := hnl i hi
    rw [hXi i hi]
    omega
  have hLs := fun z (hz : Below w.heap.size w z) => agLast_any (H.below hz) O hs3 (O.bs s hs3)
  have q0 : w.cell? ⟨p, 1, none⟩ = some (.int .i64 (a.fl 0).base) := by rw [blk_cell H.ks.blk, ← O.bs 0 (by omega)]; exact H.ks.ag 0 (by omega)
  have q1 : w.cell? ⟨p, 2, none⟩ = some (.int .i64 (a.fl 1).base) := by rw [blk_cell H.ks.blk, ← O.bs 1 (by omega)]; exact H.ks.ag 1 (by omega)
  have q2 : w.cell? ⟨p, 3, none⟩ = some (.int .i64 (a.fl 2).base) := by rw [blk_cell H.ks.blk, ← O.bs 2 (by omega)]; exact H.ks.ag 2 (by omega)
  have qs : w.cell? ⟨p, 1 + s, none⟩ = some (.int .i64 (a.fl s).base) := by rw [blk_cell H.ks.blk, ← O.bs s hs3]; exact H.ks.ag s hs3
  obtain ⟨bl, hbl⟩ : ∃ v, v = (a.fl s).base + (a.fl s).kept.length := ⟨_, rfl⟩
  rw [← hbl] at hLs hsq2
  have HLs := fun z hz => hide (hLs z hz)
  have hmn : min (q : Int) (bl : Int) = (sq : Int) := by omega
  have hsqm : sq ≤ 1000000000 := by have := hbnd s hs3; omega
  have hHD := fun z => hide (frameHeld_any sq hsqm b hb1 z)
  obtain ⟨bits, hbits⟩ : ∃ l, l = Mod.bitsOf sq b[0].toNat 3 := ⟨_, rfl⟩
  have hbl3 : bits.length ≤ 3 := by rw [hbits]; exact bitsOf_len _ _ _
  rw [← hbits] at hd hHD
  obtain ⟨ep, hep⟩ : ∃ ep, ep = a.epoch := ⟨_, rfl⟩
  have hop : st.opening = ep := by rw [hep]; exact O.ep
  rw [hop] at HEP
  have hne : ((e : Int) != (ep : Int)) = false := by simp; omega
  obtain ⟨a2, ha2⟩ : ∃ a2, a2 = a.deliver 4 e s q b := ⟨_, rfl⟩
  rw [← ha2] at hd ⊢
  obtain ⟨a1, ha1⟩ : ∃ a1, a1 = a.drop n := ⟨_, rfl⟩
  rw [← ha1] at hd hLG
  have HD := hide hd
  have DD := hide (boxAt_new w #[.int .i64 4, .int .i64 e, .int .i64 s, .int .i64 q, .string b])
  obtain ⟨bs, hbs⟩ : ∃ v, v = (a.fl s).base := ⟨_, rfl⟩
  rw [← hbs] at qs hLG
  have hXX : #[Value.int .i64 (X 0), .int .i64 (X 1), .int .i64 (X 2)] = (#[Value.int .i64 (a.fl 0).base, .int .i64 (a.fl 1).base, .int .i64 (a.fl 2).base] : Array Value).setIfInBounds s (.int .i64 sq) := by
    rw [hX]
    obtain rfl | rfl | rfl : s = 0 ∨ s = 1 ∨ s = 2 := by omega
    all_goals simp
  have HXX := hide hXX
  have HBS := hide hbs
  have HREF := hide (agIs_refl H hs O)
  have hi0 : (0 : Int) ≤ (s : Int) := by omega
  have hi3 : (s : Int) < 3 := by omega
  generalize (a.fl 0).base = g0 at *
  generalize (a.fl 1).base = g1 at *
  generalize (a.fl 2).base = g2 at *
  obtain ⟨x0, hx0⟩ : ∃ x, x = X 0 := ⟨_, rfl⟩
  obtain ⟨x1, hx1⟩ : ∃ x, x = X 1 := ⟨_, rfl⟩
  obtain ⟨x2, hx2⟩ : ∃ x, x = X 2 := ⟨_, rfl⟩
  rw [← hx0, ← hx1, ← hx2] at hLG HXX
  have HLG := hide hLG
  have HNB := hide (fun h => absurd (H.lt _ h) (by omega) : ¬ PaU p c w.heap.size)
  clear H O hs hn hd hnl hni hX hLs hop hep ha2 ha1 he hw hbnd hsq hsq2 hbl hbits hbs hXX hx0 hx1 hx2 hLG hb1 hsqm
  unfold ptrTo at *
  go_enter Tryz.func105, Tryz.ntmps105
  go_upto_region 1 with fail
  refine wp_world (BoxAt w #[.int .i64 4, .int .i64 e, .int .i64 s, .int .i64 q, .string b]) (unhide DD) ?_
  clear DD
  intro x X9
  have y1 := blk_cell (i := 1) X9.box
  simp at y1
  have d24 := (X9.bel.cell (p := ⟨p, 24, none⟩) hpl).trans c24
  have HE1 := fun n => hide (unhide (HEP (x.drewN n) (X9.drewN n).bel))
  have HX := hide X9
  clear X9 c24
  go_quiet (first | (go_at_call 66; exact Calls.quiet_of_same (unhide (HE1 _))))
  go_upto_region 3 with fail
  refine wp_world (BoxAt w #[.int .i64 4, .int .i64 e, .int .i64 s, .int .i64 q, .string b]) ((unhide HX).drewN _) ?_
  clear HX y1 HE1 d24
  intro x X9
  have y2 := blk_cell (i := 2) X9.box
  have y3 := blk_cell (i := 3) X9.box
  simp at y2 y3
  have hxl := X9.lt
  have HX := hide X9
  clear X9
  refine wp_region_frame (by kernel_rfl)
    [fun v _ => v = .pointer (some ⟨w.heap.size, 3, none⟩), fun v _ => v = .int .i64 q, fun v _ => v = .pointer (some ⟨p, 0, none⟩), fun v _ => v = .pointer (some ⟨w.heap.size, 2, none⟩), fun v _ => v = .int .i64 s, fun v _ => v = .int .i64 bl, fun v _ => v = .int .i64 sq, fun v _ => v = .int .i64 sq]
    [[(3, none)], [(23, some 0)], [(0, none)], [(3, none)], [(26, some 3)], [(25, some 2), (27, some 4)], [(24, some 1), (28, some 5)], [(29, some 6)]] [some 23, some 24, some 25, some 26, some 27, some 28, some 29, some 5] [false, false, false, false, false, true, false, false, false, false, false, false, false, false, false, false, false, false, false, false, false, false, false, true, true, true, true, true, true, true, false, false, false, false, false, false, false, false, false, false, false, false, false, false, false, false, false, false, false, false, false, false, false, false, false, false, false, false, false, false, false, false, false, false, false, false, false, false, false, false, false, false, false, false, false, false]
    (by kernel_rfl) (by kernel_rfl) (by kernel_rfl) (by kernel_rfl) ?_ ?_ ?_
  · repeat' (first | exact stable_eq _ | exact trivial | apply And.intro)
  · refine ⟨?_, ?_, ?_, ?_, ?_, ?_, ?_, ?_, trivial⟩
    all_goals
      intro a' z hbz hf
      have e2 := (hbz.cell (p := ⟨w.heap.size, 2, none⟩) hxl).trans y2
      have e3 := (hbz.cell (p := ⟨w.heap.size, 3, none⟩) hxl).trans y3
      have HL := hide (unhide (HLs z ((unhide HX).bel.trans (hbz.mono (unhide HX).bel.size))))
      clear hbz
      simp only [PlanFacts, List.getD_cons_zero, List.getD_cons_succ, Array.getD_eq_getD_getElem?] at hf
      try simp at hf
      go_simp
      try exact Below.refl _ _
    all_goals first
      | exact ⟨rfl, Below.refl _ _⟩
      | exact ⟨_, rfl, Below.refl _ _, rfl⟩
      | (refine (unhide HL).mono ?_; rintro r z2 ⟨rfl, k, rfl⟩; exact ⟨rfl, below_drewN (Below.refl _ _) k⟩)
      | (refine (unhide HL).mono ?_; rintro r z2 ⟨rfl, k, rfl⟩; exact ⟨_, rfl, below_drewN (Below.refl _ _) k, rfl⟩)
      | skip
  · intro f z hbz hwd
    simp only [AllWords] at hwd
    have h7 := hwd.2.2.2.2.2.2.2.1
    clear hwd
    have HZ := hide ((unhide HX).below hbz)
    clear hbz
    simp only [mergeT, h7]
    generalize f 23 = x23
    generalize f 24 = x24
    generalize f 25 = x25
    generalize f 26 = x26
    generalize f 27 = x27
    generalize f 28 = x28
    generalize f 29 = x29
    go_upto_region 4 with fail
    refine wp_world (BoxAt w #[.int .i64 4, .int .i64 e, .int .i64 s, .int .i64 q, .string b]) (unhide HZ) ?_
    clear HZ HX y2 y3 hxl
    intro x X9
    have y2 := blk_cell (i := 2) X9.box
    simp at y2
    have ds := (X9.bel.cell (p := ⟨p, 1 + s, none⟩) hpl).trans qs
    have HX := hide X9
    clear X9 qs
    by_cases hlt : sq < bs
    · have hltI : (sq : Int) < (bs : Int) := by omega
      go_quiet (fail)
      go_wp2
      go_ret
      refine ⟨rfl, ?_⟩
      rw [unhide HD, ← unhide HBS, if_pos hlt]
      exact (unhide HREF).below (((unhide HX).drewN _).bel)
    · have hltI : ¬ (sq : Int) < (bs : Int) := by omega
      go_quiet (fail)
      go_upto_region 6 with fail
      refine wp_world (BoxAt w #[.int .i64 4, .int .i64 e, .int .i64 s, .int .i64 q, .string b]) ((unhide HX).drewN _) ?_
      clear HX y2 ds
      intro x X9
      have y2 := blk_cell (i := 2) X9.box
      simp at y2
      have d0 := (X9.bel.cell (p := ⟨p, 1, none⟩) hpl).trans q0
      have d1 := (X9.bel.cell (p := ⟨p, 2, none⟩) hpl).trans q1
      have d2 := (X9.bel.cell (p := ⟨p, 3, none⟩) hpl).trans q2
      have hxl := X9.lt
      have HX := hide X9
      obtain ⟨g6, hg6⟩ : ∃ g6, g6 = x.heap.size := ⟨_, rfl⟩
      have HG6 := hide hg6
      have hg6w : w.heap.size < g6 := by omega
      clear X9 q0 q1 q2
      go_upto_region 7 with fail
      rw [← hg6]
      clear hg6
      refine wp_world (fun y => y.heap[g6]? = some (.cells #[.int .i64 g0, .int .i64 g1, .int .i64 g2] 136 (0, 0)) ∧ BoxAt w #[.int .i64 4, .int .i64 e, .int .i64 s, .int .i64 q, .string b] y) ?_ ?_
      · rw [unhide HG6]
        exact ⟨heap_alloc_new _ _, (unhide HX).below ((Below.refl _ _).alloc (Nat.le_refl _) _)⟩
      clear HX HG6 y2 d0 d1 d2 hxl
      rintro y ⟨h6, X9⟩
      have y2 := blk_cell (i := 2) X9.box
      simp at y2
      have f6 := blk_free (i := s) h6
      obtain ⟨old, hold⟩ : ∃ v : Nat, y.cell? ⟨g6, s, none⟩ = some (.int .i64 v) := by
        rw [blk_cell h6]
        obtain rfl | rfl | rfl : s = 0 ∨ s = 1 ∨ s = 2 := by omega
        · exact ⟨g0, rfl⟩
        · exact ⟨g1, rfl⟩
        · exact ⟨g2, rfl⟩
      have HY := hide (And.intro h6 X9)
      clear h6 X9
      go_upto_region 8 with fail
      refine wp_world (fun y => y.heap[g6]? = some (.cells #[.int .i64 x0, .int .i64 x1, .int .i64 x2] 136 (0, 0)) ∧ BoxAt w #[.int .i64 4, .int .i64 e, .int .i64 s, .int .i64 q, .string b] y) ?_ ?_
      · obtain ⟨h6, X9⟩ := unhide HY
        have hset := far_set y g6 s (.int .i64 sq)
        refine ⟨?_, ⟨hset.blk X9.box (by omega), X9.bel.setCell (p := ⟨g6, s, none⟩) (Nat.le_of_lt hg6w) _⟩⟩
        rw [unhide HXX]
        exact blk_set h6
      clear HY y2 f6 hold
      rintro y ⟨h6, X9⟩
      have e0 := blk_cell (i := 0) h6
      have e1 := blk_cell (i := 1) h6
      have e2 := blk_cell (i := 2) h6
      have y2 := blk_cell (i := 2) X9.box
      simp at e0 e1 e2 y2
      have HLX := hide (unhide ((unhide HLG) hlt y X9.bel))
      have HX := hide X9
      clear h6 X9
      go_upto_region 11 with (go_at_call 152; refine (unhide HLX).mono ?_; rintro r z ⟨rfl, hag⟩)
      obtain ⟨gg, fr1, sh1, pl1, st1, ⟨c1, K1, F1, N1, t1, t2⟩, hs1, hO1⟩ := hag
      have hbz := F1.blk (unhide HX).box (unhide HNB)
      have hPz := PaStep.behind (w := w) (⟨c1, K1, F1, N1, t1, t2⟩ : PaStep y z p gg a1.ticks a1.welcome a1.fenced fr1 sh1 st1 c) (unhide HX).bel
      have y2 := blk_cell (i := 2) hbz
      simp at y2
      have HZ := hide (And.intro hbz hPz)
      have HE := hide (And.intro hs1 hO1)
      clear K1 F1 N1 t1 t2 hs1 hO1 hbz hPz HX HLX e0 e1 e2
      go_quiet (fail)
      go_upto_region 12 with fail
      refine wp_world (fun y => y.heap[w.heap.size]? = some (.cells #[.int .i64 4, .int .i64 e, .int .i64 s, .int .i64 q, .string b] 41 (0, 0)) ∧ PaStep w y p gg a1.ticks a1.welcome a1.fenced fr1 sh1 st1 c) ?_ ?_
      · exact ⟨(unhide HZ).1, (unhide HZ).2.below (below_drewN (Below.refl _ _) _)⟩
      clear HZ y2
      rintro x ⟨hbx, c1, K1, F1, N1, t1, t2⟩
      have HC := hide (clearU_any (K1.shAt (i := s * 3 + 2) (by omega)))
      rw [show 4 + (s * 3 + 2) * 2 = 4 + s * 6 + 4 by omega] at HC
      have HK := hide (And.intro hbx (And.intro K1 (And.intro F1 (And.intro N1 (And.intro t1 t2)))))
      clear hbx K1 F1 N1 t1 t2
      go_upto_region 13 with (go_at_call 154; refine (unhide HC).mono ?_; rintro r z2 ⟨rfl, hst⟩)
      rw [show 4 + s * 6 + 4 = 4 + (s * 3 + 2) * 2 by omega] at hst
      obtain ⟨hbx, K1, F1, N1, t1, t2⟩ := unhide HK
      have hbn := pa_not_cells K1 hbx (by decide) (by decide) (by decide) (by decide) (by decide) (by decide) (by decide)
      have hb2 := hst.2.blk hbx (fun h => hbn (.inl (h.elim .inl (fun h => .inr (.inr ⟨s * 3 + 2, by omega, h⟩)))))
      have hP2 := paAfter F1 N1 t1 t2 (paStep_sh K1 (by omega) hst)
      have y4 := blk_cell (i := 4) hb2
      simp at y4
      clear hbx K1 F1 N1 t1 t2 hbn hst HK HC hb2
      obtain ⟨c2, K2, F2, N2, s1, s2⟩ := hP2
      have HK2 := hide (And.intro K2 (And.intro F2 (And.intro N2 (And.intro s1 s2))))
      clear K2 F2 N2 s1 s2
      have HH2 := hide (unhide (hHD z2))
      clear hHD
      obtain ⟨m, hm⟩ : ∃ m, m = bits.length := ⟨_, rfl⟩
      rw [← hm] at HH2 hbl3
      have HM := hide hm
      clear hm
      go_wp2_with (go_at_call 155; refine (unhide HH2).mono ?_; rintro r z3 ⟨v, rfl, hv, hbl⟩; obtain ⟨ad, cap, rfl, _⟩ := (own_rowO hv).shape; replace hv := hide hv; replace hbl := hide hbl)
      go_loopw [10, 67] (fun _ i wr => ∃ t : Nat, t ≤ m ∧ i = .int .i64 t ∧ RowO wr 3 1 (.slice ad m cap) m (numCells bits) ∧ ∃ c', PaAt wr p gg a1.ticks a1.welcome a1.fenced fr1 (fun j => if j = s * 3 + 2 then (bits.take t).foldl (fun l n => putL l n recU) [] else sh1 j) st1 c' ∧ Far (PaU p c) w wr ∧ (∀ k, PaU p c' k → PaU p c k ∨ w.heap.size ≤ k) ∧ c'.s = c.s ∧ c'.rv = c.rv ∧ (∀ g, (Value.slice ad m cap).ownBlock = some g → ¬ PaU p c' g)) (fun _ i _ => m - (intOf i).toNat)
      case atStart =>
        obtain ⟨K2, F2, N2, s1, s2⟩ := unhide HK2
        refine ⟨0, by omega, rfl, own_rowO (unhide hv), c2, K2.below (unhide hbl), F2.trans (far_below (E := PaU p c) (unhide hbl)) (fun _ _ h => h), N2, s1, s2, fun g hg hu => ?_⟩
        have h1 := (World.ownsRow.lt (unhide hv) g hg).1
        have h2 := K2.lt g hu
        omega
      case round =>
        obtain ⟨t, ht, rfl, hrow, c3, K3, F3, N3, u1, u2, hap⟩ := hrel
        by_cases htl : t < m
        · obtain ⟨ad', cap', esl, _, _, hcl⟩ := hrow.shape
          injection esl with esl _ esl2
          subst esl esl2
          obtain ⟨gt, ot, rfl, hcl2⟩ := hcl (by omega)
          obtain ⟨nb, hnb⟩ : ∃ nb, bits[t]? = some nb := ⟨bits[t]'(by have := unhide HM; omega), List.getElem?_eq_getElem _⟩
          have r0 := (hcl2 t (by omega))
          rw [show (numCells bits)[t]? = some (.int .i64 nb) by simp [numCells, hnb]] at r0
          have htake : bits.take (t + 1) = bits.take t ++ [nb] := by rw [List.take_add_one, hnb]; rfl
          have hlen : ((bits.take t).foldl (fun l n => putL l n recU) []).length < 1000 := by
            have := heldF_len (bits.take t)
            have := List.length_take_le t bits
            omega
          have HP := hide (putU_any (K3.shAt (i := s * 3 + 2) (by omega)) (by rw [if_pos rfl]; exact hlen) nb)
          rw [if_pos rfl, ← heldF_snoc, ← htake] at HP
          rw [show 4 + (s * 3 + 2) * 2 = 4 + s * 6 + 4 by omega] at HP
          have ht0 : (0 : Int) ≤ (t : Int) := by omega
          have htn : (t : Int) < (m : Int) := by omega
          have HR := hide (And.intro hrow (And.intro K3 (And.intro F3 (And.intro N3 (And.intro u1 (And.intro u2 hap))))))
          clear hrow K3 F3 N3 u1 u2 hap hcl hcl2 htake hlen hnb
          go_wp2_with (go_at_call 156; refine (unhide HP).mono ?_; rintro r z4 ⟨rfl, hst⟩)
          rw [show 4 + s * 6 + 4 = 4 + (s * 3 + 2) * 2 by omega] at hst
          obtain ⟨hrow, K3, F3, N3, u1, u2, hap⟩ := unhide HR
          obtain ⟨c4, K4, F4, N4, v1, v2⟩ := paStep_sh K3 (by omega) hst
          have hFU : ∀ k, (k = p ∨ ShU (c3.nv (s * 3 + 2)) (c3.mv (s * 3 + 2)) k) → PaU p c3 k := fun k hk => hk.elim (fun h => .inl (.inl h)) (fun h => .inl (.inr (.inr ⟨s * 3 + 2, by omega, h⟩)))
          refine ⟨⟨t + 1, by omega, rfl, hrow.far hst.2 (fun g hg h => hap g hg (hFU g h)), c4, ?_, F3.trans F4 (fun k hk hu => (N3 k hu).elim id (fun h => by omega)), fun k hk => ?_, v1.trans u1, v2.trans u2, fun g hg hu => ?_⟩, ?_⟩
          · rw [show (fun j => if j = s * 3 + 2 then (bits.take (t + 1)).foldl (fun l n => putL l n recU) [] else sh1 j) = (fun j => if j = s * 3 + 2 then (bits.take (t + 1)).foldl (fun l n => putL l n recU) [] else if j = s * 3 + 2 then (bits.take t).foldl (fun l n => putL l n recU) [] else sh1 j) by
              funext j
              by_cases h : j = s * 3 + 2
              · rw [if_pos h, if_pos h]
              · rw [if_neg h, if_neg h, if_neg h]]
            exact K4
          · rcases N4 k hk with h | h
            · exact N3 k h
            · exact .inr (Nat.le_trans F3.size h)
          · rcases N4 g hu with h | h
            · exact hap g hg h
            · have := hrow.lt g hg
              omega
          · simp [intOf]; omega
        · have e : t = m := by omega
          have hnt : ¬ (t : Int) < (m : Int) := by omega
          have HR := hide (And.intro K3 (And.intro F3 (And.intro N3 (And.intro u1 u2))))
          have HT := hide (And.intro e htl)
          clear hrow K3 F3 N3 u1 u2 hap e htl
          go_wp2
          go_ret
          refine ⟨rfl, ?_⟩
          rw [unhide HD, ← unhide HBS, if_neg hlt]
          obtain ⟨K3, F3, N3, u1, u2⟩ := unhide HR
          rw [show bits.take t = bits by rw [(unhide HT).1, unhide HM]; exact List.take_length] at K3
          exact ⟨gg, fr1, _, pl1, st1, ⟨c3, K3, F3, N3, u1, u2⟩, (unhide HE).1, onAg_held (unhide HE).2 hs3 bits (by rw [← unhide HM]; exact hbl3)⟩
end
end Go.Proofs.YtamafdcnbcoegaaGreat
namespace Go.Proofs.YtamafdcnbcoegaaGreat
open Go.RowKit

/-- One frame comes out. -/
theorem framesOut_one {B g : Nat} {z : World} {v : Value} {l : List UInt8} (hv : Owns B z v l) (hB : B ≤ g) (hg : z.heap[g]? = some (.cells #[v] 44 (0, 0))) : FramesOut B z (.slice (some ⟨g, 0, none⟩) 1 1) [v] [⟨l.toArray⟩] (fun _ => False) := by
  refine ⟨rfl, ⟨by simp, .inr ⟨g, 1, _, rfl, hB, hg, by simp, by unfold maxLen; omega, by simp, by simp⟩⟩, ?_, ?_, fun _ _ h => h⟩
  · intro j u hj
    cases j with
    | zero => simp at hj; subst hj; exact hv
    | succ j => simp at hj
  · intro i j u u' hi hj hne
    cases i with
    | zero =>
      cases j with
      | zero => exact absurd rfl hne
      | succ j => simp at hj
    | succ i => simp at hi
end Go.Proofs.YtamafdcnbcoegaaGreat
namespace Go.Proofs.YtamafdcnbcoegaaGreat
open Go.RowKit

theorem reads_parts {l : List UInt8} (hr : Wire.reads l = true) : ∃ (k : Int) (e s q : Nat) (b : ByteArray), Wire.kindOf l = k ∧ Wire.epochOf l = e ∧ Wire.streamOf l = s ∧ Wire.seqOf l = q ∧ Wire.bodyOf l = b ∧ e ≤ 2147483647 ∧ s < 3 ∧ q ≤ 2147483647 ∧ b.size ≤ 20 := by
  have hp := hr
  unfold Wire.reads at hp
  rw [Bool.and_eq_true] at hp
  obtain ⟨_, h2, h3, h4, h5⟩ := proper_small hp.2
  exact ⟨_, (Wire.epochOf l).toNat, (Wire.streamOf l).toNat, (Wire.seqOf l).toNat, _, rfl, by omega, by omega, by omega, rfl, by omega, by omega, by omega, h5⟩
end Go.Proofs.YtamafdcnbcoegaaGreat
namespace Go.Proofs.YtamafdcnbcoegaaGreat
open Go.RowKit
section
variable {w : World} {p : Nat} {g0 : Nat → Nat} {free : List Nat} {sh : Nat → List (Nat × Value)} {st : Mod.Stv} {c : Av} {a a2 : Mod.Ag} {pl : Nat → List Nat}
set_option maxRecDepth 100000 in
set_option maxHeartbeats 4000000 in
theorem agDeliver_no (H : PaAt w p g0 a.ticks a.welcome a.fenced free sh st c) (hs : Sound st) (O : OnAg a st.opening g0 free sh pl) (bs : Value) (l : List UInt8) (hat : BytesAt w bs l) (hr : Wire.reads l = false) :
    Calls Tryz.prog 57 #[ptrTo p, bs] w fun r z => r = .returned (.int .i64 1) ∧ AgIs w z p a c := by
  have c0 : w.cell? ⟨p, 0, none⟩ = some (ptrTo c.s) := by rw [blk_cell H.ks.blk, H.ks.a0]
  have hID := storeIsDead_any H.stt
  rw [hs.1] at hID
  have HID := hide hID
  have hDC := decode_any bs l w hat
  rw [hr] at hDC
  simp only [Bool.false_eq_true, if_false, zeroFr] at hDC
  have HDC := hide hDC
  have HK := hide (agIs_refl H hs O)
  clear H hID hDC
  unfold ptrTo at *
  go_enter Tryz.func57, Tryz.ntmps57
  go_wp2_with (first | (go_at_call 86; refine (unhide HID).mono ?_; rintro r y ⟨rfl, rfl⟩) | (go_at_call 54; refine (unhide HDC).mono ?_; rintro r y ⟨rfl, hb⟩; replace hb := hide hb))
  go_ret
  exact ⟨rfl, (unhide HK).below ((unhide hb).alloc (unhide hb).size _)⟩

set_option maxRecDepth 100000 in
set_option maxHeartbeats 4000000 in
theorem agDeliver_0 (H : PaAt w p g0 a.ticks a.welcome a.fenced free sh st c) (hs : Sound st) (O : OnAg a st.opening g0 free sh pl) (bs : Value) (k e s q : Int) (b : ByteArray) (hk : k = 2)
    (hDec : ∀ y, Below w.heap.size w y → Calls Tryz.prog 54 #[bs] y fun r z => r = .returned (.tuple #[.agg #[.int .i64 k, .int .i64 e, .int .i64 s, .int .i64 q, .string b], .int .i64 0]) ∧ Below y.heap.size y z)
    (hC : ∀ y, Below w.heap.size w y → Calls Tryz.prog 104 #[ptrTo p, .agg #[.int .i64 2, .int .i64 e, .int .i64 s, .int .i64 q, .string b]] y fun r z => r = .returned (.int .i64 0) ∧ AgIs y z p a2 c) :
    Calls Tryz.prog 57 #[ptrTo p, bs] w fun r z => r = .returned (.int .i64 0) ∧ AgIs w z p a2 c := by
  have c0 : w.cell? ⟨p, 0, none⟩ = some (ptrTo c.s) := by rw [blk_cell H.ks.blk, H.ks.a0]
  have hID := storeIsDead_any H.stt
  rw [hs.1] at hID
  have HID := hide hID
  have HDC := hide (hDec w (Below.refl _ _))
  subst hk
  have hCC := fun y hy => hide (hC y hy)
  clear hC
  obtain ⟨ad, cap, hrv, hcap1, hcap2, hcells⟩ := H.rl.shape
  obtain ⟨g, o, rfl, hcl⟩ := hcells (by omega)
  have r0 : w.cell? ⟨g, o, none⟩ = some (.int .i64 2) := by have := hcl 0 (by omega); simpa [agRules] using this
  have r1 : w.cell? ⟨g, o + 1, none⟩ = some (.func (.func 104) #[ptrTo p] #[]) := by have := hcl 1 (by omega); simpa [agRules] using this
  have r2 : w.cell? ⟨g, o + 2, none⟩ = some (.int .i64 4) := by have := hcl 2 (by omega); simpa [agRules] using this
  have r3 : w.cell? ⟨g, o + 2 + 1, none⟩ = some (.func (.func 105) #[ptrTo p] #[]) := by have := hcl 3 (by omega); simpa [agRules] using this
  have r4 : w.cell? ⟨g, o + 4, none⟩ = some (.int .i64 5) := by have := hcl 4 (by omega); simpa [agRules] using this
  have r5 : w.cell? ⟨g, o + 4 + 1, none⟩ = some (.func (.func 106) #[ptrTo p] #[]) := by have := hcl 5 (by omega); simpa [agRules] using this
  have c26 : w.cell? ⟨p, 26, none⟩ = some (.slice (some ⟨g, o, none⟩) 3 cap) := by rw [blk_cell H.ks.blk, H.ks.ar, hrv]
  have hgl : g < w.heap.size := World.block_lt_of_cell? _ _ r0
  have hpl := lt_of_block H.ks.blk
  have HST := hide (agIs_refl H hs O)
  clear H hID hDec hcl hcells hrv
  unfold ptrTo at *
  go_enter Tryz.func57, Tryz.ntmps57
  go_upto_region 4 with (first | (go_at_call 86; refine (unhide HID).mono ?_; rintro r y ⟨rfl, hyw⟩; obtain rfl : w = y := hyw.symm) | (go_at_call 54; refine (unhide HDC).mono ?_; rintro r y ⟨rfl, hb⟩))
  obtain ⟨g6, hg6⟩ : ∃ g6, g6 = y.heap.size := ⟨_, rfl⟩
  have hgw : w.heap.size ≤ g6 := by have := hb.size; omega
  have HG6 := hide hg6
  have HB := hide hb
  rw [← hg6]
  clear hg6 hb
  refine wp_world (fun u => u.heap[g6]? = some (.cells #[.int .i64 2, .int .i64 e, .int .i64 s, .int .i64 q, .string b] 41 (0, 0)) ∧ Below w.heap.size w u) ?_ ?_
  · rw [unhide HG6]
    exact ⟨heap_alloc_new _ _, (unhide HB).alloc (unhide HB).size _⟩
  clear HG6 HB c0 HDC HID
  rintro u ⟨h6, hbu⟩
  have d26 := (hbu.cell (p := ⟨p, 26, none⟩) hpl).trans c26
  have H6 := hide h6
  have HU := hide hbu
  clear h6 hbu c26
  go_wp2
  go_loopw [8, 27] (fun _ i wr => ∃ j : Nat, j ≤ 0 ∧ i = .int .i64 j ∧ wr.heap[g6]? = some (.cells #[.int .i64 2, .int .i64 e, .int .i64 s, .int .i64 q, .string b] 41 (0, 0)) ∧ Below w.heap.size w wr) (fun _ i _ => 4 - (intOf i).toNat)
  case atStart => exact ⟨0, by omega, rfl, unhide H6, unhide HU⟩
  case round =>
    obtain ⟨j, hj, rfl, h6, hb⟩ := hrel
    clear H6 HU d26
    have s0 := (hb.cell (p := ⟨g, o, none⟩) hgl).trans r0
    have s1 := (hb.cell (p := ⟨g, o + 1, none⟩) hgl).trans r1
    have s2 := (hb.cell (p := ⟨g, o + 2, none⟩) hgl).trans r2
    have s3 := (hb.cell (p := ⟨g, o + 2 + 1, none⟩) hgl).trans r3
    have s4 := (hb.cell (p := ⟨g, o + 4, none⟩) hgl).trans r4
    have s5 := (hb.cell (p := ⟨g, o + 4 + 1, none⟩) hgl).trans r5
    have y0 := blk_cell (i := 0) h6
    have y1 := blk_cell (i := 1) h6
    have y2 := blk_cell (i := 2) h6
    have y3 := blk_cell (i := 3) h6
    have y4 := blk_cell (i := 4) h6
    simp at y0 y1 y2 y3 y4
    have h6l := lt_of_block h6
    have HH6 := hide h6
    have HBB := hide hb
    have hnext : ∀ ob, (wr.alloc ob).heap[g6]? = some (.cells #[.int .i64 2, .int .i64 e, .int .i64 s, .int .i64 q, .string b] 41 (0, 0)) ∧ Below w.heap.size w (wr.alloc ob) := fun ob => ⟨(heap_alloc_old _ _ h6l).trans h6, hb.alloc hb.size _⟩
    have HNX := hide hnext
    clear h6 hb hnext r0 r1 r2 r3 r4 r5
    have hsf0 : ∀ (ad : Addr) (m : Mode) (z : World), (store ad (.func (.func 104) #[.pointer (some ⟨p, 0, none⟩)] #[]) m).run Tryz.prog z = stored Tryz.prog z ad (.func (.func 104) #[.pointer (some ⟨p, 0, none⟩)] #[]) m := fun ad m z => run_store _ _ _ _ _ rfl
    have hsf1 : ∀ (ad : Addr) (m : Mode) (z : World), (store ad (.func (.func 105) #[.pointer (some ⟨p, 0, none⟩)] #[]) m).run Tryz.prog z = stored Tryz.prog z ad (.func (.func 105) #[.pointer (some ⟨p, 0, none⟩)] #[]) m := fun ad m z => run_store _ _ _ _ _ rfl
    have hsf2 : ∀ (ad : Addr) (m : Mode) (z : World), (store ad (.func (.func 106) #[.pointer (some ⟨p, 0, none⟩)] #[]) m).run Tryz.prog z = stored Tryz.prog z ad (.func (.func 106) #[.pointer (some ⟨p, 0, none⟩)] #[]) m := fun ad m z => run_store _ _ _ _ _ rfl
    obtain rfl : j = 0 := by omega
    focus
      go_wp2_with (go_at_call 104; refine (unhide (hCC _ (by first | exact ((unhide HNX) _).2 | exact (unhide HBB)))).mono ?_; rintro r z ⟨rfl, k1⟩; replace k1 := hide k1)
      go_ret
      exact ⟨rfl, (unhide k1).behind (by first | exact ((unhide HNX) _).2 | exact (unhide HBB))⟩

set_option maxRecDepth 100000 in
set_option maxHeartbeats 4000000 in
theorem agDeliver_1 (H : PaAt w p g0 a.ticks a.welcome a.fenced free sh st c) (hs : Sound st) (O : OnAg a st.opening g0 free sh pl) (bs : Value) (k e s q : Int) (b : ByteArray) (hk : k = 4)
    (hDec : ∀ y, Below w.heap.size w y → Calls Tryz.prog 54 #[bs] y fun r z => r = .returned (.tuple #[.agg #[.int .i64 k, .int .i64 e, .int .i64 s, .int .i64 q, .string b], .int .i64 0]) ∧ Below y.heap.size y z)
    (hC : ∀ y, Below w.heap.size w y → Calls Tryz.prog 105 #[ptrTo p, .agg #[.int .i64 4, .int .i64 e, .int .i64 s, .int .i64 q, .string b]] y fun r z => r = .returned (.int .i64 0) ∧ AgIs y z p a2 c) :
    Calls Tryz.prog 57 #[ptrTo p, bs] w fun r z => r = .returned (.int .i64 0) ∧ AgIs w z p a2 c := by
  have c0 : w.cell? ⟨p, 0, none⟩ = some (ptrTo c.s) := by rw [blk_cell H.ks.blk, H.ks.a0]
  have hID := storeIsDead_any H.stt
  rw [hs.1] at hID
  have HID := hide hID
  have HDC := hide (hDec w (Below.refl _ _))
  subst hk
  have hCC := fun y hy => hide (hC y hy)
  clear hC
  obtain ⟨ad, cap, hrv, hcap1, hcap2, hcells⟩ := H.rl.shape
  obtain ⟨g, o, rfl, hcl⟩ := hcells (by omega)
  have r0 : w.cell? ⟨g, o, none⟩ = some (.int .i64 2) := by have := hcl 0 (by omega); simpa [agRules] using this
  have r1 : w.cell? ⟨g, o + 1, none⟩ = some (.func (.func 104) #[ptrTo p] #[]) := by have := hcl 1 (by omega); simpa [agRules] using this
  have r2 : w.cell? ⟨g, o + 2, none⟩ = some (.int .i64 4) := by have := hcl 2 (by omega); simpa [agRules] using this
  have r3 : w.cell? ⟨g, o + 2 + 1, none⟩ = some (.func (.func 105) #[ptrTo p] #[]) := by have := hcl 3 (by omega); simpa [agRules] using this
  have r4 : w.cell? ⟨g, o + 4, none⟩ = some (.int .i64 5) := by have := hcl 4 (by omega); simpa [agRules] using this
  have r5 : w.cell? ⟨g, o + 4 + 1, none⟩ = some (.func (.func 106) #[ptrTo p] #[]) := by have := hcl 5 (by omega); simpa [agRules] using this
  have c26 : w.cell? ⟨p, 26, none⟩ = some (.slice (some ⟨g, o, none⟩) 3 cap) := by rw [blk_cell H.ks.blk, H.ks.ar, hrv]
  have hgl : g < w.heap.size := World.block_lt_of_cell? _ _ r0
  have hpl := lt_of_block H.ks.blk
  have HST := hide (agIs_refl H hs O)
  clear H hID hDec hcl hcells hrv
  unfold ptrTo at *
  go_enter Tryz.func57, Tryz.ntmps57
  go_upto_region 4 with (first | (go_at_call 86; refine (unhide HID).mono ?_; rintro r y ⟨rfl, hyw⟩; obtain rfl : w = y := hyw.symm) | (go_at_call 54; refine (unhide HDC).mono ?_; rintro r y ⟨rfl, hb⟩))
  obtain ⟨g6, hg6⟩ : ∃ g6, g6 = y.heap.size := ⟨_, rfl⟩
  have hgw : w.heap.size ≤ g6 := by have := hb.size; omega
  have HG6 := hide hg6
  have HB := hide hb
  rw [← hg6]
  clear hg6 hb
  refine wp_world (fun u => u.heap[g6]? = some (.cells #[.int .i64 4, .int .i64 e, .int .i64 s, .int .i64 q, .string b] 41 (0, 0)) ∧ Below w.heap.size w u) ?_ ?_
  · rw [unhide HG6]
    exact ⟨heap_alloc_new _ _, (unhide HB).alloc (unhide HB).size _⟩
  clear HG6 HB c0 HDC HID
  rintro u ⟨h6, hbu⟩
  have d26 := (hbu.cell (p := ⟨p, 26, none⟩) hpl).trans c26
  have H6 := hide h6
  have HU := hide hbu
  clear h6 hbu c26
  go_wp2
  go_loopw [8, 27] (fun _ i wr => ∃ j : Nat, j ≤ 1 ∧ i = .int .i64 j ∧ wr.heap[g6]? = some (.cells #[.int .i64 4, .int .i64 e, .int .i64 s, .int .i64 q, .string b] 41 (0, 0)) ∧ Below w.heap.size w wr) (fun _ i _ => 4 - (intOf i).toNat)
  case atStart => exact ⟨0, by omega, rfl, unhide H6, unhide HU⟩
  case round =>
    obtain ⟨j, hj, rfl, h6, hb⟩ := hrel
    clear H6 HU d26
    have s0 := (hb.cell (p := ⟨g, o, none⟩) hgl).trans r0
    have s1 := (hb.cell (p := ⟨g, o + 1, none⟩) hgl).trans r1
    have s2 := (hb.cell (p := ⟨g, o + 2, none⟩) hgl).trans r2
    have s3 := (hb.cell (p := ⟨g, o + 2 + 1, none⟩) hgl).trans r3
    have s4 := (hb.cell (p := ⟨g, o + 4, none⟩) hgl).trans r4
    have s5 := (hb.cell (p := ⟨g, o + 4 + 1, none⟩) hgl).trans r5
    have y0 := blk_cell (i := 0) h6
    have y1 := blk_cell (i := 1) h6
    have y2 := blk_cell (i := 2) h6
    have y3 := blk_cell (i := 3) h6
    have y4 := blk_cell (i := 4) h6
    simp at y0 y1 y2 y3 y4
    have h6l := lt_of_block h6
    have HH6 := hide h6
    have HBB := hide hb
    have hnext : ∀ ob, (wr.alloc ob).heap[g6]? = some (.cells #[.int .i64 4, .int .i64 e, .int .i64 s, .int .i64 q, .string b] 41 (0, 0)) ∧ Below w.heap.size w (wr.alloc ob) := fun ob => ⟨(heap_alloc_old _ _ h6l).trans h6, hb.alloc hb.size _⟩
    have HNX := hide hnext
    clear h6 hb hnext r0 r1 r2 r3 r4 r5
    have hsf0 : ∀ (ad : Addr) (m : Mode) (z : World), (store ad (.func (.func 104) #[.pointer (some ⟨p, 0, none⟩)] #[]) m).run Tryz.prog z = stored Tryz.prog z ad (.func (.func 104) #[.pointer (some ⟨p, 0, none⟩)] #[]) m := fun ad m z => run_store _ _ _ _ _ rfl
    have hsf1 : ∀ (ad : Addr) (m : Mode) (z : World), (store ad (.func (.func 105) #[.pointer (some ⟨p, 0, none⟩)] #[]) m).run Tryz.prog z = stored Tryz.prog z ad (.func (.func 105) #[.pointer (some ⟨p, 0, none⟩)] #[]) m := fun ad m z => run_store _ _ _ _ _ rfl
    have hsf2 : ∀ (ad : Addr) (m : Mode) (z : World), (store ad (.func (.func 106) #[.pointer (some ⟨p, 0, none⟩)] #[]) m).run Tryz.prog z = stored Tryz.prog z ad (.func (.func 106) #[.pointer (some ⟨p, 0, none⟩)] #[]) m := fun ad m z => run_store _ _ _ _ _ rfl
    rcases (show j = 0 ∨ j = 1 by omega) with rfl | rfl
    focus
      go_wp2
      exact ⟨⟨1, by omega, by go_num, (unhide HNX) _⟩, by simp [intOf]⟩
    focus
      go_wp2_with (go_at_call 105; refine (unhide (hCC _ (by first | exact ((unhide HNX) _).2 | exact (unhide HBB)))).mono ?_; rintro r z ⟨rfl, k1⟩; replace k1 := hide k1)
      go_ret
      exact ⟨rfl, (unhide k1).behind (by first | exact ((unhide HNX) _).2 | exact (unhide HBB))⟩

set_option maxRecDepth 100000 in
set_option maxHeartbeats 4000000 in
theorem agDeliver_2 (H : PaAt w p g0 a.ticks a.welcome a.fenced free sh st c) (hs : Sound st) (O : OnAg a st.opening g0 free sh pl) (bs : Value) (k e s q : Int) (b : ByteArray) (hk : k = 5)
    (hDec : ∀ y, Below w.heap.size w y → Calls Tryz.prog 54 #[bs] y fun r z => r = .returned (.tuple #[.agg #[.int .i64 k, .int .i64 e, .int .i64 s, .int .i64 q, .string b], .int .i64 0]) ∧ Below y.heap.size y z)
    (hC : ∀ y, Below w.heap.size w y → Calls Tryz.prog 106 #[ptrTo p, .agg #[.int .i64 5, .int .i64 e, .int .i64 s, .int .i64 q, .string b]] y fun r z => r = .returned (.int .i64 0) ∧ AgIs y z p a2 c) :
    Calls Tryz.prog 57 #[ptrTo p, bs] w fun r z => r = .returned (.int .i64 0) ∧ AgIs w z p a2 c := by
  have c0 : w.cell? ⟨p, 0, none⟩ = some (ptrTo c.s) := by rw [blk_cell H.ks.blk, H.ks.a0]
  have hID := storeIsDead_any H.stt
  rw [hs.1] at hID
  have HID := hide hID
  have HDC := hide (hDec w (Below.refl _ _))
  subst hk
  have hCC := fun y hy => hide (hC y hy)
  clear hC
  obtain ⟨ad, cap, hrv, hcap1, hcap2, hcells⟩ := H.rl.shape
  obtain ⟨g, o, rfl, hcl⟩ := hcells (by omega)
  have r0 : w.cell? ⟨g, o, none⟩ = some (.int .i64 2) := by have := hcl 0 (by omega); simpa [agRules] using this
  have r1 : w.cell? ⟨g, o + 1, none⟩ = some (.func (.func 104) #[ptrTo p] #[]) := by have := hcl 1 (by omega); simpa [agRules] using this
  have r2 : w.cell? ⟨g, o + 2, none⟩ = some (.int .i64 4) := by have := hcl 2 (by omega); simpa [agRules] using this
  have r3 : w.cell? ⟨g, o + 2 + 1, none⟩ = some (.func (.func 105) #[ptrTo p] #[]) := by have := hcl 3 (by omega); simpa [agRules] using this
  have r4 : w.cell? ⟨g, o + 4, none⟩ = some (.int .i64 5) := by have := hcl 4 (by omega); simpa [agRules] using this
  have r5 : w.cell? ⟨g, o + 4 + 1, none⟩ = some (.func (.func 106) #[ptrTo p] #[]) := by have := hcl 5 (by omega); simpa [agRules] using this
  have c26 : w.cell? ⟨p, 26, none⟩ = some (.slice (some ⟨g, o, none⟩) 3 cap) := by rw [blk_cell H.ks.blk, H.ks.ar, hrv]
  have hgl : g < w.heap.size := World.block_lt_of_cell? _ _ r0
  have hpl := lt_of_block H.ks.blk
  have HST := hide (agIs_refl H hs O)
  clear H hID hDec hcl hcells hrv
  unfold ptrTo at *
  go_enter Tryz.func57, Tryz.ntmps57
  go_upto_region 4 with (first | (go_at_call 86; refine (unhide HID).mono ?_; rintro r y ⟨rfl, hyw⟩; obtain rfl : w = y := hyw.symm) | (go_at_call 54; refine (unhide HDC).mono ?_; rintro r y ⟨rfl, hb⟩))
  obtain ⟨g6, hg6⟩ : ∃ g6, g6 = y.heap.size := ⟨_, rfl⟩
  have hgw : w.heap.size ≤ g6 := by have := hb.size; omega
  have HG6 := hide hg6
  have HB := hide hb
  rw [← hg6]
  clear hg6 hb
  refine wp_world (fun u => u.heap[g6]? = some (.cells #[.int .i64 5, .int .i64 e, .int .i64 s, .int .i64 q, .string b] 41 (0, 0)) ∧ Below w.heap.size w u) ?_ ?_
  · rw [unhide HG6]
    exact ⟨heap_alloc_new _ _, (unhide HB).alloc (unhide HB).size _⟩
  clear HG6 HB c0 HDC HID
  rintro u ⟨h6, hbu⟩
  have d26 := (hbu.cell (p := ⟨p, 26, none⟩) hpl).trans c26
  have H6 := hide h6
  have HU := hide hbu
  clear h6 hbu c26
  go_wp2
  go_loopw [8, 27] (fun _ i wr => ∃ j : Nat, j ≤ 2 ∧ i = .int .i64 j ∧ wr.heap[g6]? = some (.cells #[.int .i64 5, .int .i64 e, .int .i64 s, .int .i64 q, .string b] 41 (0, 0)) ∧ Below w.heap.size w wr) (fun _ i _ => 4 - (intOf i).toNat)
  case atStart => exact ⟨0, by omega, rfl, unhide H6, unhide HU⟩
  case round =>
    obtain ⟨j, hj, rfl, h6, hb⟩ := hrel
    clear H6 HU d26
    have s0 := (hb.cell (p := ⟨g, o, none⟩) hgl).trans r0
    have s1 := (hb.cell (p := ⟨g, o + 1, none⟩) hgl).trans r1
    have s2 := (hb.cell (p := ⟨g, o + 2, none⟩) hgl).trans r2
    have s3 := (hb.cell (p := ⟨g, o + 2 + 1, none⟩) hgl).trans r3
    have s4 := (hb.cell (p := ⟨g, o + 4, none⟩) hgl).trans r4
    have s5 := (hb.cell (p := ⟨g, o + 4 + 1, none⟩) hgl).trans r5
    have y0 := blk_cell (i := 0) h6
    have y1 := blk_cell (i := 1) h6
    have y2 := blk_cell (i := 2) h6
    have y3 := blk_cell (i := 3) h6
    have y4 := blk_cell (i := 4) h6
    simp at y0 y1 y2 y3 y4
    have h6l := lt_of_block h6
    have HH6 := hide h6
    have HBB := hide hb
    have hnext : ∀ ob, (wr.alloc ob).heap[g6]? = some (.cells #[.int .i64 5, .int .i64 e, .int .i64 s, .int .i64 q, .string b] 41 (0, 0)) ∧ Below w.heap.size w (wr.alloc ob) := fun ob => ⟨(heap_alloc_old _ _ h6l).trans h6, hb.alloc hb.size _⟩
    have HNX := hide hnext
    clear h6 hb hnext r0 r1 r2 r3 r4 r5
    have hsf0 : ∀ (ad : Addr) (m : Mode) (z : World), (store ad (.func (.func 104) #[.pointer (some ⟨p, 0, none⟩)] #[]) m).run Tryz.prog z = stored Tryz.prog z ad (.func (.func 104) #[.pointer (some ⟨p, 0, none⟩)] #[]) m := fun ad m z => run_store _ _ _ _ _ rfl
    have hsf1 : ∀ (ad : Addr) (m : Mode) (z : World), (store ad (.func (.func 105) #[.pointer (some ⟨p, 0, none⟩)] #[]) m).run Tryz.prog z = stored Tryz.prog z ad (.func (.func 105) #[.pointer (some ⟨p, 0, none⟩)] #[]) m := fun ad m z => run_store _ _ _ _ _ rfl
    have hsf2 : ∀ (ad : Addr) (m : Mode) (z : World), (store ad (.func (.func 106) #[.pointer (some ⟨p, 0, none⟩)] #[]) m).run Tryz.prog z = stored Tryz.prog z ad (.func (.func 106) #[.pointer (some ⟨p, 0, none⟩)] #[]) m := fun ad m z => run_store _ _ _ _ _ rfl
    rcases (show j = 0 ∨ j = 1 ∨ j = 2 by omega) with rfl | rfl | rfl
    focus
      go_wp2
      exact ⟨⟨1, by omega, by go_num, (unhide HNX) _⟩, by simp [intOf]⟩
    focus
      go_wp2
      exact ⟨⟨2, by omega, by go_num, (unhide HNX) _⟩, by simp [intOf]⟩
    focus
      go_wp2_with (go_at_call 106; refine (unhide (hCC _ (by first | exact ((unhide HNX) _).2 | exact (unhide HBB)))).mono ?_; rintro r z ⟨rfl, k1⟩; replace k1 := hide k1)
      go_ret
      exact ⟨rfl, (unhide k1).behind (by first | exact ((unhide HNX) _).2 | exact (unhide HBB))⟩

set_option maxRecDepth 100000 in
set_option maxHeartbeats 4000000 in
theorem agDeliver_none (H : PaAt w p g0 a.ticks a.welcome a.fenced free sh st c) (hs : Sound st) (O : OnAg a st.opening g0 free sh pl) (bs : Value) (k e s q : Int) (b : ByteArray) (k2 : k ≠ 2) (k4 : k ≠ 4) (k5 : k ≠ 5)
    (hDec : ∀ y, Below w.heap.size w y → Calls Tryz.prog 54 #[bs] y fun r z => r = .returned (.tuple #[.agg #[.int .i64 k, .int .i64 e, .int .i64 s, .int .i64 q, .string b], .int .i64 0]) ∧ Below y.heap.size y z) :
    Calls Tryz.prog 57 #[ptrTo p, bs] w fun r z => r = .returned (.int .i64 0) ∧ AgIs w z p a c := by
  have c0 : w.cell? ⟨p, 0, none⟩ = some (ptrTo c.s) := by rw [blk_cell H.ks.blk, H.ks.a0]
  have hID := storeIsDead_any H.stt
  rw [hs.1] at hID
  have HID := hide hID
  have HDC := hide (hDec w (Below.refl _ _))
  have e2 : ((2 : Int) == k) = false := by simp; omega
  have e4 : ((4 : Int) == k) = false := by simp; omega
  have e5 : ((5 : Int) == k) = false := by simp; omega
  obtain ⟨ad, cap, hrv, hcap1, hcap2, hcells⟩ := H.rl.shape
  obtain ⟨g, o, rfl, hcl⟩ := hcells (by omega)
  have r0 : w.cell? ⟨g, o, none⟩ = some (.int .i64 2) := by have := hcl 0 (by omega); simpa [agRules] using this
  have r1 : w.cell? ⟨g, o + 1, none⟩ = some (.func (.func 104) #[ptrTo p] #[]) := by have := hcl 1 (by omega); simpa [agRules] using this
  have r2 : w.cell? ⟨g, o + 2, none⟩ = some (.int .i64 4) := by have := hcl 2 (by omega); simpa [agRules] using this
  have r3 : w.cell? ⟨g, o + 2 + 1, none⟩ = some (.func (.func 105) #[ptrTo p] #[]) := by have := hcl 3 (by omega); simpa [agRules] using this
  have r4 : w.cell? ⟨g, o + 4, none⟩ = some (.int .i64 5) := by have := hcl 4 (by omega); simpa [agRules] using this
  have r5 : w.cell? ⟨g, o + 4 + 1, none⟩ = some (.func (.func 106) #[ptrTo p] #[]) := by have := hcl 5 (by omega); simpa [agRules] using this
  have c26 : w.cell? ⟨p, 26, none⟩ = some (.slice (some ⟨g, o, none⟩) 3 cap) := by rw [blk_cell H.ks.blk, H.ks.ar, hrv]
  have hgl : g < w.heap.size := World.block_lt_of_cell? _ _ r0
  have hpl := lt_of_block H.ks.blk
  have HST := hide (agIs_refl H hs O)
  clear H hID hDec hcl hcells hrv
  unfold ptrTo at *
  go_enter Tryz.func57, Tryz.ntmps57
  go_upto_region 4 with (first | (go_at_call 86; refine (unhide HID).mono ?_; rintro r y ⟨rfl, hyw⟩; obtain rfl : w = y := hyw.symm) | (go_at_call 54; refine (unhide HDC).mono ?_; rintro r y ⟨rfl, hb⟩))
  obtain ⟨g6, hg6⟩ : ∃ g6, g6 = y.heap.size := ⟨_, rfl⟩
  have hgw : w.heap.size ≤ g6 := by have := hb.size; omega
  have HG6 := hide hg6
  have HB := hide hb
  rw [← hg6]
  clear hg6 hb
  refine wp_world (fun u => u.heap[g6]? = some (.cells #[.int .i64 k, .int .i64 e, .int .i64 s, .int .i64 q, .string b] 41 (0, 0)) ∧ Below w.heap.size w u) ?_ ?_
  · rw [unhide HG6]
    exact ⟨heap_alloc_new _ _, (unhide HB).alloc (unhide HB).size _⟩
  clear HG6 HB c0 HDC HID
  rintro u ⟨h6, hbu⟩
  have d26 := (hbu.cell (p := ⟨p, 26, none⟩) hpl).trans c26
  have H6 := hide h6
  have HU := hide hbu
  clear h6 hbu c26
  go_wp2
  go_loopw [8, 27] (fun _ i wr => ∃ j : Nat, j ≤ 3 ∧ i = .int .i64 j ∧ wr.heap[g6]? = some (.cells #[.int .i64 k, .int .i64 e, .int .i64 s, .int .i64 q, .string b] 41 (0, 0)) ∧ Below w.heap.size w wr) (fun _ i _ => 4 - (intOf i).toNat)
  case atStart => exact ⟨0, by omega, rfl, unhide H6, unhide HU⟩
  case round =>
    obtain ⟨j, hj, rfl, h6, hb⟩ := hrel
    clear H6 HU d26
    have s0 := (hb.cell (p := ⟨g, o, none⟩) hgl).trans r0
    have s1 := (hb.cell (p := ⟨g, o + 1, none⟩) hgl).trans r1
    have s2 := (hb.cell (p := ⟨g, o + 2, none⟩) hgl).trans r2
    have s3 := (hb.cell (p := ⟨g, o + 2 + 1, none⟩) hgl).trans r3
    have s4 := (hb.cell (p := ⟨g, o + 4, none⟩) hgl).trans r4
    have s5 := (hb.cell (p := ⟨g, o + 4 + 1, none⟩) hgl).trans r5
    have y0 := blk_cell (i := 0) h6
    have y1 := blk_cell (i := 1) h6
    have y2 := blk_cell (i := 2) h6
    have y3 := blk_cell (i := 3) h6
    have y4 := blk_cell (i := 4) h6
    simp at y0 y1 y2 y3 y4
    have h6l := lt_of_block h6
    have HH6 := hide h6
    have HBB := hide hb
    have hnext : ∀ ob, (wr.alloc ob).heap[g6]? = some (.cells #[.int .i64 k, .int .i64 e, .int .i64 s, .int .i64 q, .string b] 41 (0, 0)) ∧ Below w.heap.size w (wr.alloc ob) := fun ob => ⟨(heap_alloc_old _ _ h6l).trans h6, hb.alloc hb.size _⟩
    have HNX := hide hnext
    clear h6 hb hnext r0 r1 r2 r3 r4 r5
    have hsf0 : ∀ (ad : Addr) (m : Mode) (z : World), (store ad (.func (.func 104) #[.pointer (some ⟨p, 0, none⟩)] #[]) m).run Tryz.prog z = stored Tryz.prog z ad (.func (.func 104) #[.pointer (some ⟨p, 0, none⟩)] #[]) m := fun ad m z => run_store _ _ _ _ _ rfl
    have hsf1 : ∀ (ad : Addr) (m : Mode) (z : World), (store ad (.func (.func 105) #[.pointer (some ⟨p, 0, none⟩)] #[]) m).run Tryz.prog z = stored Tryz.prog z ad (.func (.func 105) #[.pointer (some ⟨p, 0, none⟩)] #[]) m := fun ad m z => run_store _ _ _ _ _ rfl
    have hsf2 : ∀ (ad : Addr) (m : Mode) (z : World), (store ad (.func (.func 106) #[.pointer (some ⟨p, 0, none⟩)] #[]) m).run Tryz.prog z = stored Tryz.prog z ad (.func (.func 106) #[.pointer (some ⟨p, 0, none⟩)] #[]) m := fun ad m z => run_store _ _ _ _ _ rfl
    rcases (show j = 0 ∨ j = 1 ∨ j = 2 ∨ j = 3 by omega) with rfl | rfl | rfl | rfl
    focus
      go_wp2
      exact ⟨⟨1, by omega, by go_num, (unhide HNX) _⟩, by simp [intOf]⟩
    focus
      go_wp2
      exact ⟨⟨2, by omega, by go_num, (unhide HNX) _⟩, by simp [intOf]⟩
    focus
      go_wp2
      exact ⟨⟨3, by omega, by go_num, (unhide HNX) _⟩, by simp [intOf]⟩
    focus
      go_wp2
      go_ret
      exact ⟨rfl, (unhide HST).below (unhide HBB)⟩
end
theorem agSays_yes {a : Mod.Ag} {l : List UInt8} (hr : Wire.reads l = true) {k : Int} {e s q : Nat} {b : ByteArray} (h1 : Wire.kindOf l = k) (h2 : Wire.epochOf l = e) (h3 : Wire.streamOf l = s) (h4 : Wire.seqOf l = q) (h5 : Wire.bodyOf l = b) :
    agSays a l = (0, a.deliver k e s q b) := by
  unfold agSays
  rw [hr, h1, h2, h3, h4, h5]
  rfl
theorem agSays_no {a : Mod.Ag} {l : List UInt8} (hr : Wire.reads l = false) : agSays a l = (1, a) := by
  unfold agSays
  rw [hr]
  rfl
theorem reads_proper {l : List UInt8} (hr : Wire.reads l = true) : Wire.proper (Wire.kindOf l) (Wire.epochOf l) (Wire.streamOf l) (Wire.seqOf l) (Wire.bodyOf l) = true := by
  unfold Wire.reads at hr
  rw [Bool.and_eq_true] at hr
  exact hr.2
section
variable {w : World} {p : Nat} {g0 : Nat → Nat} {free : List Nat} {sh : Nat → List (Nat × Value)} {st : Mod.Stv} {c : Av} {a : Mod.Ag} {pl : Nat → List Nat}
theorem agDeliver_any (H : PaAt w p g0 a.ticks a.welcome a.fenced free sh st c) (hs : Sound st) (O : OnAg a st.opening g0 free sh pl) (hbnd : ∀ i, i < 3 → (a.fl i).base + (a.fl i).kept.length ≤ 1000000000) (bs : Value) (l : List UInt8) (hat : BytesAt w bs l) :
    Calls Tryz.prog 57 #[ptrTo p, bs] w fun r z => r = .returned (.int .i64 (agSays a l).1) ∧ AgIs w z p (agSays a l).2 c := by
  cases hr : Wire.reads l
  · rw [agSays_no hr]
    exact agDeliver_no H hs O bs l hat hr
  · have hpr := reads_proper hr
    obtain ⟨k, e, s, q, b, h1, h2, h3, h4, h5, g1, g2, g3, g4⟩ := reads_parts hr
    rw [agSays_yes hr h1 h2 h3 h4 h5]
    rw [h1, h2, h3, h4, h5] at hpr
    have hDec : ∀ y, Below w.heap.size w y → Calls Tryz.prog 54 #[bs] y fun r z => r = .returned (.tuple #[.agg #[.int .i64 k, .int .i64 e, .int .i64 s, .int .i64 q, .string b], .int .i64 0]) ∧ Below y.heap.size y z := fun y hy => by
      have := decode_any bs l y (hat.below hy)
      rw [hr] at this
      simp only [if_true, frVal, h1, h2, h3, h4, h5] at this
      exact this
    have HY := fun y (hy : Below w.heap.size w y) => H.below hy
    by_cases k2 : k = 2
    · refine agDeliver_0 H hs O bs k e s q b k2 hDec (fun y hy => ?_)
      subst k2
      by_cases he : e = a.epoch
      · exact obeyWelcome_yes (HY y hy) hs O e s q b he (proper_2 hpr) (fun i hi => by have := hbnd i hi; omega)
      · refine (obeyWelcome_no (HY y hy) O e s q b he).mono ?_
        rintro r z ⟨rfl, hb⟩
        rw [show a.deliver 2 e s q b = a by unfold Mod.Ag.deliver; rw [if_neg (by omega), if_pos (by omega)]]
        exact ⟨rfl, (agIs_refl (HY y hy) hs O).below hb⟩
    · by_cases k4 : k = 4
      · refine agDeliver_1 H hs O bs k e s q b k4 hDec (fun y hy => ?_)
        subst k4
        by_cases he : e = a.epoch ∧ a.welcome = true
        · exact obeyAck_do (HY y hy) hs O e s q b he.1 he.2 g2 (by have := (proper_4 hpr).1; omega) hbnd
        · refine (obeyAck_skip (HY y hy) O e s q b ?_).mono ?_
          · by_cases h : e = a.epoch
            · right
              cases hw : a.welcome
              · rfl
              · exact absurd ⟨h, hw⟩ he
            · exact .inl h
          rintro r z ⟨rfl, hb⟩
          have : a.deliver 4 e s q b = a := by
            unfold Mod.Ag.deliver
            rw [if_neg (by omega)]
            by_cases h : e = a.epoch
            · rw [if_neg (by omega), if_neg (by omega), if_neg (by omega), if_pos rfl]
              cases hw : a.welcome
              · rw [if_pos (.inl (by simp))]
              · exact absurd ⟨h, hw⟩ he
            · rw [if_pos (by omega)]
          rw [this]
          exact ⟨rfl, (agIs_refl (HY y hy) hs O).below hb⟩
      · by_cases k5 : k = 5
        · refine agDeliver_2 H hs O bs k e s q b k5 hDec (fun y hy => ?_)
          subst k5
          exact obeyReset_any (HY y hy) hs O e s q b
        · have : a.deliver k e s q b = a := by
            unfold Mod.Ag.deliver
            rw [if_neg (by omega)]
            by_cases h : e = a.epoch
            · rw [if_neg (by omega), if_neg (by omega), if_neg (by omega), if_neg (by omega)]
            · rw [if_pos (by omega)]
          rw [this]
          exact agDeliver_none H hs O bs k e s q b k2 k4 k5 hDec
end
end Go.Proofs.YtamafdcnbcoegaaGreat
namespace Go.Proofs.YtamafdcnbcoegaaGreat
open Go.RowKit
attribute [local go_sem] Oper.semAt_some
section
variable {w : World} {p : Nat} {g : Nat → Nat} {free : List Nat} {sh : Nat → List (Nat × Value)} {st : Mod.Stv} {c : Av} {a : Mod.Ag} {pl : Nat → List Nat}
set_option maxRecDepth 100000 in
set_option maxHeartbeats 4000000 in
theorem agSpool_in (H : PaAt w p g a.ticks a.welcome a.fenced free sh st c) (hs : Sound st) (O : OnAg a st.opening g free sh pl) (i : Nat) (hi3 : i < 3) :
    Calls Tryz.prog 55 #[ptrTo p, .int .i64 i] w fun r z => ∃ v, r = .returned v ∧ z.ownsRow w.heap.size 9 1 v (a.spool i).length (strs (a.spool i)) ∧ Below w.heap.size w z := by
  have c0 : w.cell? ⟨p, 0, none⟩ = some (ptrTo c.s) := by rw [blk_cell H.ks.blk, H.ks.a0]
  have hID := storeIsDead_any H.stt
  rw [hs.1] at hID
  have HID := hide hID
  have hIS := isStream_any (i : Int) w
  rw [show Wire.isStr (i : Int) = true by simp [Wire.isStr]; omega] at hIS
  have HIS := hide hIS
  have hpl := lt_of_block H.ks.blk
  have HALL := fun y (hy : Below w.heap.size w y) => hide (allA_any (H.below hy).ks.blk (H.ks.an (i * 3) (by omega)) ((H.below hy).ks.shs (i * 3) (by omega)))
  rw [show 4 + i * 3 * 2 = 4 + i * 6 by omega] at HALL
  have hlen : (sh (i * 3)).length = (a.spool i).length := by
    rw [O.kp i hi3, keptL_length _ _ _ (O.pn i hi3)]
    simp [Mod.Ag.spool]
  have hi0 : (0 : Int) ≤ (i : Int) := by omega
  have hi3' : (i : Int) < 3 := by omega
  have hrec : ∀ k (hk : k < (sh (i * 3)).length), ∃ (bk : ByteArray) (q : Nat), (sh (i * 3))[k].2 = recA bk q ∧ (a.spool i)[k]? = some bk := by
    intro k hk
    have hk2 : k < (a.fl i).kept.length := by rw [hlen] at hk; simpa [Mod.Ag.spool] using hk
    have h1 := keptL_get (a.fl i).base (a.fl i).kept (pl i) k (O.pn i hi3) hk2
    rw [← O.kp i hi3, List.getElem?_eq_getElem hk] at h1
    injection h1 with h1
    exact ⟨_, _, by rw [h1], by simp [Mod.Ag.spool, List.getElem?_eq_getElem hk2]⟩
  have hare : AreA (sh (i * 3)) := by rw [O.kp i hi3]; exact keptL_are _ _ _
  have hsm : (a.spool i).length ≤ 24 := by
    have h1 := O.sum
    have h2 := room_le (a := a) hi3
    simp [Mod.Ag.spool]; omega
  have HSH := fun y (hy : Below w.heap.size w y) => hide ((H.below hy).ks.shs (i * 3) (by omega))
  have HN : ∀ y (hy : Below w.heap.size w y), Hid (y.cell? ⟨p, 4 + i * 6, none⟩ = some (c.nv (i * 3)) ∧ y.cell? ⟨p, 4 + i * 6 + 1, none⟩ = some (c.mv (i * 3))) := fun y hy => hide ⟨by
    rw [blk_cell (H.below hy).ks.blk, show 4 + i * 6 = 4 + i * 3 * 2 by omega, H.ks.an (i * 3) (by omega)], by
    rw [blk_cell (H.below hy).ks.blk, show 4 + i * 6 + 1 = 4 + i * 3 * 2 + 1 by omega, H.ks.am (i * 3) (by omega)]⟩
  obtain ⟨L, hL⟩ : ∃ L, L = sh (i * 3) := ⟨_, rfl⟩
  obtain ⟨nv, hnv⟩ : ∃ v, v = c.nv (i * 3) := ⟨_, rfl⟩
  obtain ⟨mv, hmv⟩ : ∃ v, v = c.mv (i * 3) := ⟨_, rfl⟩
  obtain ⟨SP, hSP⟩ : ∃ SP, SP = a.spool i := ⟨_, rfl⟩
  rw [← hnv, ← hmv] at HSH HN
  rw [← hL] at HSH HALL hrec hare hlen
  rw [← hSP] at hrec hlen hsm ⊢
  have HR := hide hrec
  have HLN := hide hlen
  clear H O hID hlen hrec hL hnv hmv hSP hIS
  unfold ptrTo at *
  refine callsIn_wide.1 (callsIn_of_wp_marks (n := 5) Tryz.func55 rfl trivial ?_ rfl)
  refine wpIn_wide.2 ?_
  simp only [Tryz.ntmps55, List.size_toArray, List.length_cons, List.length_nil, Nat.reduceAdd, Nat.reduceSub, Array.replicate_succ, Array.replicate_zero, List.push_toArray, List.append_toArray, List.nil_append, List.cons_append]
  go_upto_region 4 with (first | (go_at_call 87; refine (unhide HIS).mono ?_; rintro r y ⟨rfl, hyw⟩; obtain rfl : w = y := hyw.symm) | (go_at_call 86; refine (unhide HID).mono ?_; rintro r y ⟨rfl, hyw⟩; obtain rfl : w = y := hyw.symm))
  obtain ⟨g5, hg5⟩ : ∃ g5, g5 = w.heap.size := ⟨_, rfl⟩
  have HG5 := hide hg5
  rw [← hg5]
  refine wp_world (fun x => x.heap[g5]? = some (.cells #[.slice none 0 0] 45 (0, 0)) ∧ Below g5 w x ∧ x.heap.size = g5 + 1) ?_ ?_
  · rw [hg5]
    exact ⟨heap_alloc_new _ _, (Below.refl _ _).alloc (Nat.le_refl _) _, by simp⟩
  rintro x ⟨h5, hb, hsz⟩
  have HA := hide (unhide (HALL x (by rw [← hg5]; exact hb)))
  have HX := hide (And.intro h5 (And.intro hb hsz))
  clear hg5 h5 hb hsz HALL
  go_wp2_with (go_at_call 97; refine (unhide HA).mono ?_; rintro r y ⟨rfl, hy⟩)
  clear HA
  have hD : y.heap.size = g5 + 3 := by rw [hy]; simp [boxed2, (unhide HX).2.2]
  have hx : x.heap.size = g5 + 1 := (unhide HX).2.2
  have hy0 : y.heap[g5]? = some (.cells #[.slice none 0 0] 45 (0, 0)) := by
    rw [hy]
    unfold boxed2
    rw [heap_alloc_old _ _ (by simp; omega), heap_alloc_old _ _ (by omega)]
    exact (unhide HX).1
  have hy1 : y.heap[g5 + 1]? = some (.cells #[.pointer (some ⟨p, 4 + i * 6, none⟩)] 209 (0, 0)) := by
    rw [hy]
    unfold boxed2
    rw [heap_alloc_old _ _ (by simp; omega), ← hx]
    exact heap_alloc_new _ _
  have hy2 : y.heap[g5 + 2]? = some (.cells #[.int .i64 L.length] 3 (0, 0)) := by
    rw [hy]
    unfold boxed2
    have := heap_alloc_new (x.alloc (.cells #[.pointer (some ⟨p, 4 + i * 6, none⟩)] 209)) (.cells #[.int .i64 L.length] 3)
    rw [World.size_alloc, hx] at this
    exact this
  have hby : Below g5 w y := by
    rw [hy]
    unfold boxed2
    exact ((unhide HX).2.1.alloc (by omega) _).alloc (by simp; omega) _
  rw [← hy, hx]
  clear hy hx HX
  refine wpIn_wide.1 (range_first (n := 5) (b := g5 + 1) (p := p) (o := 4 + i * 6) (m := L.length) nv mv L hare rfl rfl (fun k W => (∃ v, W.heap[g5]? = some (.cells #[v] 45 (0, 0)) ∧ W.ownsRow (g5 + 5) 9 1 v k (strs (SP.take k))) ∧ W.heap[g5 + 1]? = some (.cells #[.pointer (some ⟨p, 4 + i * 6, none⟩)] 209 (0, 0)) ∧ W.heap[g5 + 2]? = some (.cells #[.int .i64 L.length] 3 (0, 0)) ∧ Below g5 w W ∧ g5 + 5 ≤ W.heap.size) ?_ ?_ ?_ ?_ ?_ ?_)
  · rintro k W W' ⟨⟨v, h5, hr⟩, h1, h2, hb, hz⟩ hS
    rw [hD] at hS
    have hq := fun k (h : k ≠ g5 + 3) (h' : k ≠ g5 + 4) => hS.rest k h (by omega)
    refine ⟨⟨v, (hq g5 (by omega) (by omega)).trans h5, ownsRow_keep hr (fun g hg => ?_)⟩, (hq _ (by omega) (by omega)).trans h1, (hq _ (by omega) (by omega)).trans h2, ⟨hS.os.trans hb.os, hS.tape.trans hb.tape, hS.output.trans hb.output, by rw [hS.size]; exact hb.size, fun k hk => (hq k (by omega) (by omega)).trans (hb.block k hk)⟩, by rw [hS.size]; exact hz⟩
    have := (World.ownsRow.lt hr g hg).1
    exact hq g (by omega) (by omega)
  · rintro k W ⟨_, h1, h2, hb, _⟩
    have hbw : Below w.heap.size w W := by rw [← unhide HG5]; exact hb
    exact ⟨blk_cell h1, blk_cell h2, (unhide (HN W hbw)).1, (unhide (HN W hbw)).2, unhide (HSH W hbw)⟩
  · intro W hbW hszW
    have hk := fun k (hk : k < y.heap.size) => hbW.block k hk
    exact ⟨⟨_, (hk g5 (by omega)).trans hy0, World.ownsRow_nil _ _ _ _⟩, (hk _ (by omega)).trans hy1, (hk _ (by omega)).trans hy2, hby.trans (hbW.mono (by omega)), by omega⟩
  · intro k hk W hkm hI hle
    rw [hD] at hle ⊢
    obtain ⟨bk, q, hL2, hsp⟩ := (unhide HR) k hk
    rw [hL2]
    obtain ⟨⟨v, h5, hr⟩, h1, h2, hb, hz⟩ := hI
    generalize L[k].1 = nk at *
    have htake : SP.take (k + 1) = SP.take k ++ [bk] := by rw [List.take_add_one, hsp]; rfl
    have hk24 : k < 24 := by have := unhide HLN; omega
    have HT := hide htake
    have HI := hide (And.intro h5 (And.intro hr (And.intro h1 (And.intro h2 (And.intro hb hz)))))
    clear h5 hr h1 h2 hb hz htake hsp hy0 hy1 hy2 hby hL2 hkm hk
    unfold recA
    obtain ⟨g7, hg7⟩ : ∃ g7, g7 = W.heap.size := ⟨_, rfl⟩
    have hg7' : g5 + 5 ≤ g7 := by omega
    have HG7 := hide hg7
    gi_wp2
    refine ⟨⟨heap_alloc_old _ _ (by omega), heap_alloc_old _ _ (by omega)⟩, ?_⟩
    intro W2 hS
    obtain ⟨h5, hr, h1, h2, hb, hz⟩ := unhide HI
    have hq : ∀ j, j ≠ g5 + 3 → j ≠ g5 + 4 → j < W.heap.size → W2.heap[j]? = W.heap[j]? := fun j h h' hl => (hS.rest j h (by omega)).trans (heap_alloc_old _ _ hl)
    have h7 : W2.heap[g7]? = some (.cells #[.string bk, .int .i64 q] 158 (0, 0)) := by
      rw [hS.rest g7 (by omega) (by omega), hg7]
      exact heap_alloc_new _ _
    have hz2 : W2.heap.size = g7 + 1 := by rw [hS.size, hg7]; simp
    have h5' := (hq g5 (by omega) (by omega) (by omega)).trans h5
    have h1' := (hq _ (by omega) (by omega) (by omega)).trans h1
    have h2' := (hq _ (by omega) (by omega) (by omega)).trans h2
    have hb' : Below g5 w W2 := ⟨hS.os.trans hb.os, hS.tape.trans hb.tape, hS.output.trans hb.output, by have := hb.size; omega, fun j hj => (hq j (by omega) (by omega) (by omega)).trans (hb.block j hj)⟩
    have hr' : W2.ownsRow (g5 + 5) 9 1 v k (strs (SP.take k)) := ownsRow_keep hr (fun g hg => by
      have := World.ownsRow.lt hr g hg
      exact hq g (by omega) (by omega) this.2)
    obtain ⟨ad, cap, rfl, _⟩ := (own_rowO hr').shape
    have d5 := blk_cell (i := 0) h5'
    have f5 := blk_free (i := 0) h5'
    have d7 := blk_cell (i := 0) h7
    simp at d5 d7
    rw [← hg7]
    obtain ⟨xs, hxs⟩ : ∃ xs, xs = strs (SP.take k) := ⟨_, rfl⟩
    rw [← hxs] at hr'
    have hxl : xs.length = k := hr'.1 |> fun h => by simpa using h
    have HX2 := hide hxs
    have HS2 := hide (And.intro h5' (And.intro h1' (And.intro h2' hb')))
    have HR2 := hide hr'
    clear h5 hr h1 h2 hb hz hq h7 h5' h1' h2' hb' hr' hS HI hxs hg7
    have h5A : ∀ ob, (W2.alloc ob).heap[g5]? = some (.cells #[.slice ad k cap] 45 (0, 0)) := fun ob => (heap_alloc_old _ _ (by omega)).trans (unhide HS2).1
    have hNE : ∀ j, j < g5 + 5 → some j ≠ (Value.slice ad k cap).ownBlock := fun j hj e => by
      have := (World.ownsRow.lt (unhide HR2) j e.symm).1
      omega
    have HNC := cell_one_new W2 (.string bk) 9
    rw [hz2] at HNC
    obtain ⟨i0, hi, hi0, hi1, hi2⟩ := info_parts infoStr
    gi_wp2_with (gi_at_builtin; go_loud (refine wpListIn_append_own _ rfl (.tmp 27) (.tmp 30) 45 rfl (g5 + 5) 9 i0 _ 1 16 Tryz.underlying45 hi hi0 hi1 hi2 rfl (by decide) _ k xs rfl (World.ownsRow.alloc (unhide HR2) _) ⟨g7 + 1, 0, none⟩ 1 1 [.string bk] rfl rfl HNC (by simp [Value.oneCell']) (by unfold maxLen; omega) (by omega) (by simp; omega) ?_; intro v' w1 hown' hgrow _; obtain ⟨ad2, cap2, hv2, _⟩ := (own_rowO hown').shape; subst hv2; have h5B := (hgrow.block g5 (by simp; omega) (hNE g5 (by omega))).trans (h5A _); have d5' := blk_cell (i := 0) h5B; have f5' := blk_free (i := 0) h5B; simp at d5'; replace h5B := hide h5B; replace hown' := hide hown'; replace hgrow := hide hgrow))
    obtain ⟨h5', h1', h2', hb'⟩ := unhide HS2
    have hg := unhide hgrow
    have hw1 : g7 + 2 ≤ w1.heap.size := by have := hg.size; simp at this; omega
    have hset := far_set w1 g5 0 (.slice ad2 (k + 1) cap2)
    have hall : ∀ j, j ≠ g5 → j < g5 + 5 → (w1.setCell ⟨g5, 0, none⟩ (.slice ad2 (k + 1) cap2)).heap[j]? = W2.heap[j]? := fun j e1 e2 =>
      (hset.rest j (by omega) e1).trans ((hg.block j (by simp; omega) (hNE j e2)).trans (heap_alloc_old _ _ (by omega)))
    refine ⟨hall _ (by omega) (by omega), hall _ (by omega) (by omega), ⟨_, by have := blk_set (j := 0) (v := .slice ad2 (k + 1) cap2) (unhide h5B); simpa using this, ?_⟩, (hall _ (by omega) (by omega)).trans h1', (hall _ (by omega) (by omega)).trans h2', ?_, ?_⟩
    · have e : strs (SP.take (k + 1)) = xs ++ [.string bk] := by rw [unhide HT, unhide HX2]; simp [strs]
      rw [e]
      exact ownsRow_keep (unhide hown') (fun g hg' => by
        have := World.ownsRow.lt (unhide hown') g hg'
        exact hset.rest g this.2 (by omega))
    · exact ((hb'.alloc (by omega) _).grown hg (by simp; omega) (fun j e => by
        have := (World.ownsRow.lt (unhide HR2) j e).1
        omega)).setCell (p := ⟨g5, 0, none⟩) (Nat.le_refl _) _
    · have := hset.size
      omega
  · intro k W h
    have := h.2.2.2.2
    omega
  · intro W h hK
    rw [hD] at hK ⊢
    rw [Nat.min_self, unhide HLN, List.take_length] at h
    obtain ⟨⟨v, h5, hr⟩, _, _, hb, hz⟩ := h
    have c5 := blk_cell (i := 0) h5
    simp at c5
    have HE := hide (And.intro hr hb)
    clear h5 hr hb hy0 hy1 hy2 hby
    go_wp2
    have hput : ∀ j, j ≠ g5 + 3 → (W.putObj (g5 + 3) (.deferred none)).heap[j]? = W.heap[j]? := fun j h => World.putObj_heap_other h
    refine ⟨by simp, .inl ⟨_, _, rfl, run_takeDeferred hK, ?_⟩⟩
    refine ⟨_, results_tmp rfl _ _ _, _, rfl, ownsRow_monoB (ownsRow_keep (unhide HE).1 (fun g hg => hput g (by have := (World.ownsRow.lt (unhide HE).1 g hg).1; omega))) (by have := unhide HG5; omega), ?_⟩
    obtain ⟨_, hb⟩ := unhide HE
    rw [← unhide HG5]
    exact ⟨hb.os, hb.tape, hb.output, by rw [World.putObj_size]; exact hb.size, fun k hk => (hput k (by omega)).trans (hb.block k hk)⟩
set_option maxRecDepth 100000 in
set_option maxHeartbeats 4000000 in
theorem agSpool_any (H : PaAt w p g a.ticks a.welcome a.fenced free sh st c) (hs : Sound st) (O : OnAg a st.opening g free sh pl) (i : Int) :
    Calls Tryz.prog 55 #[ptrTo p, .int .i64 i] w fun r z => ∃ v, r = .returned v ∧ z.ownsRow w.heap.size 9 1 v (agSpools a i).length (strs (agSpools a i)) ∧ Below w.heap.size w z := by
  unfold agSpools
  by_cases h : 0 ≤ i ∧ i < 3
  · rw [if_pos h]
    obtain ⟨n, rfl⟩ := Int.eq_ofNat_of_zero_le h.1
    exact agSpool_in H hs O n (by omega)
  · rw [if_neg h]
    have hst : Wire.isStr i = false := by
      cases hc : Wire.isStr i
      · rfl
      · simp [Wire.isStr] at hc; omega
    have hIS := isStream_any i w
    rw [hst] at hIS
    have HIS := hide hIS
    clear H O hs hIS hst h
    unfold ptrTo at *
    go_enter Tryz.func55, Tryz.ntmps55
    go_wp2_with (go_at_call 87; refine (unhide HIS).mono ?_; rintro r y ⟨rfl, hyw⟩; obtain rfl : w = y := hyw.symm)
    go_ret
    exact ⟨_, rfl, World.ownsRow_nil _ _ _ _, Below.refl _ _⟩
end
end Go.Proofs.YtamafdcnbcoegaaGreat
namespace Go.Proofs.YtamafdcnbcoegaaGreat
open Go.RowKit

theorem zRecs_get : ∀ (m j : Nat), j < m → (zRecs m)[j * 3]? = some (.int .i64 0) ∧ (zRecs m)[j * 3 + 1]? = some (.int .i64 0) ∧ (zRecs m)[j * 3 + 2]? = some (.string ⟨#[]⟩)
  | 0, j, h => by omega
  | m + 1, j, h => by
    have hl := length_zRecs m
    by_cases e : j < m
    · obtain ⟨h0, h1, h2⟩ := zRecs_get m j e
      refine ⟨?_, ?_, ?_⟩
      all_goals
        unfold zRecs
        rw [List.getElem?_append_left (by omega)]
        assumption
    · obtain rfl : j = m := by omega
      refine ⟨?_, ?_, ?_⟩
      all_goals
        unfold zRecs
        rw [List.getElem?_append_right (by omega), hl]
        simp
end Go.Proofs.YtamafdcnbcoegaaGreat
