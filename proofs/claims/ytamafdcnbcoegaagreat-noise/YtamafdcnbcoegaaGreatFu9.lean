/-
  Part 9 of a proof: L8, L9, L10, L11, MonoKey, K7.
-/
import Derived.Test.YtamafdcnbcoegaaGreatFu8
namespace Go.Proofs.YtamafdcnbcoegaaGreat
open Go.RowKit
section
variable {w x : World} {p : Nat} {g : Nat → Nat} {tk : Nat} {wel fen : Bool} {free : List Nat} {sh : Nat → List (Nat × Value)} {st : Mod.Stv} {c : Av} {a : Mod.Ag} {pl : Nat → List Nat}
theorem letGo_any (H : PaAt w p g a.ticks a.welcome a.fenced free sh st c) (hs : Sound st) (O : OnAg a st.opening g free sh pl) (n X : Nat → Nat) (hn : ∀ i, i < 3 → n i ≤ (a.fl i).kept.length) (hX : ∀ i, i < 3 → X i = (a.fl i).base + n i) (hXm : ∀ i, i < 3 → X i < 4294967296) :
    Calls Tryz.prog 152 #[ptrTo p, .agg #[.int .i64 (X 0), .int .i64 (X 1), .int .i64 (X 2)]] w fun r z => r = .returned (.int .i64 0) ∧ AgIs w z p (a.drop n) c := by
  by_cases h : X 0 = g 0 ∧ X 1 = g 1 ∧ X 2 = g 2
  · have hXg : ∀ i, i < 3 → X i = g i := by
      intro i hi
      obtain rfl | rfl | rfl : i = 0 ∨ i = 1 ∨ i = 2 := by omega
      · exact h.1
      · exact h.2.1
      · exact h.2.2
    have hz : a.drop n = a := drop_none (fun i hi => by have := hXg i hi; have := hX i hi; have := O.bs i hi; omega)
    rw [hz]
    refine (letGo_same H X hXg).mono ?_
    rintro r z ⟨rfl, hb⟩
    exact ⟨rfl, (agIs_refl H hs O).below hb⟩
  · exact letGo_some H hs O n X hn hX hXm h
theorem paStep_fen (H : PaAt w p g tk wel fen free sh st c) (v : Bool) : PaStep w (w.setCell ⟨p, 25, none⟩ (.bool v)) p g tk wel v free sh st c := by
  have hsz := H.ks.sz
  refine paStep_cell H 25 (.bool v) (.inr (by omega)) (fun j hj => ?_) ?_ ?_ ?_
  · rw [Array.getElem?_setIfInBounds_ne (by omega)]; exact H.ks.ag j hj
  · rw [Array.getElem?_setIfInBounds_ne (by omega)]; exact H.ks.at'
  · rw [Array.getElem?_setIfInBounds_ne (by omega)]; exact H.ks.aw
  · have : 25 < c.arr.size := by omega
    simp [this]
theorem paStep_wel (H : PaAt w p g tk wel fen free sh st c) (v : Bool) : PaStep w (w.setCell ⟨p, 24, none⟩ (.bool v)) p g tk v fen free sh st c := by
  have hsz := H.ks.sz
  refine paStep_cell H 24 (.bool v) (.inr (by omega)) (fun j hj => ?_) ?_ ?_ ?_
  · rw [Array.getElem?_setIfInBounds_ne (by omega)]; exact H.ks.ag j hj
  · rw [Array.getElem?_setIfInBounds_ne (by omega)]; exact H.ks.at'
  · have : 24 < c.arr.size := by omega
    simp [this]
  · rw [Array.getElem?_setIfInBounds_ne (by omega)]; exact H.ks.ae
theorem paStep_tick (H : PaAt w p g tk wel fen free sh st c) (v : Nat) : PaStep w (w.setCell ⟨p, 23, none⟩ (.int .i64 v)) p g v wel fen free sh st c := by
  have hsz := H.ks.sz
  refine paStep_cell H 23 (.int .i64 v) (.inr (by omega)) (fun j hj => ?_) ?_ ?_ ?_
  · rw [Array.getElem?_setIfInBounds_ne (by omega)]; exact H.ks.ag j hj
  · have : 23 < c.arr.size := by omega
    simp [this]
  · rw [Array.getElem?_setIfInBounds_ne (by omega)]; exact H.ks.aw
  · rw [Array.getElem?_setIfInBounds_ne (by omega)]; exact H.ks.ae
/-- OnAg speaks of no tick, no welcome, no fence. -/
theorem OnAg.flags {op : Nat} (O : OnAg a op g free sh pl) (tk : Nat) (wel fen : Bool) : OnAg { a with ticks := tk, welcome := wel, fenced := fen } op g free sh pl :=
  ⟨O.ep, O.bs, O.pn, O.kp, O.sn, O.si, O.hd, O.hu, O.hl, O.nd, O.lt, O.sum⟩

set_option maxRecDepth 100000 in
set_option maxHeartbeats 2000000 in
theorem obeyReset_any (H : PaAt w p g a.ticks a.welcome a.fenced free sh st c) (hs : Sound st) (O : OnAg a st.opening g free sh pl) (e : Nat) (s q : Int) (b : ByteArray) :
    Calls Tryz.prog 106 #[ptrTo p, .agg #[.int .i64 5, .int .i64 e, .int .i64 s, .int .i64 q, .string b]] w fun r z => r = .returned (.int .i64 0) ∧ AgIs w z p (a.deliver 5 e s q b) c := by
  have hpl := lt_of_block H.ks.blk
  have HEP := fun z (hz : Below w.heap.size w z) => hide (agEpoch_any (H.below hz))
  obtain ⟨ep, hep⟩ : ∃ ep, ep = a.epoch := ⟨_, rfl⟩
  have hop : st.opening = ep := by rw [hep]; exact O.ep
  rw [hop] at HEP
  have hd : a.deliver 5 e s q b = if ep < e then { a with fenced := true } else if e = ep then { a with welcome := false } else a := by
    unfold Mod.Ag.deliver
    rw [← hep]
    by_cases h1 : ep < e
    · rw [if_pos ⟨rfl, by omega⟩, if_pos h1]
    · rw [if_neg (by omega), if_neg h1]
      by_cases h2 : e = ep
      · rw [if_neg (by omega), if_pos rfl, if_pos h2]
      · rw [if_pos (by omega), if_neg h2]
  obtain ⟨a2, ha2⟩ : ∃ a2, a2 = a.deliver 5 e s q b := ⟨_, rfl⟩
  rw [← ha2] at hd ⊢
  have DD := hide (boxAt_new w #[.int .i64 5, .int .i64 e, .int .i64 s, .int .i64 q, .string b])
  have HH := hide (And.intro H (And.intro hs O))
  have HD := hide hd
  clear H hs O hop hep ha2 hd
  unfold ptrTo at *
  go_enter Tryz.func106, Tryz.ntmps106
  go_upto_region 1 with fail
  refine wp_world (BoxAt w #[.int .i64 5, .int .i64 e, .int .i64 s, .int .i64 q, .string b]) (unhide DD) ?_
  clear DD
  intro x X
  have y1 := blk_cell (i := 1) X.box
  simp at y1
  have HE1 := fun n => hide (unhide (HEP (x.drewN n) (X.drewN n).bel))
  have HX := hide X
  clear X
  have K := (unhide HH).1.below (unhide HX).bel
  have d25 : ∀ n, (x.drewN n).cell? ⟨p, 25, none⟩ = some (.bool a.fenced) := fun n => by show x.cell? _ = _; rw [blk_cell K.ks.blk, K.ks.ae]
  have f25 : ∀ n, (x.drewN n).frozen? ⟨p, 25, none⟩ = false := fun n => blk_free (w := x) (i := 25) K.ks.blk
  have HD5 := hide (And.intro d25 f25)
  have hQ : ∀ n, Below w.heap.size w (x.drewN n) := fun n => ((unhide HX).drewN n).bel
  have HQ := hide hQ
  clear K d25 f25 hQ
  by_cases h1 : ep < e
  · have h1' : (ep : Int) < (e : Int) := by omega
    go_quiet (first | (go_at_call 66; exact Calls.quiet_of_same (unhide (HE1 _))))
    have d := (unhide HD5).1 nq
    have f := (unhide HD5).2 nq
    go_wp2
    go_ret
    refine ⟨rfl, ?_⟩
    rw [unhide HD, if_pos h1]
    exact ⟨g, free, sh, pl, st, (paStep_fen ((unhide HH).1.below ((unhide HQ) nq)) true).behind ((unhide HQ) nq), (unhide HH).2.1, (unhide HH).2.2.flags a.ticks a.welcome true⟩
  · have h1' : ¬ (ep : Int) < (e : Int) := by omega
    go_quiet (first | (go_at_call 66; exact Calls.quiet_of_same (unhide (HE1 _))))
    go_upto_region 3 with fail
    refine wp_world (BoxAt w #[.int .i64 5, .int .i64 e, .int .i64 s, .int .i64 q, .string b]) ((unhide HX).drewN _) ?_
    clear HX y1 HE1 HD5 HQ
    intro x X
    have y1 := blk_cell (i := 1) X.box
    simp at y1
    have HE1 := fun n => hide (unhide (HEP (x.drewN n) (X.drewN n).bel))
    have K := (unhide HH).1.below X.bel
    have d24 : ∀ n, (x.drewN n).cell? ⟨p, 24, none⟩ = some (.bool a.welcome) := fun n => by show x.cell? _ = _; rw [blk_cell K.ks.blk, K.ks.aw]
    have f24 : ∀ n, (x.drewN n).frozen? ⟨p, 24, none⟩ = false := fun n => blk_free (w := x) (i := 24) K.ks.blk
    have hQ : ∀ n, Below w.heap.size w (x.drewN n) := fun n => (X.drewN n).bel
    have HQ := hide hQ
    have HD5 := hide (And.intro d24 f24)
    clear K d24 f24 X hQ
    by_cases h2 : e = ep
    · have h2' : ((e : Int) == (ep : Int)) = true := by simp [h2]
      go_quiet (first | (go_at_call 66; exact Calls.quiet_of_same (unhide (HE1 _))))
      have d := (unhide HD5).1 nq
      have f := (unhide HD5).2 nq
      go_wp2
      go_ret
      refine ⟨rfl, ?_⟩
      rw [unhide HD, if_neg h1, if_pos h2]
      exact ⟨g, free, sh, pl, st, (paStep_wel ((unhide HH).1.below ((unhide HQ) nq)) false).behind ((unhide HQ) nq), (unhide HH).2.1, (unhide HH).2.2.flags a.ticks false a.fenced⟩
    · have h2' : ((e : Int) == (ep : Int)) = false := by simp; omega
      go_quiet (first | (go_at_call 66; exact Calls.quiet_of_same (unhide (HE1 _))))
      go_wp2
      go_ret
      refine ⟨rfl, ?_⟩
      rw [unhide HD, if_neg h1, if_neg h2]
      exact (agIs_refl (unhide HH).1 (unhide HH).2.1 (unhide HH).2.2).below ((unhide HQ) nq)
end
end Go.Proofs.YtamafdcnbcoegaaGreat
namespace Go.Proofs.YtamafdcnbcoegaaGreat
open Go.RowKit
def clr (sh : Nat → List (Nat × Value)) (j : Nat) (t : Nat) : List (Nat × Value) := if t % 3 ≠ 0 ∧ t < j * 3 then [] else sh t
theorem clr_zero (sh : Nat → List (Nat × Value)) : clr sh 0 = sh := by funext t; unfold clr; rw [if_neg (by omega)]
theorem clr_next (sh : Nat → List (Nat × Value)) (j : Nat) : (fun t => if t = j * 3 + 2 then ([] : List (Nat × Value)) else (fun t => if t = j * 3 + 1 then [] else clr sh j t) t) = clr sh (j + 1) := by
  funext t
  unfold clr
  by_cases h1 : t = j * 3 + 2
  · rw [if_pos h1, if_pos (by omega)]
  · rw [if_neg h1]
    show (if t = j * 3 + 1 then ([] : List (Nat × Value)) else _) = _
    by_cases h2 : t = j * 3 + 1
    · rw [if_pos h2, if_pos (by omega)]
    · rw [if_neg h2]
      by_cases h3 : t % 3 ≠ 0 ∧ t < j * 3
      · rw [if_pos h3, if_pos (by omega)]
      · rw [if_neg h3, if_neg (by omega)]
section
variable {w : World} {p : Nat} {g : Nat → Nat} {free : List Nat} {sh : Nat → List (Nat × Value)} {st : Mod.Stv} {c : Av} {a : Mod.Ag} {op : Nat} {pl : Nat → List Nat}
theorem onAg_fresh (O : OnAg a op g free sh pl) : OnAg { a with welcome := true, fl := Mod.fresh a.fl 3 } op g free (clr sh 3) pl := by
  have hfl : ∀ i, i < 3 → Mod.fresh a.fl 3 i = { a.fl i with kept := (a.fl i).kept.map fun r => (r.1, 0), held := [] } := fun i hi => by unfold Mod.fresh; rw [if_pos hi]
  refine ⟨O.ep, fun i hi => ?_, fun i hi => ?_, fun i hi => ?_, fun i hi n => ?_, fun i hi => ?_, fun i hi n => ?_, fun i hi => ?_, fun i hi => ?_, O.nd, O.lt, ?_⟩
  · show g i = (Mod.fresh a.fl 3 i).base
    rw [hfl i hi]; exact O.bs i hi
  · show (pl i).length = (Mod.fresh a.fl 3 i).kept.length
    rw [hfl i hi]; simpa using O.pn i hi
  · show clr sh 3 (i * 3) = keptL (Mod.fresh a.fl 3 i).base (Mod.fresh a.fl 3 i).kept (pl i)
    unfold clr
    rw [if_neg (by omega), hfl i hi, O.kp i hi]
    exact keptL_same _ _ _ _ (by simp)
  · show look (clr sh 3 (i * 3 + 1)) _ = sentF (Mod.fresh a.fl 3 i) n
    unfold clr
    rw [if_pos (by omega), hfl i hi]
    unfold sentF
    simp only
    split
    · rfl
    · cases h : ((a.fl i).kept.map fun r => (r.1, 0))[n - (a.fl i).base - 1]? with
      | none => rfl
      | some x =>
        rw [List.getElem?_map] at h
        cases hk : (a.fl i).kept[n - (a.fl i).base - 1]? with
        | none => rw [hk] at h; cases h
        | some y => rw [hk] at h; cases h; rfl
  · show AreI (clr sh 3 (i * 3 + 1))
    unfold clr
    rw [if_pos (by omega)]
    intro x hx; cases hx
  · show (look (clr sh 3 (i * 3 + 2)) _).isSome = (Mod.fresh a.fl 3 i).held.contains n
    unfold clr
    rw [if_pos (by omega), hfl i hi]
    rfl
  · show AreU (clr sh 3 (i * 3 + 2))
    unfold clr
    rw [if_pos (by omega)]
    intro x hx; cases hx
  · show (clr sh 3 (i * 3 + 2)).length ≤ 3
    unfold clr
    rw [if_pos (by omega)]
    simp
  · have h := O.sum
    have h2 : Mod.Ag.room { a with welcome := true, fl := Mod.fresh a.fl 3 } = a.room := by
      simp [Mod.Ag.room, Mod.fresh]
    rw [h2]
    exact h
theorem wel_max (b l : Nat) (n : Int) : max (b : Int) (min n ((b + l : Nat) : Int)) = ((b + min (n - b).toNat l : Nat) : Int) := by omega
set_option maxRecDepth 100000 in
set_option maxHeartbeats 4000000 in
theorem obeyWelcome_no (H : PaAt w p g a.ticks a.welcome a.fenced free sh st c) (O : OnAg a st.opening g free sh pl) (e : Nat) (s q : Int) (b : ByteArray) (he : e ≠ a.epoch) :
    Calls Tryz.prog 104 #[ptrTo p, .agg #[.int .i64 2, .int .i64 e, .int .i64 s, .int .i64 q, .string b]] w fun r z => r = .returned (.int .i64 0) ∧ Below w.heap.size w z := by
  have HEP := fun z (hz : Below w.heap.size w z) => hide (agEpoch_any (H.below hz))
  obtain ⟨ep, hep⟩ : ∃ ep, ep = a.epoch := ⟨_, rfl⟩
  have hop : st.opening = ep := by rw [hep]; exact O.ep
  rw [hop] at HEP
  rw [← hep] at he
  have DD := hide (boxAt_new w #[.int .i64 2, .int .i64 e, .int .i64 s, .int .i64 q, .string b])
  have hne : ((e : Int) != (ep : Int)) = true := by simp; omega
  clear H O hop hep
  unfold ptrTo at *
  go_enter Tryz.func104, Tryz.ntmps104
  go_upto_region 1 with fail
  refine wp_world (BoxAt w #[.int .i64 2, .int .i64 e, .int .i64 s, .int .i64 q, .string b]) (unhide DD) ?_
  clear DD
  intro x X
  have y1 := blk_cell (i := 1) X.box
  simp at y1
  have HE1 := fun n => hide (unhide (HEP (x.drewN n) (X.drewN n).bel))
  have HX := hide X
  clear X
  go_quiet (first | (go_at_call 66; exact Calls.quiet_of_same (unhide (HE1 _))))
  go_wp2
  go_ret
  exact ⟨rfl, ((unhide HX).drewN _).bel⟩

set_option maxRecDepth 100000 in
set_option maxHeartbeats 8000000 in
theorem obeyWelcome_yes (H : PaAt w p g a.ticks a.welcome a.fenced free sh st c) (hs : Sound st) (O : OnAg a st.opening g free sh pl) (e : Nat) (s q : Int) (b : ByteArray) (he : e = a.epoch) (h12 : b.size = 12) (hbnd : ∀ i, i < 3 → (a.fl i).base + (a.fl i).kept.length < 4294967296) :
    Calls Tryz.prog 104 #[ptrTo p, .agg #[.int .i64 2, .int .i64 e, .int .i64 s, .int .i64 q, .string b]] w fun r z => r = .returned (.int .i64 0) ∧ AgIs w z p (a.deliver 2 e s q b) c := by
  have hpl := lt_of_block H.ks.blk
  have HEP := fun z (hz : Below w.heap.size w z) => hide (agEpoch_any (H.below hz))
  obtain ⟨n, hn⟩ : ∃ n, n = a.says 2 e s q b := ⟨_, rfl⟩
  have hd : a.deliver 2 e s q b = { a.drop n with welcome := true, fl := Mod.fresh (a.drop n).fl 3 } := by
    unfold Mod.Ag.deliver
    rw [if_neg (by omega), if_neg (by omega), if_neg (by omega), if_pos rfl, hn]
  have hnl : ∀ i, i < 3 → n i ≤ (a.fl i).kept.length := fun i _ => by rw [hn]; exact says_le _ _ _ _ _ _ _
  have hni : ∀ i, n i = min (Wire.numAt b.data.toList (4 * i) - (a.fl i).base).toNat (a.fl i).kept.length := fun i => by
    rw [hn]
    unfold Mod.Ag.says
    rw [if_neg (by omega), if_pos rfl]
    rfl
  obtain ⟨X, hX⟩ : ∃ X : Nat → Nat, X = fun i => (a.fl i).base + n i := ⟨_, rfl⟩
  have hmx : ∀ i, max ((a.fl i).base : Int) (min (Wire.numAt b.data.toList (4 * i)) (((a.fl i).base + (a.fl i).kept.length : Nat) : Int)) = (X i : Int) := fun i => by
    rw [wel_max, hX]
    show _ = (((a.fl i).base + n i : Nat) : Int)
    rw [hni i]
  have hLG := fun z (hz : Below w.heap.size w z) => letGo_any (H.below hz) hs O n X hnl (fun i _ => by rw [hX]) (fun i hi => by have := hbnd i hi; have := hnl i hi; rw [hX]; show (a.fl i).base + n i < _; omega)
  have hCM := fun z => Committed_any b z h12
  have hLs := fun i (hi : i < 3) z (hz : Below w.heap.size w z) => agLast_any (H.below hz) O hi (O.bs i hi)
  have q0 : w.cell? ⟨p, 1, none⟩ = some (.int .i64 (a.fl 0).base) := by rw [blk_cell H.ks.blk, ← O.bs 0 (by omega)]; exact H.ks.ag 0 (by omega)
  have q1 : w.cell? ⟨p, 2, none⟩ = some (.int .i64 (a.fl 1).base) := by rw [blk_cell H.ks.blk, ← O.bs 1 (by omega)]; exact H.ks.ag 1 (by omega)
  have q2 : w.cell? ⟨p, 3, none⟩ = some (.int .i64 (a.fl 2).base) := by rw [blk_cell H.ks.blk, ← O.bs 2 (by omega)]; exact H.ks.ag 2 (by omega)
  have HL0 := fun z hz => hide (hLs 0 (by omega) z hz)
  have HL1 := fun z hz => hide (hLs 1 (by omega) z hz)
  have HL2 := fun z hz => hide (hLs 2 (by omega) z hz)
  have m0 := hmx 0
  have m1 := hmx 1
  have m2 := hmx 2
  simp only [Nat.mul_zero, Nat.mul_one, show 4 * 2 = 8 from rfl] at m0 m1 m2
  have HCM := fun z => hide (hCM z)
  generalize Wire.numAt b.data.toList 0 = n0 at *
  generalize Wire.numAt b.data.toList 4 = n1 at *
  generalize Wire.numAt b.data.toList 8 = n2 at *
  have HLG := fun z hz => hide (hLG z hz)
  obtain ⟨x0, hx0⟩ : ∃ x, x = X 0 := ⟨_, rfl⟩
  obtain ⟨x1, hx1⟩ : ∃ x, x = X 1 := ⟨_, rfl⟩
  obtain ⟨x2, hx2⟩ : ∃ x, x = X 2 := ⟨_, rfl⟩
  rw [← hx0] at m0
  rw [← hx1] at m1
  rw [← hx2] at m2
  rw [← hx0, ← hx1, ← hx2] at HLG
  obtain ⟨b0, hb0⟩ : ∃ v, v = (a.fl 0).base + (a.fl 0).kept.length := ⟨_, rfl⟩
  obtain ⟨b1, hb1⟩ : ∃ v, v = (a.fl 1).base + (a.fl 1).kept.length := ⟨_, rfl⟩
  obtain ⟨b2, hb2⟩ : ∃ v, v = (a.fl 2).base + (a.fl 2).kept.length := ⟨_, rfl⟩
  rw [← hb0] at m0 HL0
  rw [← hb1] at m1 HL1
  rw [← hb2] at m2 HL2
  obtain ⟨g0, hg0⟩ : ∃ v, v = (a.fl 0).base := ⟨_, rfl⟩
  obtain ⟨g1, hg1⟩ : ∃ v, v = (a.fl 1).base := ⟨_, rfl⟩
  obtain ⟨g2, hg2⟩ : ∃ v, v = (a.fl 2).base := ⟨_, rfl⟩
  rw [← hg0] at m0 q0
  rw [← hg1] at m1 q1
  rw [← hg2] at m2 q2
  simp only [show ((0 : Nat) : Int) = 0 from rfl, show ((1 : Nat) : Int) = 1 from rfl, show ((2 : Nat) : Int) = 2 from rfl] at HL0 HL1 HL2
  obtain ⟨ep, hep⟩ : ∃ ep, ep = a.epoch := ⟨_, rfl⟩
  have hop : st.opening = ep := by rw [hep]; exact O.ep
  rw [hop] at HEP
  have hne : ((e : Int) != (ep : Int)) = false := by simp; omega
  obtain ⟨a2, ha2⟩ : ∃ a2, a2 = a.deliver 2 e s q b := ⟨_, rfl⟩
  rw [← ha2] at hd ⊢
  obtain ⟨a1, ha1⟩ : ∃ a1, a1 = a.drop n := ⟨_, rfl⟩
  rw [← ha1] at hd HLG
  have HD := hide hd
  have DD := hide (boxAt_new w #[.int .i64 2, .int .i64 e, .int .i64 s, .int .i64 q, .string b])
  have i0 : ∀ w : World, (Instr.index 98 (.agg #[.int .i64 n0, .int .i64 n1, .int .i64 n2]) (.int .i64 0)).run Tryz.prog w = .ok (.int .i64 n0) w := fun _ => by kernel_rfl
  have i1 : ∀ w : World, (Instr.index 98 (.agg #[.int .i64 n0, .int .i64 n1, .int .i64 n2]) (.int .i64 1)).run Tryz.prog w = .ok (.int .i64 n1) w := fun _ => by kernel_rfl
  have i2 : ∀ w : World, (Instr.index 98 (.agg #[.int .i64 n0, .int .i64 n1, .int .i64 n2]) (.int .i64 2)).run Tryz.prog w = .ok (.int .i64 n2) w := fun _ => by kernel_rfl
  clear H O hs hn hd hnl hni hX hmx hLG hCM hLs hx0 hx1 hx2 hb0 hb1 hb2 hg0 hg1 hg2 hop hep ha2 ha1 he h12 hbnd
  unfold ptrTo at *
  go_enter Tryz.func104, Tryz.ntmps104
  go_upto_region 1 with fail
  refine wp_world (BoxAt w #[.int .i64 2, .int .i64 e, .int .i64 s, .int .i64 q, .string b]) (unhide DD) ?_
  clear DD
  intro x X9
  have y1 := blk_cell (i := 1) X9.box
  simp at y1
  have HE1 := fun n => hide (unhide (HEP (x.drewN n) (X9.drewN n).bel))
  have HX := hide X9
  clear X9
  go_quiet (first | (go_at_call 66; exact Calls.quiet_of_same (unhide (HE1 _))))
  go_upto_region 3 with fail
  refine wp_world (BoxAt w #[.int .i64 2, .int .i64 e, .int .i64 s, .int .i64 q, .string b]) ((unhide HX).drewN _) ?_
  clear HX y1 HE1
  intro x X9
  have y4 := blk_cell (i := 4) X9.box
  simp at y4
  have d0 := (X9.bel.cell (p := ⟨p, 1, none⟩) hpl).trans q0
  have d1 := (X9.bel.cell (p := ⟨p, 2, none⟩) hpl).trans q1
  have d2 := (X9.bel.cell (p := ⟨p, 3, none⟩) hpl).trans q2
  have hxl := X9.lt
  have HX := hide X9
  clear X9 q0 q1 q2
  go_upto_region 4 with fail
  obtain ⟨g5, hg5⟩ : ∃ g5, g5 = x.heap.size := ⟨_, rfl⟩
  have HG5 := hide hg5
  have hg5w : w.heap.size ≤ g5 := by have := (unhide HX).bel.size; omega
  rw [← hg5]
  have hpg5 : ¬ w.heap.size = g5 := by omega
  clear hg5
  refine wp_world (fun y => y.heap[g5]? = some (.cells #[.int .i64 g0, .int .i64 g1, .int .i64 g2] 136 (0, 0)) ∧ BoxAt w #[.int .i64 2, .int .i64 e, .int .i64 s, .int .i64 q, .string b] y) ?_ ?_
  · rw [unhide HG5]
    exact ⟨heap_alloc_new _ _, (unhide HX).below ((Below.refl _ _).alloc (Nat.le_refl _) _)⟩
  clear HX HG5 y4 d0 d1 d2 hxl
  rintro y ⟨h5, X9⟩
  have y4 := blk_cell (i := 4) X9.box
  simp at y4
  have HY := hide (And.intro h5 X9)
  clear h5 X9
  go_upto_region 5 with (go_at_call 151; refine (unhide (HCM _)).mono ?_; rintro r z ⟨rfl, hb⟩)
  have h5z := (hb.block _ (lt_of_block (unhide HY).1)).trans (unhide HY).1
  have hbz := (unhide HY).2.bel.trans (hb.mono (unhide HY).2.bel.size)
  have HZ := hide (And.intro h5z hbz)
  clear hb h5z hbz HY y4
  go_loopw [6, 7, 22] (fun _ _ i wr => ∃ j : Nat, j ≤ 3 ∧ i = .int .i64 j ∧ wr.heap[g5]? = some (.cells #[.int .i64 (if 0 < j then x0 else g0 : Nat), .int .i64 (if 1 < j then x1 else g1 : Nat), .int .i64 (if 2 < j then x2 else g2 : Nat)] 136 (0, 0)) ∧ Below w.heap.size w wr) (fun _ _ i _ => 3 - (intOf i).toNat)
  case atStart =>
    obtain ⟨h1, h2⟩ := unhide HZ
    exact ⟨0, by omega, rfl, by simpa using h1, h2⟩
  case round =>
    obtain ⟨j, hj, rfl, h5, hbw⟩ := hrel
    clear HZ
    have e0 := blk_cell (i := 0) h5
    have e1 := blk_cell (i := 1) h5
    have e2 := blk_cell (i := 2) h5
    have h5l := lt_of_block h5
    have H5 := hide h5
    have HBW := hide hbw
    clear h5 hbw
    rcases (show j = 0 ∨ j = 1 ∨ j = 2 ∨ j = 3 by omega) with rfl | rfl | rfl | rfl
    · simp at e0
      go_wp2_with fail
      refine wp_region_last (by kernel_rfl)
        [fun v _ => v = .int .i64 0, fun v _ => v = .int .i64 0, fun v _ => v = .pointer (some ⟨g5, 0, none⟩), fun v _ => v = .int .i64 g0, fun v _ => v = .int .i64 n0, fun v _ => v = .pointer (some ⟨p, 0, none⟩), fun v _ => v = .int .i64 0, fun v _ => v = .int .i64 b0, fun v _ => v = .int .i64 (min n0 (b0 : Int)), fun v _ => v = .int .i64 x0, fun v _ => v = .pointer (some ⟨g5, 0, none⟩), fun _ _ => True]
        [[(6, none)], [(6, none)], [(5, none), (27, some 1)], [(28, some 2)], [(7, none)], [(0, none)], [(6, none)], [(31, some 5), (32, some 6)], [(30, some 4), (33, some 7)], [(29, some 3), (34, some 8)], [(5, none), (26, some 0)], [(36, some 10), (35, some 9)]] [some 26, some 27, some 28, some 29, some 30, some 31, some 32, some 33, some 34, some 35, some 36, none] [false, false, false, false, false, false, false, false, false, false, false, false, false, false, false, false, false, false, false, false, false, false, false, false, false, false, true, true, true, true, true, true, true, true, true, true, true, false, false, false, false, false, false, false, false, false, false, false, false, false, false, false, false, false, false, false, false, false, false, false, false, false, false, false, false]
        11 _ rfl rfl (by kernel_rfl) (by kernel_rfl) (by kernel_rfl) (by kernel_rfl) (by kernel_rfl) (by kernel_rfl) ?_ ?_ ?_
      · repeat' (first | exact stable_eq _ | exact stable_true | exact trivial | apply And.intro)
      · refine ⟨?_, ?_, ?_, ?_, ?_, ?_, ?_, ?_, ?_, ?_, ?_, trivial⟩
        all_goals
          intro a' z hb hf
          have d0 := (hb.cell (p := ⟨g5, 0, none⟩) h5l).trans e0
          have HL := hide (unhide (HL0 z ((unhide HBW).trans (hb.mono (unhide HBW).size))))
          clear hb
          simp only [PlanFacts, List.getD_cons_zero, List.getD_cons_succ, Array.getD_eq_getD_getElem?] at hf
          try simp at hf
          go_simp
          try exact ⟨_, rfl, Below.refl _ _, rfl⟩
          try exact Below.refl _ _
        all_goals first
          | (refine (unhide HL).mono ?_; rintro r z2 ⟨rfl, q, rfl⟩; exact ⟨rfl, below_drewN (Below.refl _ _) q⟩)
          | (refine (unhide HL).mono ?_; rintro r z2 ⟨rfl, q, rfl⟩; exact ⟨_, rfl, below_drewN (Below.refl _ _) q, rfl⟩)
          | skip
      · intro f z hby hwd
        simp only [AllWords, List.take] at hwd
        have q9 := hwd.2.2.2.2.2.2.2.2.2.1
        have q10 := hwd.2.2.2.2.2.2.2.2.2.2.1
        clear hwd
        have z5 := (hby.block _ h5l).trans (unhide H5)
        have d0 := (hby.cell (p := ⟨g5, 0, none⟩) h5l).trans e0
        have f0 := blk_free (i := 0) z5
        have HZ5 := hide z5
        have HBZ := hide ((unhide HBW).trans (hby.mono (unhide HBW).size))
        clear hby z5
        simp only [mergeT, q9, q10]
        generalize f 26 = v26
        generalize f 27 = v27
        generalize f 28 = v28
        generalize f 29 = v29
        generalize f 30 = v30
        generalize f 31 = v31
        generalize f 32 = v32
        generalize f 33 = v33
        generalize f 34 = v34
        go_simp
        go_wp2
        refine ⟨⟨1, by omega, by go_num, ?_, ?_⟩, by simp [intOf]⟩
        · have := blk_set (j := 0) (v := .int .i64 x0) (unhide HZ5)
          simpa using this
        · exact (unhide HBZ).setCell (p := ⟨g5, 0, none⟩) hg5w _
    · simp at e1
      go_wp2_with fail
      refine wp_region_last (by kernel_rfl)
        [fun v _ => v = .int .i64 1, fun v _ => v = .int .i64 1, fun v _ => v = .pointer (some ⟨g5, 1, none⟩), fun v _ => v = .int .i64 g1, fun v _ => v = .int .i64 n1, fun v _ => v = .pointer (some ⟨p, 0, none⟩), fun v _ => v = .int .i64 1, fun v _ => v = .int .i64 b1, fun v _ => v = .int .i64 (min n1 (b1 : Int)), fun v _ => v = .int .i64 x1, fun v _ => v = .pointer (some ⟨g5, 1, none⟩), fun _ _ => True]
        [[(6, none)], [(6, none)], [(5, none), (27, some 1)], [(28, some 2)], [(7, none)], [(0, none)], [(6, none)], [(31, some 5), (32, some 6)], [(30, some 4), (33, some 7)], [(29, some 3), (34, some 8)], [(5, none), (26, some 0)], [(36, some 10), (35, some 9)]] [some 26, some 27, some 28, some 29, some 30, some 31, some 32, some 33, some 34, some 35, some 36, none] [false, false, false, false, false, false, false, false, false, false, false, false, false, false, false, false, false, false, false, false, false, false, false, false, false, false, true, true, true, true, true, true, true, true, true, true, true, false, false, false, false, false, false, false, false, false, false, false, false, false, false, false, false, false, false, false, false, false, false, false, false, false, false, false, false]
        11 _ rfl rfl (by kernel_rfl) (by kernel_rfl) (by kernel_rfl) (by kernel_rfl) (by kernel_rfl) (by kernel_rfl) ?_ ?_ ?_
      · repeat' (first | exact stable_eq _ | exact stable_true | exact trivial | apply And.intro)
      · refine ⟨?_, ?_, ?_, ?_, ?_, ?_, ?_, ?_, ?_, ?_, ?_, trivial⟩
        all_goals
          intro a' z hb hf
          have d1 := (hb.cell (p := ⟨g5, 1, none⟩) h5l).trans e1
          have HL := hide (unhide (HL1 z ((unhide HBW).trans (hb.mono (unhide HBW).size))))
          clear hb
          simp only [PlanFacts, List.getD_cons_zero, List.getD_cons_succ, Array.getD_eq_getD_getElem?] at hf
          try simp at hf
          go_simp
          try exact ⟨_, rfl, Below.refl _ _, rfl⟩
          try exact Below.refl _ _
        all_goals first
          | (refine (unhide HL).mono ?_; rintro r z2 ⟨rfl, q, rfl⟩; exact ⟨rfl, below_drewN (Below.refl _ _) q⟩)
          | (refine (unhide HL).mono ?_; rintro r z2 ⟨rfl, q, rfl⟩; exact ⟨_, rfl, below_drewN (Below.refl _ _) q, rfl⟩)
          | skip
      · intro f z hby hwd
        simp only [AllWords, List.take] at hwd
        have q9 := hwd.2.2.2.2.2.2.2.2.2.1
        have q10 := hwd.2.2.2.2.2.2.2.2.2.2.1
        clear hwd
        have z5 := (hby.block _ h5l).trans (unhide H5)
        have d1 := (hby.cell (p := ⟨g5, 1, none⟩) h5l).trans e1
        have f1 := blk_free (i := 1) z5
        have HZ5 := hide z5
        have HBZ := hide ((unhide HBW).trans (hby.mono (unhide HBW).size))
        clear hby z5
        simp only [mergeT, q9, q10]
        generalize f 26 = v26
        generalize f 27 = v27
        generalize f 28 = v28
        generalize f 29 = v29
        generalize f 30 = v30
        generalize f 31 = v31
        generalize f 32 = v32
        generalize f 33 = v33
        generalize f 34 = v34
        go_simp
        go_wp2
        refine ⟨⟨2, by omega, by go_num, ?_, ?_⟩, by simp [intOf]⟩
        · have := blk_set (j := 1) (v := .int .i64 x1) (unhide HZ5)
          simpa using this
        · exact (unhide HBZ).setCell (p := ⟨g5, 1, none⟩) hg5w _
    · simp at e2
      go_wp2_with fail
      refine wp_region_last (by kernel_rfl)
        [fun v _ => v = .int .i64 2, fun v _ => v = .int .i64 2, fun v _ => v = .pointer (some ⟨g5, 2, none⟩), fun v _ => v = .int .i64 g2, fun v _ => v = .int .i64 n2, fun v _ => v = .pointer (some ⟨p, 0, none⟩), fun v _ => v = .int .i64 2, fun v _ => v = .int .i64 b2, fun v _ => v = .int .i64 (min n2 (b2 : Int)), fun v _ => v = .int .i64 x2, fun v _ => v = .pointer (some ⟨g5, 2, none⟩), fun _ _ => True]
        [[(6, none)], [(6, none)], [(5, none), (27, some 1)], [(28, some 2)], [(7, none)], [(0, none)], [(6, none)], [(31, some 5), (32, some 6)], [(30, some 4), (33, some 7)], [(29, some 3), (34, some 8)], [(5, none), (26, some 0)], [(36, some 10), (35, some 9)]] [some 26, some 27, some 28, some 29, some 30, some 31, some 32, some 33, some 34, some 35, some 36, none] [false, false, false, false, false, false, false, false, false, false, false, false, false, false, false, false, false, false, false, false, false, false, false, false, false, false, true, true, true, true, true, true, true, true, true, true, true, false, false, false, false, false, false, false, false, false, false, false, false, false, false, false, false, false, false, false, false, false, false, false, false, false, false, false, false]
        11 _ rfl rfl (by kernel_rfl) (by kernel_rfl) (by kernel_rfl) (by kernel_rfl) (by kernel_rfl) (by kernel_rfl) ?_ ?_ ?_
      · repeat' (first | exact stable_eq _ | exact stable_true | exact trivial | apply And.intro)
      · refine ⟨?_, ?_, ?_, ?_, ?_, ?_, ?_, ?_, ?_, ?_, ?_, trivial⟩
        all_goals
          intro a' z hb hf
          have d2 := (hb.cell (p := ⟨g5, 2, none⟩) h5l).trans e2
          have HL := hide (unhide (HL2 z ((unhide HBW).trans (hb.mono (unhide HBW).size))))
          clear hb
          simp only [PlanFacts, List.getD_cons_zero, List.getD_cons_succ, Array.getD_eq_getD_getElem?] at hf
          try simp at hf
          go_simp
          try exact ⟨_, rfl, Below.refl _ _, rfl⟩
          try exact Below.refl _ _
        all_goals first
          | (refine (unhide HL).mono ?_; rintro r z2 ⟨rfl, q, rfl⟩; exact ⟨rfl, below_drewN (Below.refl _ _) q⟩)
          | (refine (unhide HL).mono ?_; rintro r z2 ⟨rfl, q, rfl⟩; exact ⟨_, rfl, below_drewN (Below.refl _ _) q, rfl⟩)
          | skip
      · intro f z hby hwd
        simp only [AllWords, List.take] at hwd
        have q9 := hwd.2.2.2.2.2.2.2.2.2.1
        have q10 := hwd.2.2.2.2.2.2.2.2.2.2.1
        clear hwd
        have z5 := (hby.block _ h5l).trans (unhide H5)
        have d2 := (hby.cell (p := ⟨g5, 2, none⟩) h5l).trans e2
        have f2 := blk_free (i := 2) z5
        have HZ5 := hide z5
        have HBZ := hide ((unhide HBW).trans (hby.mono (unhide HBW).size))
        clear hby z5
        simp only [mergeT, q9, q10]
        generalize f 26 = v26
        generalize f 27 = v27
        generalize f 28 = v28
        generalize f 29 = v29
        generalize f 30 = v30
        generalize f 31 = v31
        generalize f 32 = v32
        generalize f 33 = v33
        generalize f 34 = v34
        go_simp
        go_wp2
        refine ⟨⟨3, by omega, by go_num, ?_, ?_⟩, by simp [intOf]⟩
        · have := blk_set (j := 2) (v := .int .i64 x2) (unhide HZ5)
          simpa using this
        · exact (unhide HBZ).setCell (p := ⟨g5, 2, none⟩) hg5w _
    · simp at e0 e1 e2
      have HLX := hide (unhide (HLG wr (unhide HBW)))
      clear HLG HL0 HL1 HL2 i0 i1 i2 m0 m1 m2
      go_upto_region 12 with (go_at_call 152; refine (unhide HLX).mono ?_; rintro r y ⟨rfl, hag⟩)
      obtain ⟨gg, fr1, sh1, pl1, st1, hP1, hs1, hO1⟩ := hag
      have HP1 := hide (hP1.behind (unhide HBW))
      have HO1 := hide (And.intro hs1 hO1)
      clear hP1 hs1 hO1 HLX e0 e1 e2 H5
      go_wp2
      go_loopw [9, 44] (fun _ i wr => ∃ j : Nat, j ≤ 3 ∧ i = .int .i64 j ∧ PaStep w wr p gg a1.ticks a1.welcome a1.fenced fr1 (clr sh1 j) st1 c) (fun _ i _ => 3 - (intOf i).toNat)
      case atStart => exact ⟨0, by omega, rfl, by rw [clr_zero]; exact unhide HP1⟩
      case round =>
        obtain ⟨j, hj, rfl, hP⟩ := hrel
        clear HP1
        by_cases hlt : j < 3
        · obtain ⟨c1, K1, F1, N1, t1, t2⟩ := hP
          have hC1 := clearI_any (K1.shAt (i := j * 3 + 1) (by omega))
          rw [show 4 + (j * 3 + 1) * 2 = 4 + j * 6 + 2 by omega] at hC1
          have HC1 := hide hC1
          have HK1 := hide (And.intro K1 (And.intro F1 (And.intro N1 (And.intro t1 t2))))
          have hj0 : (0 : Int) ≤ (j : Int) := by omega
          have hj3 : (j : Int) < 3 := by omega
          clear K1 F1 N1 t1 t2 hC1
          go_upto_region 16 with (go_at_call 153; refine (unhide HC1).mono ?_; rintro r y ⟨rfl, hst⟩)
          obtain ⟨K1, F1, N1, t1, t2⟩ := unhide HK1
          have hst2 : ShStep wr y p (4 + (j * 3 + 1) * 2) 151 c1.arr (c1.nv (j * 3 + 1)) (c1.mv (j * 3 + 1)) [] := by rw [show 4 + (j * 3 + 1) * 2 = 4 + j * 6 + 2 by omega]; exact hst
          obtain ⟨c2, K2, F2, N2, s1, s2⟩ := paAfter F1 N1 t1 t2 (paStep_sh K1 (i := j * 3 + 1) (by omega) hst2)
          have hC2 := clearU_any (K2.shAt (i := j * 3 + 2) (by omega))
          rw [show 4 + (j * 3 + 2) * 2 = 4 + j * 6 + 4 by omega] at hC2
          have HC2 := hide hC2
          have HK2 := hide (And.intro K2 (And.intro F2 (And.intro N2 (And.intro s1 s2))))
          clear K1 F1 N1 t1 t2 K2 F2 N2 s1 s2 hC2 hst hst2 HK1 HC1
          go_wp2_with (go_at_call 154; refine (unhide HC2).mono ?_; rintro r z ⟨rfl, hst⟩)
          obtain ⟨K2, F2, N2, s1, s2⟩ := unhide HK2
          have hst2 : ShStep y z p (4 + (j * 3 + 2) * 2) 151 c2.arr (c2.nv (j * 3 + 2)) (c2.mv (j * 3 + 2)) [] := by rw [show 4 + (j * 3 + 2) * 2 = 4 + j * 6 + 4 by omega]; exact hst
          have hP3 := paAfter F2 N2 s1 s2 (paStep_sh K2 (i := j * 3 + 2) (by omega) hst2)
          rw [clr_next] at hP3
          exact ⟨⟨j + 1, by omega, by go_num, hP3⟩, by simp [intOf]; omega⟩
        · obtain rfl : j = 3 := by omega
          obtain ⟨c1, K1, _⟩ := id hP
          have f24 := blk_free (i := 24) K1.ks.blk
          have d24 : wr.cell? ⟨p, 24, none⟩ = some (.bool a1.welcome) := by rw [blk_cell K1.ks.blk, K1.ks.aw]
          have HP := hide (hP.trans (fun c' h => paStep_wel h true))
          clear hP K1
          go_wp2
          go_ret
          refine ⟨rfl, ?_⟩
          rw [unhide HD]
          exact ⟨gg, fr1, clr sh1 3, pl1, st1, unhide HP, (unhide HO1).1, onAg_fresh (unhide HO1).2⟩
end
end Go.Proofs.YtamafdcnbcoegaaGreat
namespace Go.Proofs.YtamafdcnbcoegaaGreat
open Go.RowKit

theorem snoc_ind {P : List Nat → Prop} (h0 : P []) (h1 : ∀ l n, P l → P (l ++ [n])) (l : List Nat) : P l := by
  have H : ∀ (k : Nat) (l : List Nat), l.length = k → P l := by
    intro k
    induction k with
    | zero => intro l hl; rw [List.length_eq_zero_iff.1 hl]; exact h0
    | succ k ih =>
      intro l hl
      rcases List.eq_nil_or_concat l with rfl | ⟨l', n, rfl⟩
      · simp at hl
      · rw [List.concat_eq_append]
        exact h1 _ _ (ih _ (by simpa using hl))
  exact H _ l rfl
theorem heldF_snoc (l : List Nat) (n : Nat) : (l ++ [n]).foldl (fun l n => putL l n recU) [] = putL (l.foldl (fun l n => putL l n recU) []) n recU := by simp
theorem heldF_areU : ∀ (l : List Nat), AreU (l.foldl (fun l n => putL l n recU) []) := by
  refine snoc_ind (fun x hx => by cases hx) (fun l n ih => ?_)
  · rw [heldF_snoc]
    intro x hx
    rcases mem_putL hx with rfl | hx
    · rfl
    · exact ih x hx
theorem heldF_len : ∀ (l : List Nat), (l.foldl (fun l n => putL l n recU) []).length ≤ l.length := by
  refine snoc_ind (by simp) (fun l n ih => ?_)
  · rw [heldF_snoc]
    have := length_putL_le (l.foldl (fun l n => putL l n recU) []) n recU
    simp
    omega
theorem heldF_look : ∀ (l : List Nat) (n : Nat), (look (l.foldl (fun l n => putL l n recU) []) (n : Int)).isSome = l.contains n := by
  refine snoc_ind (fun n => rfl) (fun l m ih => ?_)
  · intro n
    rw [heldF_snoc, look_putL]
    unfold putF
    by_cases h : (n : Int) = (m : Int)
    · have h' : n = m := by omega
      subst h'
      rw [if_pos rfl]
      simp
    · rw [if_neg h, ih n]
      have h' : ¬ n = m := by omega
      simp [h']
section
variable {g : Nat → Nat} {free : List Nat} {sh : Nat → List (Nat × Value)} {a : Mod.Ag} {op : Nat} {pl : Nat → List Nat}
theorem onAg_held (O : OnAg a op g free sh pl) {s : Nat} (hs : s < 3) (l : List Nat) (hl : l.length ≤ 3) :
    OnAg { a with fl := Mod.upd a.fl s { a.fl s with held := l } } op g free (fun t => if t = s * 3 + 2 then l.foldl (fun l n => putL l n recU) [] else sh t) pl := by
  have hfl : ∀ j, Mod.upd a.fl s { a.fl s with held := l } j = if j = s then { a.fl s with held := l } else a.fl j := fun j => rfl
  refine ⟨O.ep, fun j hj => ?_, fun j hj => ?_, fun j hj => ?_, fun j hj n => ?_, fun j hj => ?_, fun j hj n => ?_, fun j hj => ?_, fun j hj => ?_, O.nd, O.lt, ?_⟩
  · show g j = (Mod.upd a.fl s { a.fl s with held := l } j).base
    rw [hfl]
    by_cases e : j = s
    · subst e; rw [if_pos rfl]; exact O.bs j hj
    · rw [if_neg e]; exact O.bs j hj
  · show (pl j).length = (Mod.upd a.fl s { a.fl s with held := l } j).kept.length
    rw [hfl]
    by_cases e : j = s
    · subst e; rw [if_pos rfl]; exact O.pn j hj
    · rw [if_neg e]; exact O.pn j hj
  · show (if j * 3 = s * 3 + 2 then _ else sh (j * 3)) = keptL (Mod.upd a.fl s { a.fl s with held := l } j).base (Mod.upd a.fl s { a.fl s with held := l } j).kept (pl j)
    rw [if_neg (by omega), hfl]
    by_cases e : j = s
    · subst e; rw [if_pos rfl]; exact O.kp j hj
    · rw [if_neg e]; exact O.kp j hj
  · show look (if j * 3 + 1 = s * 3 + 2 then _ else sh (j * 3 + 1)) _ = sentF (Mod.upd a.fl s { a.fl s with held := l } j) n
    rw [if_neg (by omega), hfl]
    by_cases e : j = s
    · subst e; rw [if_pos rfl]; exact O.sn j hj n
    · rw [if_neg e]; exact O.sn j hj n
  · show AreI (if j * 3 + 1 = s * 3 + 2 then _ else sh (j * 3 + 1))
    rw [if_neg (by omega)]; exact O.si j hj
  · show (look (if j * 3 + 2 = s * 3 + 2 then _ else sh (j * 3 + 2)) _).isSome = (Mod.upd a.fl s { a.fl s with held := l } j).held.contains n
    rw [hfl]
    by_cases e : j = s
    · subst e; rw [if_pos rfl, if_pos rfl]; exact heldF_look l n
    · rw [if_neg (by omega), if_neg e]; exact O.hd j hj n
  · show AreU (if j * 3 + 2 = s * 3 + 2 then _ else sh (j * 3 + 2))
    by_cases e : j = s
    · subst e; rw [if_pos rfl]; exact heldF_areU l
    · rw [if_neg (by omega)]; exact O.hu j hj
  · show (if j * 3 + 2 = s * 3 + 2 then _ else sh (j * 3 + 2)).length ≤ 3
    by_cases e : j = s
    · subst e; rw [if_pos rfl]; exact Nat.le_trans (heldF_len l) hl
    · rw [if_neg (by omega)]; exact O.hl j hj
  · have h := O.sum
    obtain ⟨f2, hf2⟩ : ∃ f2, f2 = ({ a.fl s with held := l } : Mod.Flow) := ⟨_, rfl⟩
    have hk : f2.kept.length = (a.fl s).kept.length := by rw [hf2]
    have h2 := room_upd (a := a) hs f2
    rw [← hf2]
    omega
end
theorem body0 {b : ByteArray} (h : 0 < b.size) : b[0].toNat = (b.data.toList.getD 0 0).toNat := by
  have h' : 0 < b.data.size := h
  simp [List.getD_eq_getElem?_getD, Array.getElem?_eq_getElem h', ByteArray.getElem_eq_getElem_data]
end Go.Proofs.YtamafdcnbcoegaaGreat
namespace Go.Proofs.YtamafdcnbcoegaaGreat
open Go.RowKit
section
variable {w : World} {p : Nat} {g : Nat → Nat} {free : List Nat} {sh : Nat → List (Nat × Value)} {st : Mod.Stv} {c : Av} {a : Mod.Ag} {pl : Nat → List Nat}
set_option maxRecDepth 100000 in
set_option maxHeartbeats 4000000 in
theorem obeyAck_skip (H : PaAt w p g a.ticks a.welcome a.fenced free sh st c) (O : OnAg a st.opening g free sh pl) (e : Nat) (s q : Int) (b : ByteArray) (he : e ≠ a.epoch ∨ a.welcome = false) :
    Calls Tryz.prog 105 #[ptrTo p, .agg #[.int .i64 4, .int .i64 e, .int .i64 s, .int .i64 q, .string b]] w fun r z => r = .returned (.int .i64 0) ∧ Below w.heap.size w z := by
  have HEP := fun z (hz : Below w.heap.size w z) => hide (agEpoch_any (H.below hz))
  have hpl := lt_of_block H.ks.blk
  have c24 : w.cell? ⟨p, 24, none⟩ = some (.bool a.welcome) := by rw [blk_cell H.ks.blk, H.ks.aw]
  obtain ⟨ep, hep⟩ : ∃ ep, ep = a.epoch := ⟨_, rfl⟩
  have hop : st.opening = ep := by rw [hep]; exact O.ep
  rw [hop] at HEP
  rw [← hep] at he
  have DD := hide (boxAt_new w #[.int .i64 4, .int .i64 e, .int .i64 s, .int .i64 q, .string b])
  generalize a.welcome = wel at *
  clear H O hop hep
  unfold ptrTo at *
  go_enter Tryz.func105, Tryz.ntmps105
  go_upto_region 1 with fail
  refine wp_world (BoxAt w #[.int .i64 4, .int .i64 e, .int .i64 s, .int .i64 q, .string b]) (unhide DD) ?_
  clear DD
  intro x X
  have y1 := blk_cell (i := 1) X.box
  simp at y1
  have d24 := (X.bel.cell (p := ⟨p, 24, none⟩) hpl).trans c24
  have HE1 := fun n => hide (unhide (HEP (x.drewN n) (X.drewN n).bel))
  have HX := hide X
  clear X c24
  by_cases hne : e = ep
  · have hwf : wel = false := he.resolve_left (fun h => h hne)
    subst hwf
    have hn : ((e : Int) != (ep : Int)) = false := by simp [hne]
    go_quiet (first | (go_at_call 66; exact Calls.quiet_of_same (unhide (HE1 _))))
    go_wp2
    go_ret
    exact ⟨rfl, ((unhide HX).drewN _).bel⟩
  · have hn : ((e : Int) != (ep : Int)) = true := by simp; omega
    go_quiet (first | (go_at_call 66; exact Calls.quiet_of_same (unhide (HE1 _))))
    go_wp2
    go_ret
    exact ⟨rfl, ((unhide HX).drewN _).bel⟩

set_option maxRecDepth 100000 in
set_option maxHeartbeats 8000000 in
theorem obeyAck_do (H : PaAt w p g a.ticks a.welcome a.fenced free sh st c) (hs : Sound st) (O : OnAg a st.opening g free sh pl) (e : Nat) (s q : Nat) (b : ByteArray) (he : e = a.epoch) (hw : a.welcome = true) (hs3 : s < 3) (hb1 : 0 < b.size) (hbnd : ∀ i, i < 3 → (a.fl i).base + (a.fl i).kept.length ≤ 1000000000) :
    Calls Tryz.prog 105 #[ptrTo p, .agg #[.int .i64 4, .int .i64 e, .int .i64 s, .int .i64 q, .string b]] w fun r z => r = .returned (.int .i64 0) ∧ AgIs w z p (a.deliver 4 e s q b) c := by
  have hpl := lt_of_block H.ks.blk
  have HEP := fun z (hz : Below w.heap.size w z) => hide (agEpoch_any (H.below hz))
  have c24 : w.cell? ⟨p, 24, none⟩ = some (.bool true) := by rw [blk_cell H.ks.blk, H.ks.aw, hw]
  obtain ⟨sq, hsq⟩ : ∃ sq, sq = a.ackSeq s q := ⟨_, rfl⟩
  have hsq2 : sq = min q ((a.fl s).base + (a.fl s).kept.length) := by rw [hsq]; rfl
  obtain ⟨n, hn⟩ : ∃ n, n = a.says 4 e s q b := ⟨_, rfl⟩
  have hd : a.deliver 4 e s q b = if sq < (a.fl s).base then a else { a.drop n with fl := Mod.upd (a.drop n).fl s { (a.drop n).fl s with held := Mod.bitsOf sq b[0].toNat 3 } } := by
    unfold Mod.Ag.deliver
    rw [if_neg (by omega), if_neg (by omega), if_neg (by omega), if_neg (by omega), if_pos rfl, hn, body0 hb1]
    have hst : ((s : Nat) : Int).toNat = s := rfl
    rw [hst, ← hsq, hw]
    by_cases h : sq < (a.fl s).base
    · rw [if_pos (.inr h), if_pos h]
    · rw [if_neg (by simp; omega), if_neg h]
  have hnl : ∀ i, i < 3 → n i ≤ (a.fl i).kept.length := fun i _ => by rw [hn]; exact says_le _ _ _ _ _ _ _
  have hni : ∀ i, n i = if i = s then min (q - (a.fl s).base) (a.fl s).kept.length else 0 := fun i => by
    rw [hn]
    unfold Mod.Ag.says
    rw [if_neg (by omega), if_neg (by omega)]
    by_cases h : i = s
    · subst h
      rw [if_pos ⟨rfl, rfl, hw⟩, if_pos rfl]
      unfold Mod.Ag.gone
      congr 1
      omega
    · rw [if_neg (fun h' => h (by have := h'.2.1; omega)), if_neg h]
  obtain ⟨X, hX⟩ : ∃ X : Nat → Nat, X = fun i => if i = s then sq else (a.fl i).base := ⟨_, rfl⟩
  have hLG : ¬ sq < (a.fl s).base → ∀ z, Below w.heap.size w z → Hid (Calls Tryz.prog 152 #[ptrTo p, .agg #[.int .i64 (X 0), .int .i64 (X 1), .int .i64 (X 2)]] z fun r z' => r = .returned (.int .i64 0) ∧ AgIs z z' p (a.drop n) c) := fun hlt z hz => by
    have hXi : ∀ i, i < 3 → X i = (a.fl i).base + n i := fun i hi => by
      rw [hX, hni i]
      show (if i = s then sq else (a.fl i).base) = _
      by_cases h : i = s
      · subst h; rw [if_pos rfl, if_pos rfl]; omega
      · rw [if_neg h, if_neg h]; rfl
    refine hide (letGo_any (H.below hz) hs O n X hnl hXi (fun i hi => ?_))
    have := hbnd i hi
    have := hnl i hi
    rw [hXi i hi]
    omega
  have hLs := fun z (hz : Below w.heap.size w z) => agLast_any (H.below hz) O hs3 (O.bs s hs3)
  have q0 : w.cell? ⟨p, 1, none⟩ = some (.int .i64 (a.fl 0).base) := by rw [blk_cell H.ks.blk, ← O.bs 0 (by omega)]; exact H.ks.ag 0 (by omega)
  have q1 : w.cell? ⟨p, 2, none⟩ = some (.int .i64 (a.fl 1).base) := by rw [blk_cell H.ks.blk, ← O.bs 1 (by omega)]; exact H.ks.ag 1 (by omega)
  have q2 : w.cell? ⟨p, 3, none⟩ = some (.int .i64 (a.fl 2).base) := by rw [blk_cell H.ks.blk, ← O.bs 2 (by omega)]; exact H.ks.ag 2 (by omega)
  have qs : w.cell? ⟨p, 1 + s, none⟩ = some (.int .i64 (a.fl s).base) := by rw [blk_cell H.ks.blk, ← O.bs s hs3]; exact H.ks.ag s hs3
  obtain ⟨bl, hbl⟩ : ∃ v, v = (a.fl s).base + (a.fl s).kept.length := ⟨_, rfl⟩
  rw [← hbl] at hLs hsq2
  have HLs := fun z hz => hide (hLs z hz)
  have hmn : min (q : Int) (bl : Int) = (sq : Int) := by omega
  have hsqm : sq ≤ 1000000000 := by have := hbnd s hs3; omega
  have hHD := fun z => hide (frameHeld_any sq hsqm b hb1 z)
  obtain ⟨bits, hbits⟩ : ∃ l, l = Mod.bitsOf sq b[0].toNat 3 := ⟨_, rfl⟩
  have hbl3 : bits.length ≤ 3 := by rw [hbits]; exact bitsOf_len _ _ _
  rw [← hbits] at hd hHD
  obtain ⟨ep, hep⟩ : ∃ ep, ep = a.epoch := ⟨_, rfl⟩
  have hop : st.opening = ep := by rw [hep]; exact O.ep
  rw [hop] at HEP
  have hne : ((e : Int) != (ep : Int)) = false := by simp; omega
  obtain ⟨a2, ha2⟩ : ∃ a2, a2 = a.deliver 4 e s q b := ⟨_, rfl⟩
  rw [← ha2] at hd ⊢
  obtain ⟨a1, ha1⟩ : ∃ a1, a1 = a.drop n := ⟨_, rfl⟩
  rw [← ha1] at hd hLG
  have HD := hide hd
  have DD := hide (boxAt_new w #[.int .i64 4, .int .i64 e, .int .i64 s, .int .i64 q, .string b])
  obtain ⟨bs, hbs⟩ : ∃ v, v = (a.fl s).base := ⟨_, rfl⟩
  rw [← hbs] at qs hLG
  have hXX : #[Value.int .i64 (X 0), .int .i64 (X 1), .int .i64 (X 2)] = (#[Value.int .i64 (a.fl 0).base, .int .i64 (a.fl 1).base, .int .i64 (a.fl 2).base] : Array Value).setIfInBounds s (.int .i64 sq) := by
    rw [hX]
    obtain rfl | rfl | rfl : s = 0 ∨ s = 1 ∨ s = 2 := by omega
    all_goals simp
  have HXX := hide hXX
  have HBS := hide hbs
  have HREF := hide (agIs_refl H hs O)
  have hi0 : (0 : Int) ≤ (s : Int) := by omega
  have hi3 : (s : Int) < 3 := by omega
  generalize (a.fl 0).base = g0 at *
  generalize (a.fl 1).base = g1 at *
  generalize (a.fl 2).base = g2 at *
  obtain ⟨x0, hx0⟩ : ∃ x, x = X 0 := ⟨_, rfl⟩
  obtain ⟨x1, hx1⟩ : ∃ x, x = X 1 := ⟨_, rfl⟩
  obtain ⟨x2, hx2⟩ : ∃ x, x = X 2 := ⟨_, rfl⟩
  rw [← hx0, ← hx1, ← hx2] at hLG HXX
  have HLG := hide hLG
  have HNB := hide (fun h => absurd (H.lt _ h) (by omega) : ¬ PaU p c w.heap.size)
  clear H O hs hn hd hnl hni hX hLs hop hep ha2 ha1 he hw hbnd hsq hsq2 hbl hbits hbs hXX hx0 hx1 hx2 hLG hb1 hsqm
  unfold ptrTo at *
  go_enter Tryz.func105, Tryz.ntmps105
  go_upto_region 1 with fail
  refine wp_world (BoxAt w #[.int .i64 4, .int .i64 e, .int .i64 s, .int .i64 q, .string b]) (unhide DD) ?_
  clear DD
  intro x X9
  have y1 := blk_cell (i := 1) X9.box
  simp at y1
  have d24 := (X9.bel.cell (p := ⟨p, 24, none⟩) hpl).trans c24
  have HE1 := fun n => hide (unhide (HEP (x.drewN n) (X9.drewN n).bel))
  have HX := hide X9
  clear X9 c24
  go_quiet (first | (go_at_call 66; exact Calls.quiet_of_same (unhide (HE1 _))))
  go_upto_region 3 with fail
  refine wp_world (BoxAt w #[.int .i64 4, .int .i64 e, .int .i64 s, .int .i64 q, .string b]) ((unhide HX).drewN _) ?_
  clear HX y1 HE1 d24
  intro x X9
  have y2 := blk_cell (i := 2) X9.box
  have y3 := blk_cell (i := 3) X9.box
  simp at y2 y3
  have hxl := X9.lt
  have HX := hide X9
  clear X9
  refine wp_region_frame (by kernel_rfl)
    [fun v _ => v = .pointer (some ⟨w.heap.size, 3, none⟩), fun v _ => v = .int .i64 q, fun v _ => v = .pointer (some ⟨p, 0, none⟩), fun v _ => v = .pointer (some ⟨w.heap.size, 2, none⟩), fun v _ => v = .int .i64 s, fun v _ => v = .int .i64 bl, fun v _ => v = .int .i64 sq, fun v _ => v = .int .i64 sq]
    [[(3, none)], [(23, some 0)], [(0, none)], [(3, none)], [(26, some 3)], [(25, some 2), (27, some 4)], [(24, some 1), (28, some 5)], [(29, some 6)]] [some 23, some 24, some 25, some 26, some 27, some 28, some 29, some 5] [false, false, false, false, false, true, false, false, false, false, false, false, false, false, false, false, false, false, false, false, false, false, false, true, true, true, true, true, true, true, false, false, false, false, false, false, false, false, false, false, false, false, false, false, false, false, false, false, false, false, false, false, false, false, false, false, false, false, false, false, false, false, false, false, false, false, false, false, false, false, false, false, false, false, false, false]
    (by kernel_rfl) (by kernel_rfl) (by kernel_rfl) (by kernel_rfl) ?_ ?_ ?_
  · repeat' (first | exact stable_eq _ | exact trivial | apply And.intro)
  · refine ⟨?_, ?_, ?_, ?_, ?_, ?_, ?_, ?_, trivial⟩
    all_goals
      intro a' z hbz hf
      have e2 := (hbz.cell (p := ⟨w.heap.size, 2, none⟩) hxl).trans y2
      have e3 := (hbz.cell (p := ⟨w.heap.size, 3, none⟩) hxl).trans y3
      have HL := hide (unhide (HLs z ((unhide HX).bel.trans (hbz.mono (unhide HX).bel.size))))
      clear hbz
      simp only [PlanFacts, List.getD_cons_zero, List.getD_cons_succ, Array.getD_eq_getD_getElem?] at hf
      try simp at hf
      go_simp
      try exact Below.refl _ _
    all_goals first
      | exact ⟨rfl, Below.refl _ _⟩
      | exact ⟨_, rfl, Below.refl _ _, rfl⟩
      | (refine (unhide HL).mono ?_; rintro r z2 ⟨rfl, k, rfl⟩; exact ⟨rfl, below_drewN (Below.refl _ _) k⟩)
      | (refine (unhide HL).mono ?_; rintro r z2 ⟨rfl, k, rfl⟩; exact ⟨_, rfl, below_drewN (Below.refl _ _) k, rfl⟩)
      | skip
  · intro f z hbz hwd
    simp only [AllWords] at hwd
    have h7 := hwd.2.2.2.2.2.2.2.1
    clear hwd
    have HZ := hide ((unhide HX).below hbz)
    clear hbz
    simp only [mergeT, h7]
    generalize f 23 = x23
    generalize f 24 = x24
    generalize f 25 = x25
    generalize f 26 = x26
    generalize f 27 = x27
    generalize f 28 = x28
    generalize f 29 = x29
    go_upto_region 4 with fail
    refine wp_world (BoxAt w #[.int .i64 4, .int .i64 e, .int .i64 s, .int .i64 q, .string b]) (unhide HZ) ?_
    clear HZ HX y2 y3 hxl
    intro x X9
    have y2 := blk_cell (i := 2) X9.box
    simp at y2
    have ds := (X9.bel.cell (p := ⟨p, 1 + s, none⟩) hpl).trans qs
    have HX := hide X9
    clear X9 qs
    by_cases hlt : sq < bs
    · have hltI : (sq : Int) < (bs : Int) := by omega
      go_quiet (fail)
      go_wp2
      go_ret
      refine ⟨rfl, ?_⟩
      rw [unhide HD, ← unhide HBS, if_pos hlt]
      exact (unhide HREF).below (((unhide HX).drewN _).bel)
    · have hltI : ¬ (sq : Int) < (bs : Int) := by omega
      go_quiet (fail)
      go_upto_region 6 with fail
      refine wp_world (BoxAt w #[.int .i64 4, .int .i64 e, .int .i64 s, .int .i64 q, .string b]) ((unhide HX).drewN _) ?_
      clear HX y2 ds
      intro x X9
      have y2 := blk_cell (i := 2) X9.box
      simp at y2
      have d0 := (X9.bel.cell (p := ⟨p, 1, none⟩) hpl).trans q0
      have d1 := (X9.bel.cell (p := ⟨p, 2, none⟩) hpl).trans q1
      have d2 := (X9.bel.cell (p := ⟨p, 3, none⟩) hpl).trans q2
      have hxl := X9.lt
      have HX := hide X9
      obtain ⟨g6, hg6⟩ : ∃ g6, g6 = x.heap.size := ⟨_, rfl⟩
      have HG6 := hide hg6
      have hg6w : w.heap.size < g6 := by omega
      clear X9 q0 q1 q2
      go_upto_region 7 with fail
      rw [← hg6]
      clear hg6
      refine wp_world (fun y => y.heap[g6]? = some (.cells #[.int .i64 g0, .int .i64 g1, .int .i64 g2] 136 (0, 0)) ∧ BoxAt w #[.int .i64 4, .int .i64 e, .int .i64 s, .int .i64 q, .string b] y) ?_ ?_
      · rw [unhide HG6]
        exact ⟨heap_alloc_new _ _, (unhide HX).below ((Below.refl _ _).alloc (Nat.le_refl _) _)⟩
      clear HX HG6 y2 d0 d1 d2 hxl
      rintro y ⟨h6, X9⟩
      have y2 := blk_cell (i := 2) X9.box
      simp at y2
      have f6 := blk_free (i := s) h6
      obtain ⟨old, hold⟩ : ∃ v : Nat, y.cell? ⟨g6, s, none⟩ = some (.int .i64 v) := by
        rw [blk_cell h6]
        obtain rfl | rfl | rfl : s = 0 ∨ s = 1 ∨ s = 2 := by omega
        · exact ⟨g0, rfl⟩
        · exact ⟨g1, rfl⟩
        · exact ⟨g2, rfl⟩
      have HY := hide (And.intro h6 X9)
      clear h6 X9
      go_upto_region 8 with fail
      refine wp_world (fun y => y.heap[g6]? = some (.cells #[.int .i64 x0, .int .i64 x1, .int .i64 x2] 136 (0, 0)) ∧ BoxAt w #[.int .i64 4, .int .i64 e, .int .i64 s, .int .i64 q, .string b] y) ?_ ?_
      · obtain ⟨h6, X9⟩ := unhide HY
        have hset := far_set y g6 s (.int .i64 sq)
        refine ⟨?_, ⟨hset.blk X9.box (by omega), X9.bel.setCell (p := ⟨g6, s, none⟩) (Nat.le_of_lt hg6w) _⟩⟩
        rw [unhide HXX]
        exact blk_set h6
      clear HY y2 f6 hold
      rintro y ⟨h6, X9⟩
      have e0 := blk_cell (i := 0) h6
      have e1 := blk_cell (i := 1) h6
      have e2 := blk_cell (i := 2) h6
      have y2 := blk_cell (i := 2) X9.box
      simp at e0 e1 e2 y2
      have HLX := hide (unhide ((unhide HLG) hlt y X9.bel))
      have HX := hide X9
      clear h6 X9
      go_upto_region 11 with (go_at_call 152; refine (unhide HLX).mono ?_; rintro r z ⟨rfl, hag⟩)
      obtain ⟨gg, fr1, sh1, pl1, st1, ⟨c1, K1, F1, N1, t1, t2⟩, hs1, hO1⟩ := hag
      have hbz := F1.blk (unhide HX).box (unhide HNB)
      have hPz := PaStep.behind (w := w) (⟨c1, K1, F1, N1, t1, t2⟩ : PaStep y z p gg a1.ticks a1.welcome a1.fenced fr1 sh1 st1 c) (unhide HX).bel
      have y2 := blk_cell (i := 2) hbz
      simp at y2
      have HZ := hide (And.intro hbz hPz)
      have HE := hide (And.intro hs1 hO1)
      clear K1 F1 N1 t1 t2 hs1 hO1 hbz hPz HX HLX e0 e1 e2
      go_quiet (fail)
      go_upto_region 12 with fail
      refine wp_world (fun y => y.heap[w.heap.size]? = some (.cells #[.int .i64 4, .int .i64 e, .int .i64 s, .int .i64 q, .string b] 41 (0, 0)) ∧ PaStep w y p gg a1.ticks a1.welcome a1.fenced fr1 sh1 st1 c) ?_ ?_
      · exact ⟨(unhide HZ).1, (unhide HZ).2.below (below_drewN (Below.refl _ _) _)⟩
      clear HZ y2
      rintro x ⟨hbx, c1, K1, F1, N1, t1, t2⟩
      have HC := hide (clearU_any (K1.shAt (i := s * 3 + 2) (by omega)))
      rw [show 4 + (s * 3 + 2) * 2 = 4 + s * 6 + 4 by omega] at HC
      have HK := hide (And.intro hbx (And.intro K1 (And.intro F1 (And.intro N1 (And.intro t1 t2)))))
      clear hbx K1 F1 N1 t1 t2
      go_upto_region 13 with (go_at_call 154; refine (unhide HC).mono ?_; rintro r z2 ⟨rfl, hst⟩)
      rw [show 4 + s * 6 + 4 = 4 + (s * 3 + 2) * 2 by omega] at hst
      obtain ⟨hbx, K1, F1, N1, t1, t2⟩ := unhide HK
      have hbn := pa_not_cells K1 hbx (by decide) (by decide) (by decide) (by decide) (by decide) (by decide) (by decide)
      have hb2 := hst.2.blk hbx (fun h => hbn (.inl (h.elim .inl (fun h => .inr (.inr ⟨s * 3 + 2, by omega, h⟩)))))
      have hP2 := paAfter F1 N1 t1 t2 (paStep_sh K1 (by omega) hst)
      have y4 := blk_cell (i := 4) hb2
      simp at y4
      clear hbx K1 F1 N1 t1 t2 hbn hst HK HC hb2
      obtain ⟨c2, K2, F2, N2, s1, s2⟩ := hP2
      have HK2 := hide (And.intro K2 (And.intro F2 (And.intro N2 (And.intro s1 s2))))
      clear K2 F2 N2 s1 s2
      have HH2 := hide (unhide (hHD z2))
      clear hHD
      obtain ⟨m, hm⟩ : ∃ m, m = bits.length := ⟨_, rfl⟩
      rw [← hm] at HH2 hbl3
      have HM := hide hm
      clear hm
      go_wp2_with (go_at_call 155; refine (unhide HH2).mono ?_; rintro r z3 ⟨v, rfl, hv, hbl⟩; obtain ⟨ad, cap, rfl, _⟩ := (own_rowO hv).shape; replace hv := hide hv; replace hbl := hide hbl)
      go_loopw [10, 67] (fun _ i wr => ∃ t : Nat, t ≤ m ∧ i = .int .i64 t ∧ RowO wr 3 1 (.slice ad m cap) m (numCells bits) ∧ ∃ c', PaAt wr p gg a1.ticks a1.welcome a1.fenced fr1 (fun j => if j = s * 3 + 2 then (bits.take t).foldl (fun l n => putL l n recU) [] else sh1 j) st1 c' ∧ Far (PaU p c) w wr ∧ (∀ k, PaU p c' k → PaU p c k ∨ w.heap.size ≤ k) ∧ c'.s = c.s ∧ c'.rv = c.rv ∧ (∀ g, (Value.slice ad m cap).ownBlock = some g → ¬ PaU p c' g)) (fun _ i _ => m - (intOf i).toNat)
      case atStart =>
        obtain ⟨K2, F2, N2, s1, s2⟩ := unhide HK2
        refine ⟨0, by omega, rfl, own_rowO (unhide hv), c2, K2.below (unhide hbl), F2.trans (far_below (E := PaU p c) (unhide hbl)) (fun _ _ h => h), N2, s1, s2, fun g hg hu => ?_⟩
        have h1 := (World.ownsRow.lt (unhide hv) g hg).1
        have h2 := K2.lt g hu
        omega
      case round =>
        obtain ⟨t, ht, rfl, hrow, c3, K3, F3, N3, u1, u2, hap⟩ := hrel
        by_cases htl : t < m
        · obtain ⟨ad', cap', esl, _, _, hcl⟩ := hrow.shape
          injection esl with esl _ esl2
          subst esl esl2
          obtain ⟨gt, ot, rfl, hcl2⟩ := hcl (by omega)
          obtain ⟨nb, hnb⟩ : ∃ nb, bits[t]? = some nb := ⟨bits[t]'(by have := unhide HM; omega), List.getElem?_eq_getElem _⟩
          have r0 := (hcl2 t (by omega))
          rw [show (numCells bits)[t]? = some (.int .i64 nb) by simp [numCells, hnb]] at r0
          have htake : bits.take (t + 1) = bits.take t ++ [nb] := by rw [List.take_add_one, hnb]; rfl
          have hlen : ((bits.take t).foldl (fun l n => putL l n recU) []).length < 1000 := by
            have := heldF_len (bits.take t)
            have := List.length_take_le t bits
            omega
          have HP := hide (putU_any (K3.shAt (i := s * 3 + 2) (by omega)) (by rw [if_pos rfl]; exact hlen) nb)
          rw [if_pos rfl, ← heldF_snoc, ← htake] at HP
          rw [show 4 + (s * 3 + 2) * 2 = 4 + s * 6 + 4 by omega] at HP
          have ht0 : (0 : Int) ≤ (t : Int) := by omega
          have htn : (t : Int) < (m : Int) := by omega
          have HR := hide (And.intro hrow (And.intro K3 (And.intro F3 (And.intro N3 (And.intro u1 (And.intro u2 hap))))))
          clear hrow K3 F3 N3 u1 u2 hap hcl hcl2 htake hlen hnb
          go_wp2_with (go_at_call 156; refine (unhide HP).mono ?_; rintro r z4 ⟨rfl, hst⟩)
          rw [show 4 + s * 6 + 4 = 4 + (s * 3 + 2) * 2 by omega] at hst
          obtain ⟨hrow, K3, F3, N3, u1, u2, hap⟩ := unhide HR
          obtain ⟨c4, K4, F4, N4, v1, v2⟩ := paStep_sh K3 (by omega) hst
          have hFU : ∀ k, (k = p ∨ ShU (c3.nv (s * 3 + 2)) (c3.mv (s * 3 + 2)) k) → PaU p c3 k := fun k hk => hk.elim (fun h => .inl (.inl h)) (fun h => .inl (.inr (.inr ⟨s * 3 + 2, by omega, h⟩)))
          refine ⟨⟨t + 1, by omega, rfl, hrow.far hst.2 (fun g hg h => hap g hg (hFU g h)), c4, ?_, F3.trans F4 (fun k hk hu => (N3 k hu).elim id (fun h => by omega)), fun k hk => ?_, v1.trans u1, v2.trans u2, fun g hg hu => ?_⟩, ?_⟩
          · rw [show (fun j => if j = s * 3 + 2 then (bits.take (t + 1)).foldl (fun l n => putL l n recU) [] else sh1 j) = (fun j => if j = s * 3 + 2 then (bits.take (t + 1)).foldl (fun l n => putL l n recU) [] else if j = s * 3 + 2 then (bits.take t).foldl (fun l n => putL l n recU) [] else sh1 j) by
              funext j
              by_cases h : j = s * 3 + 2
              · rw [if_pos h, if_pos h]
              · rw [if_neg h, if_neg h, if_neg h]]
            exact K4
          · rcases N4 k hk with h | h
            · exact N3 k h
            · exact .inr (Nat.le_trans F3.size h)
          · rcases N4 g hu with h | h
            · exact hap g hg h
            · have := hrow.lt g hg
              omega
          · simp [intOf]; omega
        · have e : t = m := by omega
          have hnt : ¬ (t : Int) < (m : Int) := by omega
          have HR := hide (And.intro K3 (And.intro F3 (And.intro N3 (And.intro u1 u2))))
          have HT := hide (And.intro e htl)
          clear hrow K3 F3 N3 u1 u2 hap e htl
          go_wp2
          go_ret
          refine ⟨rfl, ?_⟩
          rw [unhide HD, ← unhide HBS, if_neg hlt]
          obtain ⟨K3, F3, N3, u1, u2⟩ := unhide HR
          rw [show bits.take t = bits by rw [(unhide HT).1, unhide HM]; exact List.take_length] at K3
          exact ⟨gg, fr1, _, pl1, st1, ⟨c3, K3, F3, N3, u1, u2⟩, (unhide HE).1, onAg_held (unhide HE).2 hs3 bits (by rw [← unhide HM]; exact hbl3)⟩
end
end Go.Proofs.YtamafdcnbcoegaaGreat
namespace Go.Proofs.YtamafdcnbcoegaaGreat
open Go.RowKit

/-- Where an operation's word is told of: the slot that it writes; of a store the slot of its address. -/
def skey (o : Oper) : Tmp := match o.dst with
  | some d => d
  | none => match o.op with
    | .store _ (.tmp t) _ => t
    | _ => 0
def keyVal (o : Oper) (a : Act) (v : Value) : Value := match o.dst with
  | some _ => v
  | none => a.tmps.getD (skey o) undef
def keyOk (ops : Array Oper) : Bool := (List.range ops.size).all fun k => match ops[k]? with
  | none => true
  | some o => match o.dst with
    | some _ => true
    | none => match wr ops (skey o) with
      | none => true
      | some j => depB ops k j
theorem keyOk_spec {ops : Array Oper} (h : keyOk ops = true) {k j : Nat} {o : Oper} (ho : ops[k]? = some o) (hd : o.dst = none) (hj : wr ops (skey o) = some j) : depB ops k j = true := by
  unfold keyOk at h
  have := List.all_eq_true.1 h k (List.mem_range.2 (Array.getElem?_eq_some_iff.1 ho).1)
  rw [ho] at this
  simp only [hd, hj] at this
  exact this
section
variable {P : Program} {ops : Array Oper} {Q : Exit → Act → World → Prop}

structure KeyInv (ops : Array Oper) (Φ : Nat → Value → World → Prop) (E : Nat → Nat → Prop) (a0 : Act) (w0 : World) (L : Array Bool) (a : Act) (w : World) : Prop where
  size : L.size = ops.size
  ext : Far (fun b => ∃ k, L.getD k false = true ∧ E k b) w0 w
  closed : ∀ k, L.getD k false = true → ∀ j, depB ops k j = true → L.getD j false = true
  vals : ∀ i o, ops[i]? = some o → L.getD i false = true → Φ i (a.tmps.getD (skey o) undef) w
  rest : ∀ t, (∀ j, wr ops t = some j → L.getD j false = false) → a.tmps.getD t undef = a0.tmps.getD t undef
  defers : a.defers = a0.defers
  tsize : a.tmps.size = a0.tmps.size

theorem mono_key {a0 : Act} {w0 : World} (Φ : Nat → Value → World → Prop) (E : Nat → Nat → Prop) (xw : Nat) (X : World → World → Prop) (hXr : ∀ w, X w w) (hok : monoOk ops a0.tmps.size = true) (hkey : keyOk ops = true)
    (hst : ∀ i j v w w', i ≠ j → depB ops j i = false → Φ j v w → Far (E i) w w' → (i = xw → X w w') → Φ j v w')
    (hop : ∀ i o, ops[i]? = some o → ∀ a w, Far (fun b => ∃ k, k ≠ i ∧ depB ops k i = false ∧ E k b) w0 w → GoodAct ops Φ a0 i o a w →
      if Region.wanted o (yielded ops a.tmps) = true then o.wp P a w (fun a' w' => ∃ v, a' = a.put o.dst v ∧ Far (E i) w w' ∧ Φ i (keyVal o a v) w' ∧ (i = xw → X w w')) Q else Φ i (keyVal o a undef) w)
    (hend : ∀ a w, Far (fun b => ∃ k, E k b) w0 w → (∀ i o, ops[i]? = some o → Φ i (a.tmps.getD (skey o) undef) w) → (∀ t, wr ops t = none → a.tmps.getD t undef = a0.tmps.getD t undef) → a.defers = a0.defers → a.tmps.size = a0.tmps.size → Q .normal a w) :
    ∀ (fuel : Nat) (L : Array Bool) (a : Act) (w : World), KeyInv ops Φ E a0 w0 L a w → (List.range ops.size).countP (fun i => !L.getD i false) ≤ fuel → wpAny P .any ops Q fuel L a w := by
  have hrdy : ∀ (L : Array Bool) (a : Act) (w : World), KeyInv ops Φ E a0 w0 L a w → Region.ready .any ops L = [] → Q .normal a w := by
    intro L a w hI hr
    have hall : ∀ n i, i < n → i < ops.size → L.getD i false = true := by
      intro n
      induction n with
      | zero => intro i h; omega
      | succ n ih =>
        intro i h hi
        by_cases hin : i < n
        · exact ih i hin hi
        · have e : i = n := by omega
          subst e
          cases hL : L.getD i false
          · exfalso
            have ho : ops[i]? = some ops[i] := Array.getElem?_eq_getElem hi
            obtain ⟨_, _, h3⟩ := monoOk_spec hok ho
            have : i ∈ Region.ready .any ops L := mem_ready.2 ⟨by
              have hs : i < L.size := by rw [hI.size]; exact hi
              rw [Array.getD_eq_getD_getElem?, Array.getElem?_eq_getElem hs] at hL ⊢
              exact hL, ops[i], ho, fun e he hb => by
              have hd : depB ops i e.on = true := by
                unfold depB
                rw [ho]
                exact Array.any_eq_true'.2 ⟨e, he, by simp [hb]⟩
              have hlt := h3 _ hd
              exact ih e.on hlt (by omega)⟩
            rw [hr] at this
            cases this
          · rfl
    refine hend a w (hI.ext.mono (fun b _ h => h.imp fun k h => h.2)) (fun i o ho => hI.vals i o ho (hall ops.size i (Array.getElem?_eq_some_iff.1 ho).1 (Array.getElem?_eq_some_iff.1 ho).1)) (fun t ht => hI.rest t (fun j hj => by rw [ht] at hj; cases hj)) hI.defers hI.tsize
  intro fuel
  induction fuel with
  | zero =>
    intro L a w hI hc
    have hr : Region.ready .any ops L = [] := by
      apply List.eq_nil_iff_forall_not_mem.2
      intro i hi
      obtain ⟨h0, o, ho, _⟩ := mem_ready.1 hi
      have hlt : i < ops.size := (Array.getElem?_eq_some_iff.1 ho).1
      have h0' : L.getD i false = false := by
        have hs : i < L.size := by rw [hI.size]; exact hlt
        rw [Array.getD_eq_getD_getElem?, Array.getElem?_eq_getElem hs] at h0 ⊢
        exact h0
      have : 0 < (List.range ops.size).countP (fun i => !L.getD i false) := List.countP_pos_iff.2 ⟨i, List.mem_range.2 hlt, by simp [h0']⟩
      omega
    exact ⟨hr, hrdy L a w hI hr⟩
  | succ fuel ih =>
    intro L a w hI hc
    refine ⟨hrdy L a w hI, fun i hi => ?_⟩
    obtain ⟨h0, o, ho, hdeps⟩ := mem_ready.1 hi
    have hlt : i < ops.size := (Array.getElem?_eq_some_iff.1 ho).1
    have hls : i < L.size := by rw [hI.size]; exact hlt
    have h0' : L.getD i false = false := by
      rw [Array.getD_eq_getD_getElem?, Array.getElem?_eq_getElem hls] at h0 ⊢
      exact h0
    obtain ⟨hd, hl, hlex⟩ := monoOk_spec hok ho
    have hdl : ∀ j, depB ops i j = true → L.getD j false = true := by
      intro j hj
      unfold depB at hj
      rw [ho] at hj
      obtain ⟨e, he, hb⟩ := Array.any_eq_true'.1 hj
      simp only [Bool.and_eq_true, beq_iff_eq] at hb
      rw [← hb.2]; exact hdeps e he hb.1
    have hgood : GoodAct ops Φ a0 i o a w := by
      intro t ht
      cases hw : wr ops t with
      | none => exact hI.rest t (fun j hj => by rw [hw] at hj; cases hj)
      | some j =>
        simp only []
        have hj := List.find?_some hw
        simp only [beq_iff_eq] at hj
        split
        · rename_i hdep
          cases hoj : ops[j]? with
          | none => rw [hoj] at hj; cases hj
          | some oj =>
            rw [hoj] at hj
            have hvv := hI.vals j oj hoj (hdl j hdep)
            have hj' : oj.dst = some t := hj
            have hk' : skey oj = t := by unfold skey; rw [hj']
            rw [hk'] at hvv
            exact hvv
        · rename_i hdep
          refine hI.rest t (fun j' hj' => ?_)
          rw [hw] at hj'
          cases hj'
          rcases hl t ht j hw with h | h
          · exact absurd h hdep
          · cases hLj : L.getD j false
            · rfl
            · have := hI.closed j hLj i h
              rw [h0'] at this; cases this
    have hstep : ∀ v w', Far (E i) w w' → (i = xw → X w w') → Φ i (keyVal o a v) w' → KeyInv ops Φ E a0 w0 (L.setIfInBounds i true) (a.put o.dst v) w' := by
      intro v w' hb hx hv
      have hget : ∀ k, (L.setIfInBounds i true).getD k false = true ↔ (k = i ∨ L.getD k false = true) := by
        intro k
        by_cases hk : k = i
        · subst hk
          simp [Array.getD_eq_getD_getElem?, hls]
        · rw [getD_set_ne false (fun e => hk e.symm)]
          simp [hk]
      have hput : ∀ t, (a.put o.dst v).tmps.getD t undef = if o.dst = some t then v else a.tmps.getD t undef := by
        intro t
        cases hdst : o.dst with
        | none => simp [Act.put]
        | some d =>
          simp only [Act.put, Option.some.injEq]
          have hdsz : d < a.tmps.size := by rw [hI.tsize]; exact (hd d hdst).1
          by_cases h : d = t
          · subst h
            simp [Array.getD_eq_getD_getElem?, hdsz]
          · simp [Array.getD_eq_getD_getElem?, h]
      refine ⟨by simp [hI.size], (hI.ext.mono (fun b _ h => by obtain ⟨k, h1, h2⟩ := h; exact ⟨k, (hget k).2 (.inr h1), h2⟩)).trans hb (fun b _ h => ⟨i, (hget i).2 (.inl rfl), h⟩), ?_, ?_, ?_, ?_, ?_⟩
      · intro k hk j hj
        rw [hget] at hk ⊢
        rcases hk with rfl | hk
        · exact .inr (hdl j hj)
        · exact .inr (hI.closed k hk j hj)
      · intro k ok hok' hk
        rw [hget] at hk
        rcases hk with rfl | hk
        · rw [ho] at hok'; cases hok'
          unfold keyVal at hv
          cases hdst : o.dst with
          | none =>
            rw [hdst] at hv
            have hp := hput (skey o)
            rw [if_neg (by rw [hdst]; simp), hdst] at hp
            rw [hp]; exact hv
          | some d =>
            rw [hdst] at hv
            have hs : skey o = d := by unfold skey; rw [hdst]
            have hp := hput d
            rw [if_pos hdst, hdst] at hp
            rw [hs, hp]; exact hv
        · have hki : i ≠ k := by
            intro e
            subst e
            rw [h0'] at hk; cases hk
          have hnd : depB ops k i = false := by
            cases hd : depB ops k i with
            | false => rfl
            | true =>
              have := hI.closed k hk i hd
              rw [h0'] at this; cases this
          have hvk := hst i k _ _ _ hki hnd (hI.vals k ok hok' hk) hb hx
          have hne : o.dst ≠ some (skey ok) := by
            intro e
            have h1 := (hd _ e).2
            cases hdk : ok.dst with
            | some d =>
              have hs : skey ok = d := by unfold skey; rw [hdk]
              have h2 := ((monoOk_spec hok hok').1 d hdk).2
              rw [hs, h2] at h1
              cases h1
              exact hki rfl
            | none =>
              have := keyOk_spec hkey hok' hdk h1
              rw [this] at hnd; cases hnd
          rw [hput, if_neg hne]
          exact hvk
      · intro t ht
        rw [hput]
        have hne : o.dst ≠ some t := by
          intro e
          have := ht i (hd t e).2
          have h2 := (hget i).2 (.inl rfl)
          rw [this] at h2; cases h2
        rw [if_neg hne]
        refine hI.rest t (fun j hj => ?_)
        cases hLj : L.getD j false
        · rfl
        · have := ht j hj
          rw [(hget j).2 (.inr hLj)] at this; cases this
      · cases o.dst <;> exact hI.defers
      · rw [← hI.tsize]; cases o.dst <;> simp [Act.put]
    have hcount : (List.range ops.size).countP (fun k => !(L.setIfInBounds i true).getD k false) ≤ fuel := by
      have := countP_lt (l := List.range ops.size) (p := fun k => !L.getD k false) (q := fun k => !(L.setIfInBounds i true).getD k false)
        (fun k _ hk => by
          by_cases hki : k = i
          · subst hki; simp [h0']
          · rw [getD_set_ne false (fun e => hki e.symm)] at hk; exact hk)
        ⟨i, List.mem_range.2 hlt, by simp [h0'], by simp [Array.getD_eq_getD_getElem?, hls]⟩
      omega
    have hg := hop i o ho a w (hI.ext.mono (fun b _ h => by
      obtain ⟨k, h1, h2⟩ := h
      refine ⟨k, fun e => ?_, ?_, h2⟩
      · subst e; rw [h0'] at h1; cases h1
      · cases hd : depB ops k i with
        | false => rfl
        | true =>
          have := hI.closed k h1 i hd
          rw [h0'] at this; cases this)) hgood
    unfold wpOp
    rw [ho]
    simp only []
    split at hg
    · rename_i hw
      rw [if_pos hw]
      refine .inl (Oper.wp_mono ?_ hg)
      rintro a' w' ⟨v, rfl, hb, hv, hx⟩
      exact ih _ _ _ (hstep v w' hb hx hv) hcount
    · rename_i hw
      rw [if_neg hw]
      exact ih _ _ _ (hstep undef w (Far.refl _ _) (fun _ => hXr w) hg) hcount


def StableX (E : Nat → Prop) (X : World → World → Prop) (φ : Value → World → Prop) : Prop := ∀ v w w', φ v w → Far E w w' → X w w' → φ v w'
theorem stableX_of {E : Nat → Prop} {X : World → World → Prop} {φ : Value → World → Prop} (h : StableF E φ) : StableX E X φ := fun v w w' h1 h2 _ => h v w w' h1 h2
def StableButX (ops : Array Oper) (i : Nat) (E : Nat → Prop) (X : World → World → Prop) : Nat → List (Value → World → Prop) → Prop
  | _, [] => True
  | j, φ :: r => (i = j ∨ depB ops j i = true ∨ StableX E X φ) ∧ StableButX ops i E X (j + 1) r
def AllStableX (ops : Array Oper) (L : List (Value → World → Prop)) (xw : Nat) (X : World → World → Prop) : List (Nat × (Nat → Prop)) → Prop
  | [] => True
  | p :: r => StableButX ops p.1 p.2 (fun w w' => p.1 = xw → X w w') 0 L ∧ AllStableX ops L xw X r
theorem stableButX_get {ops : Array Oper} {i : Nat} {E : Nat → Prop} {X : World → World → Prop} : ∀ {L : List (Value → World → Prop)} {s : Nat}, StableButX ops i E X s L → ∀ j, i ≠ s + j → depB ops (s + j) i = false → StableX E X (L.getD j (fun _ _ => True))
  | [], _, _, _, _, _ => fun _ _ _ _ _ _ => by simp
  | φ :: r, s, h, 0, hne, hd => by
    rcases h.1 with h | h | h
    · exact absurd h hne
    · rw [Nat.add_zero] at hd; rw [hd] at h; cases h
    · exact h
  | φ :: r, s, h, j + 1, hne, hd => by
    have := stableButX_get (L := r) (s := s + 1) h.2 j (by omega) (by rw [show s + 1 + j = s + (j + 1) by omega]; exact hd)
    simpa using this
theorem allStableX_get {ops : Array Oper} {L : List (Value → World → Prop)} {xw : Nat} {X : World → World → Prop} : ∀ {Ws : List (Nat × (Nat → Prop))}, AllStableX ops L xw X Ws → ∀ p ∈ Ws, StableButX ops p.1 p.2 (fun w w' => p.1 = xw → X w w') 0 L
  | [], _, _, hp => by cases hp
  | q :: r, h, p, hp => by
    cases hp with
    | head => exact h.1
    | tail _ hp => exact allStableX_get h.2 p hp
def KeyOps (P : Program) (ops : Array Oper) (Q : Exit → Act → World → Prop) (L : List (Value → World → Prop)) (Ws : List (Nat × (Nat → Prop))) (xw : Nat) (X : World → World → Prop) (a0 : Act) (w0 : World) : Nat → List Oper → List (List (Tmp × Option Nat)) → List (Value → World → Prop) → Prop
  | i, o :: os, pl :: pls, φ :: φs => (∀ a w, Far (footBut Ws ops i) w0 w → PlanFacts L a0 a w pl →
      if Region.wanted o (yielded ops a.tmps) = true then o.wp P a w (fun a' w' => ∃ v, a' = a.put o.dst v ∧ Far (footOf Ws i) w w' ∧ φ (keyVal o a v) w' ∧ (i = xw → X w w')) Q else φ (keyVal o a undef) w) ∧ KeyOps P ops Q L Ws xw X a0 w0 (i + 1) os pls φs
  | _, [], _, _ => True
  | _, _, _, _ => False
theorem keyOps_get {L : List (Value → World → Prop)} {Ws : List (Nat × (Nat → Prop))} {xw : Nat} {X : World → World → Prop} {a0 : Act} {w0 : World} : ∀ {s : Nat} {os : List Oper} {pls : List (List (Tmp × Option Nat))} {φs : List (Value → World → Prop)}, KeyOps P ops Q L Ws xw X a0 w0 s os pls φs →
    ∀ (i : Nat) o pl, os[i]? = some o → pls[i]? = some pl → ∀ a w, Far (footBut Ws ops (s + i)) w0 w → PlanFacts L a0 a w pl →
      if Region.wanted o (yielded ops a.tmps) = true then o.wp P a w (fun a' w' => ∃ v, a' = a.put o.dst v ∧ Far (footOf Ws (s + i)) w w' ∧ φs.getD i (fun _ _ => True) (keyVal o a v) w' ∧ (s + i = xw → X w w')) Q else φs.getD i (fun _ _ => True) (keyVal o a undef) w
  | _, [], _, _, _, i, o, pl, ho, _ => by simp at ho
  | _, o :: os, [], _, h, _, _, _, _, _ => h.elim
  | _, o :: os, pl :: pls, [], h, _, _, _, _, _ => h.elim
  | _, o :: os, pl :: pls, φ :: φs, h, 0, o', pl', ho, hp => by
    simp at ho hp; subst ho; subst hp
    exact h.1
  | s, o :: os, pl :: pls, φ :: φs, h, i + 1, o', pl', ho, hp => by
    have := keyOps_get h.2 i o' pl' (by simpa using ho) (by simpa using hp)
    rw [show s + 1 + i = s + (i + 1) by omega] at this
    simpa using this
def KeyWords (f : Nat → Value) (w : World) : List Tmp → List (Value → World → Prop) → Prop
  | d :: ds, φ :: φs => φ (f d) w ∧ KeyWords f w ds φs
  | _, _ => True
def keysOf (ops : Array Oper) : List Tmp := ops.toList.map skey
theorem keyWords_of {f : Nat → Value} {w : World} : ∀ {os : List Oper} {L : List (Value → World → Prop)}, (∀ i o, os[i]? = some o → L.getD i (fun _ _ => True) (f (skey o)) w) → KeyWords f w (os.map skey) L
  | [], _, _ => by simp [KeyWords]
  | o :: os, [], _ => by simp [KeyWords]
  | o :: os, φ :: φs, h => by
    have ih := keyWords_of (os := os) (L := φs) (fun i o' ho => by have := h (i + 1) o' (by simpa using ho); simpa using this)
    exact ⟨h 0 o rfl, ih⟩

/-- The region's law: words for the operations, blocks for those that write, the frame behind it written out. -/
theorem wp_region_key {id : Nat} {a0 : Act} {w0 : World} (hm : P.follows .mixedOrders = true) (L : List (Value → World → Prop)) (plan : List (List (Tmp × Option Nat))) (Ks : List Tmp) (M : List Bool) (Ws : List (Nat × (Nat → Prop))) (xw : Nat) (X : World → World → Prop) (hXr : ∀ w, X w w)
    (hon : onceB Ws = true) (hok : monoOk ops a0.tmps.size = true) (hkey : keyOk ops = true) (hplan : planOf ops = plan) (hD : keysOf ops = Ks) (hM : maskOf ops a0.tmps.size = M) (hst : AllStable L) (hstF : AllStableX ops L xw X Ws) (hop : KeyOps P ops Q L Ws xw X a0 w0 0 ops.toList plan L)
    (hend : ∀ f w, Far (fun b => ∃ p ∈ Ws, p.2 b) w0 w → KeyWords f w Ks L → Q .normal { tmps := (mergeT M a0.tmps.toList 0 f).toArray, defers := a0.defers } w) :
    (Code.region id ops true).wp P Q a0 w0 := by
  refine wp_region_any hm (mono_key (w0 := w0) (fun i => L.getD i (fun _ _ => True)) (footOf Ws) xw X hXr hok hkey ?_ ?_ ?_ ops.size _ a0 _ ⟨by simp, far_below ((Below.refl _ _).drew), ?_, ?_, fun _ _ => rfl, rfl, rfl⟩ ?_)
  · intro i j v w w' hij hd hv hF hX
    by_cases hi : ∃ p ∈ Ws, p.1 = i
    · obtain ⟨p, hp, rfl⟩ := hi
      have hs := stableButX_get (allStableX_get hstF p hp) j (by omega) (by rw [Nat.zero_add]; exact hd)
      exact hs v w w' hv (hF.mono (fun b _ h => by
        obtain ⟨q, hq, e, hb⟩ := h
        rw [once_same hon hp hq e.symm]; exact hb)) hX
    · exact allStable_get hst j v w w' hv (hF.below (Nat.le_refl _) (fun k _ h => by
        obtain ⟨q, hq, e, _⟩ := h
        exact hi ⟨q, hq, e⟩))
  · intro i o ho a w hb hg
    have hlt : i < ops.size := (Array.getElem?_eq_some_iff.1 ho).1
    have hpl : plan[i]? = some ((o.looksAt ops).map fun t => (t, match wr ops t with
          | some j => if depB ops i j = true then some j else none
          | none => none)) := by
      rw [← hplan]
      unfold planOf
      rw [List.getElem?_map, List.getElem?_range hlt, Option.map_some, ho]
      try rfl
    have := keyOps_get hop i o _ (by simpa using ho) hpl a w (by
      rw [Nat.zero_add]
      exact hb.mono (fun b _ h => by
        obtain ⟨k, h1, h2, p, hp, rfl, h3⟩ := h
        exact ⟨p, hp, h1, h2, h3⟩)) (planFacts_of rfl (o := o) _ hg)
    rw [Nat.zero_add] at this
    exact this
  · intro a w hb hv hr hd hs
    have h := hend (fun t => a.tmps.getD t undef) w (hb.mono (fun b _ h => by
      obtain ⟨k, p, hp, _, h3⟩ := h
      exact ⟨p, hp, h3⟩)) (by rw [← hD]; exact keyWords_of (fun i o ho => hv i o (by simpa using ho)))
    have e : mergeT M a0.tmps.toList 0 (fun t => a.tmps.getD t undef) = a.tmps.toList := by
      refine mergeT_eq _ _ _ _ _ (by rw [← hM]; simp [maskOf]) (by simpa using hs) ?_ ?_
      · intro j hj _
        simp [Array.getD_eq_getD_getElem?, List.getD_eq_getElem?_getD]
      · intro j hj hb
        rw [← hM] at hb
        have hj' : j < a0.tmps.size := by rw [← hs]; simpa using hj
        have hw : wr ops j = none := by
          unfold maskOf at hb
          simp [List.getD_eq_getElem?_getD, List.getElem?_map, List.getElem?_range hj'] at hb
          exact hb
        have := hr j hw
        simpa [Array.getD_eq_getD_getElem?, List.getD_eq_getElem?_getD] using this
    rw [e, ← hd] at h
    exact h
  · intro k hk
    simp [Array.getD_eq_getD_getElem?] at hk
    rcases h : (Array.replicate ops.size false)[k]? with _ | b <;> simp [h] at hk
    subst hk
    have := Array.getElem?_eq_some_iff.1 h
    obtain ⟨h1, h2⟩ := this
    simp at h2
  · intro i o ho hk
    exfalso
    simp [Array.getD_eq_getD_getElem?] at hk
    rcases h : (Array.replicate ops.size false)[i]? with _ | b <;> simp [h] at hk
    subst hk
    have := Array.getElem?_eq_some_iff.1 h
    obtain ⟨h1, h2⟩ := this
    simp at h2
  · exact Nat.le_trans List.countP_le_length (by simp)
end
end Go.Proofs.YtamafdcnbcoegaaGreat
namespace Go.Proofs.YtamafdcnbcoegaaGreat
open Go.RowKit

theorem pk_not_cells {w : World} {p e : Nat} {logs : Nat → List ByteArray} {sh : Nat → List (Nat × Value)} {st : Mod.Stv} {c : Sv} (H : PkAt w p e logs sh st c) {q : Nat} {cs : Array Value} {t : TypeId} {fr : Nat × Nat} (hb : w.heap[q]? = some (.cells cs t fr))
    (h1 : t ≠ 176) (h2 : t ≠ 9) (h3 : t ≠ 3) (h4 : t ≠ 203) (h5 : t ≠ 252) (h6 : t ≠ 5) (h7 : t ≠ 261) (h8 : t ≠ 179) : ¬ PkU p c q := by
  rintro (h | (h | h) | h)
  · exact ks_not_cells H.ks hb h1 h2 h3 h
  · subst h
    have := H.stt.blk
    rw [hb] at this
    injection this with this
    injection this with _ this _
    exact h4 this
  · exact dk_ne H.stt.dk hb (fun e => h5 e.symm) (fun e => h6 e.symm) (fun e => h7 e.symm) h
  · exact H.rl.ne hb (fun e => h8 e.symm) h
/-- The logs when out is committed to one. -/
theorem grown_zero (a : Mod.Sk) (s : Nat) : (grown a s []).logs = a.logs := by
  funext t
  show (if t = s then a.logs s ++ [] else a.logs t) = _
  split
  · rename_i h; subst h; simp
  · rfl
theorem grown_snoc (a : Mod.Sk) (s : Nat) (out : List ByteArray) (c : ByteArray) : (fun j => if j = s then (grown a s out).logs s ++ [c] else (grown a s out).logs j) = (grown a s (out ++ [c])).logs := by
  funext t
  show (if t = s then (if s = s then a.logs s ++ out else a.logs s) ++ [c] else (if t = s then a.logs s ++ out else a.logs t)) = if t = s then a.logs s ++ (out ++ [c]) else a.logs t
  split
  · simp
  · rfl
theorem grown_sum (a : Mod.Sk) (s : Nat) (hs : s < 3) (out : List ByteArray) : ((grown a s out).logs 0).length + ((grown a s out).logs 1).length + ((grown a s out).logs 2).length = a.count + out.length := grown_count a s hs out
theorem grown_self (a : Mod.Sk) (s : Nat) (out : List ByteArray) : (grown a s out).logs s = a.logs s ++ out := by
  show (if s = s then _ else _) = _
  rw [if_pos rfl]
/-- Boxes of a record are boxes of a record still. -/
def RecKept (w1 w2 : World) : Prop := ∀ (g : Nat) (x : ByteArray), w1.heap[g]? = some (.cells #[.string x] 235 (0, 0)) → ∃ x' : ByteArray, w2.heap[g]? = some (.cells #[.string x'] 235 (0, 0))
theorem recKept_refl (w : World) : RecKept w w := fun _ x h => ⟨x, h⟩
theorem recKept_set (w : World) (g : Nat) (b : ByteArray) : RecKept w (w.setCell ⟨g, 0, none⟩ (.string b)) := by
  intro k x h
  by_cases e : k = g
  · subst e
    have := blk_set (j := 0) (v := .string b) h
    exact ⟨b, by simpa using this⟩
  · exact ⟨x, (far_set w g 0 (.string b)).blk h e⟩
def sliceLen : Option Value → Nat
  | some (.slice _ n _) => n
  | _ => 0
/-- In the midst of commitFrom. -/
def CmAt (w x : World) (p : Nat) (a : Mod.Sk) (i : Nat) (b : ByteArray) (c : Sv) (out : List ByteArray) : Prop :=
  ∃ sh st, InCm a i ((a.logs i).length + 1) b out sh ∧ Sound st ∧ PkStep w x p a.epoch (grown a i out).logs sh st c
theorem commit_sound {w : World} {p : Nat} {a : Mod.Sk} {sh : Nat → List (Nat × Value)} {st : Mod.Stv} {c : Sv} {out : List ByteArray} {i : Nat} (hi : i < 3) (H : PkAt w p a.epoch (grown a i out).logs sh st c) (hs : Sound st) (b : ByteArray) (hb : b.size ≤ 20) (hroom : a.count + out.length < 120) :
    Calls Tryz.prog 222 #[ptrTo p, .int .i64 i, .string b] w fun r w' => r = .returned (.int .i64 0) ∧ ∃ st', Sound st' ∧ PkStep w w' p a.epoch (grown a i (out ++ [b])).logs sh st' c := by
  refine (commit_any H i hi b hb (by rw [grown_sum a i hi]; exact hroom)).mono ?_
  rintro r w' ⟨rfl, h⟩
  have h0 := sound_rec hs (((grown a i out).logs 0).length + ((grown a i out).logs 1).length + ((grown a i out).logs 2).length) i (((grown a i out).logs i).length + 1) b.data.toList
  rw [if_pos h0.1, grown_snoc] at h
  exact ⟨by rw [h0.1], _, h0.2, h⟩

set_option maxRecDepth 100000 in
set_option maxHeartbeats 4000000 in
theorem commitFrom_any {w : World} {p : Nat} {a : Mod.Sk} {sh : Nat → List (Nat × Value)} {st : Mod.Stv} {c : Sv} (H : PkAt w p a.epoch a.logs sh st c) (hc : Sound st) (G : SkGood a) (M : SkMore a) (O : OnSh a.held sh) (i : Nat) (hi : i < 3) (b : ByteArray) (hb : b.size ≤ 20) (hroom : a.count < 120) :
    Calls Tryz.prog 205 #[ptrTo p, .int .i64 i, .string b] w fun r w' => r = .returned (.int .i64 0) ∧
      ∃ out, CmAt w w' p a i b c out ∧ out = a.commitFrom i ((a.logs i).length + 1) a.count 120 [b] := by
  have I0 := inCm_start G M O H.ks.are i b hi hb hroom
  have hC0 := hide (commit_sound (out := []) hi (by rw [grown_zero]; exact H) hc b hb (by simpa using hroom))
  have hpl := lt_of_block H.ks.blk
  have hlen : (a.logs i).length ≤ 120 := H.ks.loglen hi
  have hi0 : (0 : Int) ≤ (i : Int) := by omega
  have hi3 : (i : Int) < 3 := by omega
  have HI0 := hide I0
  clear H I0
  unfold ptrTo at *
  go_enter Tryz.func205, Tryz.ntmps205
  go_upto_region 3 with (go_at_call 222; refine (unhide hC0).mono ?_; rintro r y ⟨rfl, st1, hs1, hk1⟩)
  have HC1 : Hid (CmAt w y p a i b c [b]) := ⟨sh, st1, unhide HI0, hs1, by simpa using hk1⟩
  clear hs1 hk1 HI0 hC0
  go_loopw [8, 9, 10] (fun v8 _ _ wr => v8 = .int .i64 0 ∧ ∃ out, CmAt w wr p a i b c out) (fun _ _ _ wr => 200 - sliceLen (wr.cell? ⟨p, 2 + i * 3, none⟩))
  case atStart => exact ⟨rfl, [b], unhide HC1⟩
  case round =>
    obtain ⟨rfl, out, sh1, st1, I, hs1, hk1⟩ := hrel
    clear HC1
    obtain ⟨c1, K1, F1, N1, e1, e2⟩ := id hk1
    have hgs := grown_self a i out
    obtain ⟨ad, cap, hlv, clog⟩ := K1.ks.logc hi
    rw [hgs, List.length_append] at hlv clog
    have hRM := hide (hasRoom_any K1.ks)
    rw [grown_sum a i hi] at hRM
    have HI := hide I
    have HK := hide hk1
    have HK1 := hide K1
    have hmes : 200 - sliceLen (wr.cell? ⟨p, 2 + i * 3, none⟩) = 200 - ((a.logs i).length + out.length) := by rw [clog]; rfl
    by_cases hr : a.count + out.length < 120
    · rw [decide_eq_true hr] at hRM
      obtain ⟨q, hq⟩ : ∃ q, q = (a.logs i).length + out.length + 1 := ⟨_, rfl⟩
      have hoL : out.length ≤ 120 := by omega
      have hNX := fun y (hy : Below wr.heap.size wr y) => hide (sinkNext_any y p (2 + i * 3) _ cap ad ((hy.cell (p := ⟨p, 2 + i * 3, none⟩) (lt_of_block K1.ks.blk)).trans clog) (by omega))
      rw [← hq] at hNX
      have hTK : ∃ (tb : ByteArray) (hv : Bool) (sh2 : Nat → List (Nat × Value)), (∀ y, Below wr.heap.size wr y → Calls Tryz.prog 223 #[.pointer (some ⟨p, 2 + i * 3 + 1, none⟩), .int .i64 q] y fun r w' => r = .returned (.tuple #[.agg #[.string tb], .bool hv]) ∧ TkAt wr w' p a.epoch (grown a i out).logs sh2 st1 c1 ∧ Far (fun k => k = p ∨ ShU (c1.nv i) (c1.mv i) k) y w') ∧
          ((hv = true ∧ look (sh1 i) (q : Int) = some (recS tb) ∧ sh2 = fun t => if t = i then delL (sh1 i) q else sh1 t) ∨ (hv = false ∧ look (sh1 i) (q : Int) = none ∧ sh2 = sh1)) := by
        rcases areS_look (K1.ks.are i hi) (q : Int) with ⟨tb, hl⟩ | hl
        · refine ⟨tb, true, _, ?_, .inl ⟨rfl, hl, rfl⟩⟩
          intro y hy
          have Ky := K1.far (far_below (E := fun _ => False) hy) (fun _ _ h => h)
          refine (takeS_some (Ky.shAt hi) q tb hl).mono ?_
          rintro r w' ⟨rfl, hT⟩
          obtain ⟨c', h1, h2, h3, h4, h5⟩ := tkAt_took Ky hi hT (fun x hx => K1.ks.are i hi x ((delL_sub _ _).subset hx))
          exact ⟨rfl, ⟨c', h1, h2, (far_below (E := PkU p c1) hy).trans h3 (fun _ _ h => h), h4, h5⟩, hT.far⟩
        · refine ⟨⟨#[]⟩, false, _, ?_, .inr ⟨rfl, hl, rfl⟩⟩
          intro y hy
          have Ky := K1.far (far_below (E := fun _ => False) hy) (fun _ _ h => h)
          refine (takeS_none (Ky.shAt hi) q hl).mono ?_
          rintro r w' ⟨rfl, hT⟩
          exact ⟨rfl, ⟨c1, Ky.far (far_below (E := fun _ => False) hT) (fun _ _ h => h), fun _ h => h, (far_below (E := PkU p c1) hy).trans (far_below hT) (fun _ _ h => h), rfl, rfl⟩, far_below hT⟩
      have hEl : ∀ k, (k = p ∨ ShU (c1.nv i) (c1.mv i) k) → k < wr.heap.size := fun k hk => K1.ks.lt k (hk.elim .inl (fun h => .inr (.inr ⟨i, hi, h⟩)))
      have hUl : ∀ k, PkU p c1 k → k < wr.heap.size := K1.lt
      have hSort := (K1.ks.shs i hi).sorted
      have hN1 : ∀ k, PkU p c1 k → PkU p c k ∨ w.heap.size ≤ k := N1
      have hFw := F1
      obtain ⟨tb, hv, sh2, hT1, hT2⟩ := hTK
      have HT1 := hide hT1
      have HT2 := hide hT2
      have HQ := hide hq
      have HSORT := hide hSort
      have HMES := hide hmes
      have HFN := hide (And.intro hN1 (And.intro hFw (And.intro e1 e2)))
      clear hk1 K1 F1 N1 I hlv clog hgs hmes hT1 hT2 hq hSort hN1 hFw e1 e2
      unfold ptrTo at hRM
      go_upto_region 4 with (go_at_call 204; refine (unhide hRM).mono ?_; rintro r y ⟨rfl, rfl⟩)
      refine wp_region_key (by kernel_rfl)
        [fun v _ => v = .pointer (some ⟨p, 2 + i * 3, none⟩), fun v _ => v = .pointer (some ⟨p, 2 + i * 3, none⟩), fun v _ => v = .pointer (some ⟨p, 2 + i * 3 + 1, none⟩), fun v _ => v = .pointer (some ⟨p, 2 + i * 3, none⟩), fun v _ => v = .int .i64 q, fun v z => v = .tuple #[.agg #[.string tb], .bool hv] ∧ TkAt y z p a.epoch (grown a i out).logs sh2 st1 c1, fun v _ => v = .tuple #[.agg #[.string tb], .bool hv], fun v _ => v = .agg #[.string tb], fun v _ => v = .bool hv,
         fun v z => ∃ g x, v = .pointer (some ⟨g, 0, none⟩) ∧ y.heap.size ≤ g ∧ z.heap[g]? = some (.cells #[.string x] 235 (0, 0)), fun v z => ∃ g, v = .pointer (some ⟨g, 0, none⟩) ∧ y.heap.size ≤ g ∧ z.heap[g]? = some (.cells #[.string tb] 235 (0, 0)), fun v _ => v = .bool hv]
        [[(7, none)], [(27, some 0)], [(28, some 1)], [(7, none)], [(30, some 3)], [(29, some 2), (31, some 4)], [(32, some 5)], [(26, some 6)], [(26, some 6)], [], [(9, some 9), (33, some 7)], [(34, some 8)]] [27, 28, 29, 30, 31, 32, 26, 33, 34, 9, 9, 10] [false, false, false, false, false, false, false, false, false, true, true, false, false, false, false, false, false, false, false, false, false, false, false, false, false, false, true, true, true, true, true, true, true, true, true, false, false, false, false, false, false, false, false]
        [(5, fun k => k = p ∨ ShU (c1.nv i) (c1.mv i) k), (10, fun k => y.heap.size ≤ k)]
        10 RecKept recKept_refl
        (by kernel_rfl) (by kernel_rfl) (by kernel_rfl) (by kernel_rfl) (by kernel_rfl) (by kernel_rfl) ?_ ?_ ?_ ?_
      · repeat' (first | exact stable_eq _ | exact stable_true | exact (fun _ u z h hb => ⟨h.1, h.2.far hUl (far_below (E := fun _ => False) hb) (fun _ h => h.elim)⟩) | exact (fun _ u z h hb => h.imp fun _ h => h.imp fun _ h => ⟨h.1, h.2.1, (hb.block _ (lt_of_block h.2.2)).trans h.2.2⟩) | exact (fun _ u z h hb => h.imp fun _ h => ⟨h.1, h.2.1, (hb.block _ (lt_of_block h.2.2)).trans h.2.2⟩) | exact trivial | apply And.intro)
      · refine ⟨?_, ?_, trivial⟩
        · repeat' (first | exact trivial | exact .inl rfl | exact .inr (.inr (stableX_of (stableF_eq _ _))) | exact .inr (.inr (stableX_of (fun _ u z h hF => h.imp fun g h => h.imp fun _ h => ⟨h.1, h.2.1, hF.blk h.2.2 (fun e => by have := hEl g e; omega)⟩))) | exact .inr (.inr (stableX_of (fun _ u z h hF => h.imp fun g h => ⟨h.1, h.2.1, hF.blk h.2.2 (fun e => by have := hEl g e; omega)⟩))) | apply And.intro)
        · repeat' (first | exact trivial | exact .inl rfl | exact .inr (.inr (stableX_of (stableF_eq _ _))) | exact .inr (.inr (stableX_of (fun _ u z h hF => ⟨h.1, h.2.far hUl hF (fun _ h => h)⟩))) | exact .inr (.inr (fun _ u z h _ hX => h.imp fun g h => by obtain ⟨x, h1, h2, h3⟩ := h; obtain ⟨x', h4⟩ := hX rfl g x h3; exact ⟨x', h1, h2, h4⟩)) | apply And.intro)
      · refine ⟨?_, ?_, ?_, ?_, ?_, ?_, ?_, ?_, ?_, ?_, ?_, ?_, trivial⟩
        all_goals
          intro a' z hb hf
          simp only [PlanFacts, List.getD_cons_zero, List.getD_cons_succ, Array.getD_eq_getD_getElem?] at hf
          try simp at hf
        iterate 4
          · clear hb
            go_simp
            exact ⟨_, rfl, Far.refl _ _, rfl⟩
        · have hbz : Below y.heap.size y z := hb.below (Nat.le_refl _) (by
            rintro k hk ⟨q', hq', g1, g2, g3⟩
            simp at hq'
            rcases hq' with rfl | rfl
            · exact absurd (show depB _ 5 4 = false from g2) (by decide +kernel)
            · have g3 : y.heap.size ≤ k := g3
              omega)
          have HC := hide (unhide (hNX z hbz))
          clear hb hbz
          go_simp
          refine (unhide HC).mono ?_
          rintro r z2 ⟨rfl, rfl⟩
          exact ⟨_, rfl, Far.refl _ _, rfl⟩
        · have hbz : Below y.heap.size y z := hb.below (Nat.le_refl _) (by
            rintro k hk ⟨q', hq', g1, g2, g3⟩
            simp at hq'
            rcases hq' with rfl | rfl
            · exact g1 rfl
            · have g3 : y.heap.size ≤ k := g3
              omega)
          have HC := hide ((unhide HT1) z hbz)
          clear hb hbz
          go_simp
          refine (unhide HC).mono ?_
          rintro r z2 ⟨rfl, h1, h2⟩
          exact ⟨_, rfl, footOf_of (.head _) h2, ⟨rfl, h1⟩⟩
        · obtain ⟨hf, _⟩ := hf
          clear hb
          go_simp
          exact ⟨_, rfl, Far.refl _ _, rfl⟩
        iterate 2
          · clear hb
            go_simp
            exact ⟨_, rfl, Far.refl _ _, rfl⟩
        · have hzz := hb.size
          clear hb
          go_simp
          exact ⟨_, rfl, far_below ((Below.refl _ _).alloc (Nat.le_refl _) _), ⟨_, rfl, hzz, ⟨#[]⟩, heap_alloc_new _ _⟩⟩
        · obtain ⟨⟨g, hg1, hg2, x0, hg3⟩, hf33⟩ := hf
          clear hb
          have y0 : z.cell? ⟨g, 0, none⟩ = some (.string x0) := blk_cell (i := 0) hg3
          have yf : z.frozen? ⟨g, 0, none⟩ = false := blk_free (i := 0) hg3
          have HG := hide (And.intro hg2 hg3)
          clear hg2 hg3
          have hk9 := hg1
          go_simp
          obtain ⟨g1, g2⟩ := unhide HG
          refine ⟨footOf_of (.tail _ (.head _)) ((far_set z g 0 (.string tb)).mono (fun k _ e => by rw [e]; exact g1)), ⟨undef, g, ?_, g1, ?_⟩, ?_⟩
          · show a'.tmps.getD 9 undef = _
            rw [Array.getD_eq_getD_getElem?]
            exact hk9
          · have := blk_set (j := 0) (v := .string tb) g2
            simpa using this
          · exact recKept_set z g tb
        · clear hb
          go_simp
          exact ⟨_, rfl, Far.refl _ _, rfl⟩
      · intro f z hF hwd
        obtain ⟨_, hT⟩ := hwd.2.2.2.2.2.1
        obtain ⟨g, hg1, hg2, hg3⟩ := hwd.2.2.2.2.2.2.2.2.2.2.1
        have h10 := hwd.2.2.2.2.2.2.2.2.2.2.2.1
        clear hwd hF
        simp only [mergeT, hg1, h10]
        generalize f 26 = x26
        generalize f 27 = x27
        generalize f 28 = x28
        generalize f 29 = x29
        generalize f 30 = x30
        generalize f 31 = x31
        generalize f 32 = x32
        generalize f 33 = x33
        generalize f 34 = x34
        obtain ⟨hN1, hFw, e1, e2⟩ := unhide HFN
        obtain ⟨c2, K2, S2, F2, t1, t2⟩ := hT
        have hST : PkStep w z p a.epoch (grown a i out).logs sh2 st1 c := ⟨c2, K2, hFw.trans F2 (fun k hk hu => (hN1 k hu).elim id (fun h => by omega)), fun k hk => hN1 k (S2 k hk), t1.trans e1, t2.trans e2⟩
        have HST := hide hST
        have zb : z.cell? ⟨g, 0, none⟩ = some (.string tb) := blk_cell (i := 0) hg3
        have HK2 := hide K2
        have hlow : ∀ k, PkU p c2 k → PkU p c k ∨ w.heap.size ≤ k := fun k hk => hN1 k (S2 k hk)
        have hfz := hFw.trans F2 (fun k hk hu => (hN1 k hu).elim id (fun h => by omega))
        have HLOW := hide (And.intro hlow (And.intro hfz (And.intro (t1.trans e1) (t2.trans e2))))
        rcases unhide HT2 with ⟨rfl, hl, hsh⟩ | ⟨rfl, hl, hsh⟩
        · have hq := unhide HQ
          have I := unhide HI
          have hbt : tb.size ≤ 20 := M.bod _ ((I.on i hi q tb).1 hl).1
          rw [hq] at hl hsh
          have I2 := inCm_next G M hi I hr (unhide HSORT) hl
          rw [← hsh] at I2
          have hCM := hide (commit_sound (out := out) hi K2 hs1 tb hbt hr)
          have HI2 := hide I2
          unfold ptrTo at hCM
          clear hl hsh hq I I2 hST K2 S2 F2 hlow hfz hN1 hFw e1 e2 t1 t2 hg3 HT1 HT2 HQ HI HK HK1 HFN HST
          go_wp2_with (go_at_call 222; refine (unhide hCM).mono ?_; rintro r u ⟨rfl, st2, hs2, hk2⟩)
          have hmes := unhide HMES
          go_roundw
          case rel =>
            obtain ⟨hlow, hfz, t1, t2⟩ := unhide HLOW
            obtain ⟨c3, K3, F3, N3, s1, s2⟩ := hk2
            refine ⟨rfl, out ++ [tb], sh2, st2, unhide HI2, hs2, c3, K3, hfz.trans F3 (fun k hk hu => (hlow k hu).elim id (fun h => by omega)), fun k hk => ?_, s1.trans t1, s2.trans t2⟩
            have hsz := hfz.size
            rcases N3 k hk with h | h
            · exact hlow k h
            · exact .inr (Nat.le_trans hsz h)
          case measure =>
            obtain ⟨c3, K3, F3, N3, s1, s2⟩ := hk2
            obtain ⟨ad3, cap3, _, cl⟩ := K3.ks.logc hi
            rw [hmes, cl]
            show 200 - ((grown a i (out ++ [tb])).logs i).length < _
            rw [grown_self, List.length_append, List.length_append, List.length_singleton]
            have hcl := count_len (a := a) hi
            omega
        · have hq := unhide HQ
          have I := unhide HI
          rw [hq] at hl
          have HOUT := hide (inCm_stop hi I (.inr hl))
          subst hsh
          clear hl hq I hST K2 S2 F2 hlow hfz hN1 hFw e1 e2 t1 t2 hg3 HT1 HT2 HQ HK HK1 HFN HLOW HK2
          go_wp2
          go_ret
          exact ⟨rfl, out, ⟨_, st1, unhide HI, hs1, unhide HST⟩, unhide HOUT⟩
    · rw [decide_eq_false hr] at hRM
      have HST := hide (inCm_stop hi I (.inl hr))
      clear hk1 K1 F1 N1 I hlv clog hgs hmes
      unfold ptrTo at hRM
      go_wp2_with (go_at_call 204; refine (unhide hRM).mono ?_; rintro r y ⟨rfl, rfl⟩)
      go_ret
      exact ⟨rfl, out, ⟨sh1, st1, unhide HI, hs1, unhide HK⟩, unhide HST⟩
end Go.Proofs.YtamafdcnbcoegaaGreat
