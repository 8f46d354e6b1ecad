/-
  Part 10 of a proof: L11, MonoKey, K7, K9, K10, K11, K12, K13, K14, K16, L12.
-/
import Derived.Test.YtamafdcnbcoegaaGreatMd9
namespace Go.Proofs.YtamafdcnbcoegaaGreat
open Go.RowKit
section
variable {w : World} {p : Nat} {g : Nat → Nat} {free : List Nat} {sh : Nat → List (Nat × Value)} {st : Mod.Stv} {c : Av} {a : Mod.Ag} {pl : Nat → List Nat}
set_option maxRecDepth 100000 in
set_option maxHeartbeats 4000000 in
theorem obeyAck_skip (H : PaAt w p g a.ticks a.welcome a.fenced free sh st c) (O : OnAg a st.opening g free sh pl) (e : Nat) (s q : Int) (b : ByteArray) (he : e ≠ a.epoch ∨ a.welcome = false) :
  Calls Tryz.prog 105 #[ptrTo p, .agg #[.int .i64 4, .int .i64 e, .int .i64 s, .int .i64 q, .string b]] w fun r z => r = .returned (.int .i64 0) ∧ Below w.heap.size w z := by
 have HEP := fun z (hz : Below w.heap.size w z) => hide (agEpoch_any (H.below hz))
 have hpl := lt_of_block H.ks.blk
 have c24 : w.cell? ⟨p, 24, none⟩ = some (.bool a.welcome) := by rw [blk_cell H.ks.blk, H.ks.aw]
 obtain ⟨ep, hep⟩ : ∃ ep, ep = a.epoch := ⟨_, rfl⟩
 have hop : st.opening = ep := by rw [hep]; exact O.ep
 rw [hop] at HEP
 rw [← hep] at he
 have DD := hide (boxAt_new w #[.int .i64 4, .int .i64 e, .int .i64 s, .int .i64 q, .string b])
 generalize a.welcome = wel at *
 clear H O hop hep
 unfold ptrTo at *
 go_enter Tryz.func105, Tryz.ntmps105
 go_upto_region 1 with fail
 refine wp_world (BoxAt w #[.int .i64 4, .int .i64 e, .int .i64 s, .int .i64 q, .string b]) (unhide DD) ?_
 clear DD
 intro x X
 have y1 := blk_cell (i := 1) X.box
 simp at y1
 have d24 := (X.bel.cell (p := ⟨p, 24, none⟩) hpl).trans c24
 have HE1 := fun n => hide (unhide (HEP (x.drewN n) (X.drewN n).bel))
 have HX := hide X
 clear X c24
 by_cases hne : e = ep
 ·have hwf : wel = false := he.resolve_left (fun h => h hne)
  subst hwf
  have hn : ((e : Int) != (ep : Int)) = false := by simp [hne]
  go_quiet (first | (go_at_call 66; exact Calls.quiet_of_same (unhide (HE1 _))))
  go_wp2
  go_ret
  exact ⟨rfl, ((unhide HX).drewN _).bel⟩
 ·have hn : ((e : Int) != (ep : Int)) = true := by simp; omega
  go_quiet (first | (go_at_call 66; exact Calls.quiet_of_same (unhide (HE1 _))))
  go_wp2
  go_ret
  exact ⟨rfl, ((unhide HX).drewN _).bel⟩
set_option maxRecDepth 100000 in
set_option maxHeartbeats 8000000 in
theorem obeyAck_do (H : PaAt w p g a.ticks a.welcome a.fenced free sh st c) (hs : Sound st) (O : OnAg a st.opening g free sh pl) (e : Nat) (s q : Nat) (b : ByteArray) (he : e = a.epoch) (hw : a.welcome = true) (hs3 : s < 3) (hb1 : 0 < b.size) (hbnd : ∀ i, i < 3 → (a.fl i).base + (a.fl i).kept.length ≤ 1000000000) :
  Calls Tryz.prog 105 #[ptrTo p, .agg #[.int .i64 4, .int .i64 e, .int .i64 s, .int .i64 q, .string b]] w fun r z => r = .returned (.int .i64 0) ∧ AgIs w z p (a.deliver 4 e s q b) c := by
 have hpl := lt_of_block H.ks.blk
 have HEP := fun z (hz : Below w.heap.size w z) => hide (agEpoch_any (H.below hz))
 have c24 : w.cell? ⟨p, 24, none⟩ = some (.bool true) := by rw [blk_cell H.ks.blk, H.ks.aw, hw]
 obtain ⟨sq, hsq⟩ : ∃ sq, sq = a.ackSeq s q := ⟨_, rfl⟩
 have hsq2 : sq = min q ((a.fl s).base + (a.fl s).kept.length) := by rw [hsq]; rfl
 obtain ⟨n, hn⟩ : ∃ n, n = a.says 4 e s q b := ⟨_, rfl⟩
 have hd : a.deliver 4 e s q b = if sq < (a.fl s).base then a else { a.drop n with fl := Mod.upd (a.drop n).fl s { (a.drop n).fl s with held := Mod.bitsOf sq b[0].toNat 3 } } := by
  unfold Mod.Ag.deliver
  rw [if_neg (by omega), if_neg (by omega), if_neg (by omega), if_neg (by omega), if_pos rfl, hn, body0 hb1]
  have hst : ((s : Nat) : Int).toNat = s := rfl
  rw [hst, ← hsq, hw]
  by_cases h : sq < (a.fl s).base
  ·rw [if_pos (.inr h), if_pos h]
  ·rw [if_neg (by simp; omega), if_neg h]
 have hnl : ∀ i, i < 3 → n i ≤ (a.fl i).kept.length := fun i _ => by rw [hn]; exact says_le _ _ _ _ _ _ _
 have hni : ∀ i, n i = if i = s then min (q - (a.fl s).base) (a.fl s).kept.length else 0 := fun i => by
  rw [hn]
  unfold Mod.Ag.says
  rw [if_neg (by omega), if_neg (by omega)]
  by_cases h : i = s
  ·subst h
   rw [if_pos ⟨rfl, rfl, hw⟩, if_pos rfl]
   unfold Mod.Ag.gone
   congr 1
   omega
  ·rw [if_neg (fun h' => h (by have := h'.2.1; omega)), if_neg h]
 obtain ⟨X, hX⟩ : ∃ X : Nat → Nat, X = fun i => if i = s then sq else (a.fl i).base := ⟨_, rfl⟩
 have hLG : ¬ sq < (a.fl s).base → ∀ z, Below w.heap.size w z → Hid (Calls Tryz.prog 152 #[ptrTo p, .agg #[.int .i64 (X 0), .int .i64 (X 1), .int .i64 (X 2)]] z fun r z' => r = .returned (.int .i64 0) ∧ AgIs z z' p (a.drop n) c) := fun hlt z hz => by
  have hXi : ∀ i, i < 3 → X i = (a.fl i).base + n i := fun i hi => by
   rw [hX, hni i]
   show (if i = s then sq else (a.fl i).base) = _
   by_cases h : i = s
   ·subst h; rw [if_pos rfl, if_pos rfl]; omega
   ·rw [if_neg h, if_neg h]; rfl
  refine hide (letGo_any (H.below hz) hs O n X hnl hXi (fun i hi => ?_))
  have := hbnd i hi
  have := hnl i hi
  rw [hXi i hi]
  omega
 have hLs := fun z (hz : Below w.heap.size w z) => agLast_any (H.below hz) O hs3 (O.bs s hs3)
 have q0 : w.cell? ⟨p, 1, none⟩ = some (.int .i64 (a.fl 0).base) := by rw [blk_cell H.ks.blk, ← O.bs 0 (by omega)]; exact H.ks.ag 0 (by omega)
 have q1 : w.cell? ⟨p, 2, none⟩ = some (.int .i64 (a.fl 1).base) := by rw [blk_cell H.ks.blk, ← O.bs 1 (by omega)]; exact H.ks.ag 1 (by omega)
 have q2 : w.cell? ⟨p, 3, none⟩ = some (.int .i64 (a.fl 2).base) := by rw [blk_cell H.ks.blk, ← O.bs 2 (by omega)]; exact H.ks.ag 2 (by omega)
 have qs : w.cell? ⟨p, 1 + s, none⟩ = some (.int .i64 (a.fl s).base) := by rw [blk_cell H.ks.blk, ← O.bs s hs3]; exact H.ks.ag s hs3
 obtain ⟨bl, hbl⟩ : ∃ v, v = (a.fl s).base + (a.fl s).kept.length := ⟨_, rfl⟩
 rw [← hbl] at hLs hsq2
 have HLs := fun z hz => hide (hLs z hz)
 have hmn : min (q : Int) (bl : Int) = (sq : Int) := by omega
 have hsqm : sq ≤ 1000000000 := by have := hbnd s hs3; omega
 have hHD := fun z => hide (frameHeld_any sq hsqm b hb1 z)
 obtain ⟨bits, hbits⟩ : ∃ l, l = Mod.bitsOf sq b[0].toNat 3 := ⟨_, rfl⟩
 have hbl3 : bits.length ≤ 3 := by rw [hbits]; exact bitsOf_len _ _ _
 rw [← hbits] at hd hHD
 obtain ⟨ep, hep⟩ : ∃ ep, ep = a.epoch := ⟨_, rfl⟩
 have hop : st.opening = ep := by rw [hep]; exact O.ep
 rw [hop] at HEP
 have hne : ((e : Int) != (ep : Int)) = false := by simp; omega
 obtain ⟨a2, ha2⟩ : ∃ a2, a2 = a.deliver 4 e s q b := ⟨_, rfl⟩
 rw [← ha2] at hd ⊢
 obtain ⟨a1, ha1⟩ : ∃ a1, a1 = a.drop n := ⟨_, rfl⟩
 rw [← ha1] at hd hLG
 have HD := hide hd
 have DD := hide (boxAt_new w #[.int .i64 4, .int .i64 e, .int .i64 s, .int .i64 q, .string b])
 obtain ⟨bs, hbs⟩ : ∃ v, v = (a.fl s).base := ⟨_, rfl⟩
 rw [← hbs] at qs hLG
 have hXX : #[Value.int .i64 (X 0), .int .i64 (X 1), .int .i64 (X 2)] = (#[Value.int .i64 (a.fl 0).base, .int .i64 (a.fl 1).base, .int .i64 (a.fl 2).base] : Array Value).setIfInBounds s (.int .i64 sq) := by
  rw [hX]
  obtain rfl | rfl | rfl : s = 0 ∨ s = 1 ∨ s = 2 := by omega
  all_goals simp
 have HXX := hide hXX
 have HBS := hide hbs
 have HREF := hide (agIs_refl H hs O)
 have hi0 : (0 : Int) ≤ (s : Int) := by omega
 have hi3 : (s : Int) < 3 := by omega
 generalize (a.fl 0).base = g0 at *
 generalize (a.fl 1).base = g1 at *
 generalize (a.fl 2).base = g2 at *
 obtain ⟨x0, hx0⟩ : ∃ x, x = X 0 := ⟨_, rfl⟩
 obtain ⟨x1, hx1⟩ : ∃ x, x = X 1 := ⟨_, rfl⟩
 obtain ⟨x2, hx2⟩ : ∃ x, x = X 2 := ⟨_, rfl⟩
 rw [← hx0, ← hx1, ← hx2] at hLG HXX
 have HLG := hide hLG
 have HNB := hide (fun h => absurd (H.lt _ h) (by omega) : ¬ PaU p c w.heap.size)
 clear H O hs hn hd hnl hni hX hLs hop hep ha2 ha1 he hw hbnd hsq hsq2 hbl hbits hbs hXX hx0 hx1 hx2 hLG hb1 hsqm
 unfold ptrTo at *
 go_enter Tryz.func105, Tryz.ntmps105
 go_upto_region 1 with fail
 refine wp_world (BoxAt w #[.int .i64 4, .int .i64 e, .int .i64 s, .int .i64 q, .string b]) (unhide DD) ?_
 clear DD
 intro x X9
 have y1 := blk_cell (i := 1) X9.box
 simp at y1
 have d24 := (X9.bel.cell (p := ⟨p, 24, none⟩) hpl).trans c24
 have HE1 := fun n => hide (unhide (HEP (x.drewN n) (X9.drewN n).bel))
 have HX := hide X9
 clear X9 c24
 go_quiet (first | (go_at_call 66; exact Calls.quiet_of_same (unhide (HE1 _))))
 go_upto_region 3 with fail
 refine wp_world (BoxAt w #[.int .i64 4, .int .i64 e, .int .i64 s, .int .i64 q, .string b]) ((unhide HX).drewN _) ?_
 clear HX y1 HE1 d24
 intro x X9
 have y2 := blk_cell (i := 2) X9.box
 have y3 := blk_cell (i := 3) X9.box
 simp at y2 y3
 have hxl := X9.lt
 have HX := hide X9
 clear X9
 refine wp_region_frame (by kernel_rfl)
  [fun v _ => v = .pointer (some ⟨w.heap.size, 3, none⟩), fun v _ => v = .int .i64 q, fun v _ => v = .pointer (some ⟨p, 0, none⟩), fun v _ => v = .pointer (some ⟨w.heap.size, 2, none⟩), fun v _ => v = .int .i64 s, fun v _ => v = .int .i64 bl, fun v _ => v = .int .i64 sq, fun v _ => v = .int .i64 sq]
  [[(3, none)], [(23, some 0)], [(0, none)], [(3, none)], [(26, some 3)], [(25, some 2), (27, some 4)], [(24, some 1), (28, some 5)], [(29, some 6)]] [some 23, some 24, some 25, some 26, some 27, some 28, some 29, some 5] [false, false, false, false, false, true, false, false, false, false, false, false, false, false, false, false, false, false, false, false, false, false, false, true, true, true, true, true, true, true, false, false, false, false, false, false, false, false, false, false, false, false, false, false, false, false, false, false, false, false, false, false, false, false, false, false, false, false, false, false, false, false, false, false, false, false, false, false, false, false, false, false, false, false, false, false]
  (by kernel_rfl) (by kernel_rfl) (by kernel_rfl) (by kernel_rfl) ?_ ?_ ?_
 ·repeat' (first | exact stable_eq _ | exact trivial | apply And.intro)
 ·refine ⟨?_, ?_, ?_, ?_, ?_, ?_, ?_, ?_, trivial⟩
  all_goals
   intro a' z hbz hf
   have e2 := (hbz.cell (p := ⟨w.heap.size, 2, none⟩) hxl).trans y2
   have e3 := (hbz.cell (p := ⟨w.heap.size, 3, none⟩) hxl).trans y3
   have HL := hide (unhide (HLs z ((unhide HX).bel.trans (hbz.mono (unhide HX).bel.size))))
   clear hbz
   simp only [PlanFacts, List.getD_cons_zero, List.getD_cons_succ, Array.getD_eq_getD_getElem?] at hf
   try simp at hf
   go_simp
   try exact Below.refl _ _
  all_goals first
   | exact ⟨rfl, Below.refl _ _⟩
   | exact ⟨_, rfl, Below.refl _ _, rfl⟩
   | (refine (unhide HL).mono ?_; rintro r z2 ⟨rfl, k, rfl⟩; exact ⟨rfl, below_drewN (Below.refl _ _) k⟩)
   | (refine (unhide HL).mono ?_; rintro r z2 ⟨rfl, k, rfl⟩; exact ⟨_, rfl, below_drewN (Below.refl _ _) k, rfl⟩)
   | skip
 ·intro f z hbz hwd
  simp only [AllWords] at hwd
  have h7 := hwd.2.2.2.2.2.2.2.1
  clear hwd
  have HZ := hide ((unhide HX).below hbz)
  clear hbz
  simp only [mergeT, h7]
  generalize f 23 = x23
  generalize f 24 = x24
  generalize f 25 = x25
  generalize f 26 = x26
  generalize f 27 = x27
  generalize f 28 = x28
  generalize f 29 = x29
  go_upto_region 4 with fail
  refine wp_world (BoxAt w #[.int .i64 4, .int .i64 e, .int .i64 s, .int .i64 q, .string b]) (unhide HZ) ?_
  clear HZ HX y2 y3 hxl
  intro x X9
  have y2 := blk_cell (i := 2) X9.box
  simp at y2
  have ds := (X9.bel.cell (p := ⟨p, 1 + s, none⟩) hpl).trans qs
  have HX := hide X9
  clear X9 qs
  by_cases hlt : sq < bs
  ·have hltI : (sq : Int) < (bs : Int) := by omega
   go_quiet (fail)
   go_wp2
   go_ret
   refine ⟨rfl, ?_⟩
   rw [unhide HD, ← unhide HBS, if_pos hlt]
   exact (unhide HREF).below (((unhide HX).drewN _).bel)
  ·have hltI : ¬ (sq : Int) < (bs : Int) := by omega
   go_quiet (fail)
   go_upto_region 6 with fail
   refine wp_world (BoxAt w #[.int .i64 4, .int .i64 e, .int .i64 s, .int .i64 q, .string b]) ((unhide HX).drewN _) ?_
   clear HX y2 ds
   intro x X9
   have y2 := blk_cell (i := 2) X9.box
   simp at y2
   have d0 := (X9.bel.cell (p := ⟨p, 1, none⟩) hpl).trans q0
   have d1 := (X9.bel.cell (p := ⟨p, 2, none⟩) hpl).trans q1
   have d2 := (X9.bel.cell (p := ⟨p, 3, none⟩) hpl).trans q2
   have hxl := X9.lt
   have HX := hide X9
   obtain ⟨g6, hg6⟩ : ∃ g6, g6 = x.heap.size := ⟨_, rfl⟩
   have HG6 := hide hg6
   have hg6w : w.heap.size < g6 := by omega
   clear X9 q0 q1 q2
   go_upto_region 7 with fail
   rw [← hg6]
   clear hg6
   refine wp_world (fun y => y.heap[g6]? = some (.cells #[.int .i64 g0, .int .i64 g1, .int .i64 g2] 136 (0, 0)) ∧ BoxAt w #[.int .i64 4, .int .i64 e, .int .i64 s, .int .i64 q, .string b] y) ?_ ?_
   ·rw [unhide HG6]
    exact ⟨heap_alloc_new _ _, (unhide HX).below ((Below.refl _ _).alloc (Nat.le_refl _) _)⟩
   clear HX HG6 y2 d0 d1 d2 hxl
   rintro y ⟨h6, X9⟩
   have y2 := blk_cell (i := 2) X9.box
   simp at y2
   have f6 := blk_free (i := s) h6
   obtain ⟨old, hold⟩ : ∃ v : Nat, y.cell? ⟨g6, s, none⟩ = some (.int .i64 v) := by
    rw [blk_cell h6]
    obtain rfl | rfl | rfl : s = 0 ∨ s = 1 ∨ s = 2 := by omega
    ·exact ⟨g0, rfl⟩
    ·exact ⟨g1, rfl⟩
    ·exact ⟨g2, rfl⟩
   have HY := hide (And.intro h6 X9)
   clear h6 X9
   go_upto_region 8 with fail
   refine wp_world (fun y => y.heap[g6]? = some (.cells #[.int .i64 x0, .int .i64 x1, .int .i64 x2] 136 (0, 0)) ∧ BoxAt w #[.int .i64 4, .int .i64 e, .int .i64 s, .int .i64 q, .string b] y) ?_ ?_
   ·obtain ⟨h6, X9⟩ := unhide HY
    have hset := far_set y g6 s (.int .i64 sq)
    refine ⟨?_, ⟨hset.blk X9.box (by omega), X9.bel.setCell (p := ⟨g6, s, none⟩) (Nat.le_of_lt hg6w) _⟩⟩
    rw [unhide HXX]
    exact blk_set h6
   clear HY y2 f6 hold
   rintro y ⟨h6, X9⟩
   have e0 := blk_cell (i := 0) h6
   have e1 := blk_cell (i := 1) h6
   have e2 := blk_cell (i := 2) h6
   have y2 := blk_cell (i := 2) X9.box
   simp at e0 e1 e2 y2
   have HLX := hide (unhide ((unhide HLG) hlt y X9.bel))
   have HX := hide X9
   clear h6 X9
   go_upto_region 11 with (go_at_call 152; refine (unhide HLX).mono ?_; rintro r z ⟨rfl, hag⟩)
   obtain ⟨gg, fr1, sh1, pl1, st1, ⟨c1, K1, F1, N1, t1, t2⟩, hs1, hO1⟩ := hag
   have hbz := F1.blk (unhide HX).box (unhide HNB)
   have hPz := PaStep.behind (w := w) (⟨c1, K1, F1, N1, t1, t2⟩ : PaStep y z p gg a1.ticks a1.welcome a1.fenced fr1 sh1 st1 c) (unhide HX).bel
   have y2 := blk_cell (i := 2) hbz
   simp at y2
   have HZ := hide (And.intro hbz hPz)
   have HE := hide (And.intro hs1 hO1)
   clear K1 F1 N1 t1 t2 hs1 hO1 hbz hPz HX HLX e0 e1 e2
   go_quiet (fail)
   go_upto_region 12 with fail
   refine wp_world (fun y => y.heap[w.heap.size]? = some (.cells #[.int .i64 4, .int .i64 e, .int .i64 s, .int .i64 q, .string b] 41 (0, 0)) ∧ PaStep w y p gg a1.ticks a1.welcome a1.fenced fr1 sh1 st1 c) ?_ ?_
   ·exact ⟨(unhide HZ).1, (unhide HZ).2.below (below_drewN (Below.refl _ _) _)⟩
   clear HZ y2
   rintro x ⟨hbx, c1, K1, F1, N1, t1, t2⟩
   have HC := hide (clearU_any (K1.shAt (i := s * 3 + 2) (by omega)))
   rw [show 4 + (s * 3 + 2) * 2 = 4 + s * 6 + 4 by omega] at HC
   have HK := hide (And.intro hbx (And.intro K1 (And.intro F1 (And.intro N1 (And.intro t1 t2)))))
   clear hbx K1 F1 N1 t1 t2
   go_upto_region 13 with (go_at_call 154; refine (unhide HC).mono ?_; rintro r z2 ⟨rfl, hst⟩)
   rw [show 4 + s * 6 + 4 = 4 + (s * 3 + 2) * 2 by omega] at hst
   obtain ⟨hbx, K1, F1, N1, t1, t2⟩ := unhide HK
   have hbn := pa_not_cells K1 hbx (by decide) (by decide) (by decide) (by decide) (by decide) (by decide) (by decide)
   have hb2 := hst.2.blk hbx (fun h => hbn (.inl (h.elim .inl (fun h => .inr (.inr ⟨s * 3 + 2, by omega, h⟩)))))
   have hP2 := paAfter F1 N1 t1 t2 (paStep_sh K1 (by omega) hst)
   have y4 := blk_cell (i := 4) hb2
   simp at y4
   clear hbx K1 F1 N1 t1 t2 hbn hst HK HC hb2
   obtain ⟨c2, K2, F2, N2, s1, s2⟩ := hP2
   have HK2 := hide (And.intro K2 (And.intro F2 (And.intro N2 (And.intro s1 s2))))
   clear K2 F2 N2 s1 s2
   have HH2 := hide (unhide (hHD z2))
   clear hHD
   obtain ⟨m, hm⟩ : ∃ m, m = bits.length := ⟨_, rfl⟩
   rw [← hm] at HH2 hbl3
   have HM := hide hm
   clear hm
   go_wp2_with (go_at_call 155; refine (unhide HH2).mono ?_; rintro r z3 ⟨v, rfl, hv, hbl⟩; obtain ⟨ad, cap, rfl, _⟩ := (own_rowO hv).shape; replace hv := hide hv; replace hbl := hide hbl)
   go_loopw [10, 67] (fun _ i wr => ∃ t : Nat, t ≤ m ∧ i = .int .i64 t ∧ RowO wr 3 1 (.slice ad m cap) m (numCells bits) ∧ ∃ c', PaAt wr p gg a1.ticks a1.welcome a1.fenced fr1 (fun j => if j = s * 3 + 2 then (bits.take t).foldl (fun l n => putL l n recU) [] else sh1 j) st1 c' ∧ Far (PaU p c) w wr ∧ (∀ k, PaU p c' k → PaU p c k ∨ w.heap.size ≤ k) ∧ c'.s = c.s ∧ c'.rv = c.rv ∧ (∀ g, (Value.slice ad m cap).ownBlock = some g → ¬ PaU p c' g)) (fun _ i _ => m - (intOf i).toNat)
   case atStart =>
    obtain ⟨K2, F2, N2, s1, s2⟩ := unhide HK2
    refine ⟨0, by omega, rfl, own_rowO (unhide hv), c2, K2.below (unhide hbl), F2.trans (far_below (E := PaU p c) (unhide hbl)) (fun _ _ h => h), N2, s1, s2, fun g hg hu => ?_⟩
    have h1 := (World.ownsRow.lt (unhide hv) g hg).1
    have h2 := K2.lt g hu
    omega
   case round =>
    obtain ⟨t, ht, rfl, hrow, c3, K3, F3, N3, u1, u2, hap⟩ := hrel
    by_cases htl : t < m
    ·obtain ⟨ad', cap', esl, _, _, hcl⟩ := hrow.shape
     injection esl with esl _ esl2
     subst esl esl2
     obtain ⟨gt, ot, rfl, hcl2⟩ := hcl (by omega)
     obtain ⟨nb, hnb⟩ : ∃ nb, bits[t]? = some nb := ⟨bits[t]'(by have := unhide HM; omega), List.getElem?_eq_getElem _⟩
     have r0 := (hcl2 t (by omega))
     rw [show (numCells bits)[t]? = some (.int .i64 nb) by simp [numCells, hnb]] at r0
     have htake : bits.take (t + 1) = bits.take t ++ [nb] := by rw [List.take_add_one, hnb]; rfl
     have hlen : ((bits.take t).foldl (fun l n => putL l n recU) []).length < 1000 := by
      have := heldF_len (bits.take t)
      have := List.length_take_le t bits
      omega
     have HP := hide (putU_any (K3.shAt (i := s * 3 + 2) (by omega)) (by rw [if_pos rfl]; exact hlen) nb)
     rw [if_pos rfl, ← heldF_snoc, ← htake] at HP
     rw [show 4 + (s * 3 + 2) * 2 = 4 + s * 6 + 4 by omega] at HP
     have ht0 : (0 : Int) ≤ (t : Int) := by omega
     have htn : (t : Int) < (m : Int) := by omega
     have HR := hide (And.intro hrow (And.intro K3 (And.intro F3 (And.intro N3 (And.intro u1 (And.intro u2 hap))))))
     clear hrow K3 F3 N3 u1 u2 hap hcl hcl2 htake hlen hnb
     go_wp2_with (go_at_call 156; refine (unhide HP).mono ?_; rintro r z4 ⟨rfl, hst⟩)
     rw [show 4 + s * 6 + 4 = 4 + (s * 3 + 2) * 2 by omega] at hst
     obtain ⟨hrow, K3, F3, N3, u1, u2, hap⟩ := unhide HR
     obtain ⟨c4, K4, F4, N4, v1, v2⟩ := paStep_sh K3 (by omega) hst
     have hFU : ∀ k, (k = p ∨ ShU (c3.nv (s * 3 + 2)) (c3.mv (s * 3 + 2)) k) → PaU p c3 k := fun k hk => hk.elim (fun h => .inl (.inl h)) (fun h => .inl (.inr (.inr ⟨s * 3 + 2, by omega, h⟩)))
     refine ⟨⟨t + 1, by omega, rfl, hrow.far hst.2 (fun g hg h => hap g hg (hFU g h)), c4, ?_, F3.trans F4 (fun k hk hu => (N3 k hu).elim id (fun h => by omega)), fun k hk => ?_, v1.trans u1, v2.trans u2, fun g hg hu => ?_⟩, ?_⟩
     ·rw [show (fun j => if j = s * 3 + 2 then (bits.take (t + 1)).foldl (fun l n => putL l n recU) [] else sh1 j) = (fun j => if j = s * 3 + 2 then (bits.take (t + 1)).foldl (fun l n => putL l n recU) [] else if j = s * 3 + 2 then (bits.take t).foldl (fun l n => putL l n recU) [] else sh1 j) by
       funext j
       by_cases h : j = s * 3 + 2
       ·rw [if_pos h, if_pos h]
       ·rw [if_neg h, if_neg h, if_neg h]]
      exact K4
     ·rcases N4 k hk with h | h
      ·exact N3 k h
      ·exact .inr (Nat.le_trans F3.size h)
     ·rcases N4 g hu with h | h
      ·exact hap g hg h
      ·have := hrow.lt g hg
       omega
     ·simp [intOf]; omega
    ·have e : t = m := by omega
     have hnt : ¬ (t : Int) < (m : Int) := by omega
     have HR := hide (And.intro K3 (And.intro F3 (And.intro N3 (And.intro u1 u2))))
     have HT := hide (And.intro e htl)
     clear hrow K3 F3 N3 u1 u2 hap e htl
     go_wp2
     go_ret
     refine ⟨rfl, ?_⟩
     rw [unhide HD, ← unhide HBS, if_neg hlt]
     obtain ⟨K3, F3, N3, u1, u2⟩ := unhide HR
     rw [show bits.take t = bits by rw [(unhide HT).1, unhide HM]; exact List.take_length] at K3
     exact ⟨gg, fr1, _, pl1, st1, ⟨c3, K3, F3, N3, u1, u2⟩, (unhide HE).1, onAg_held (unhide HE).2 hs3 bits (by rw [← unhide HM]; exact hbl3)⟩
end
end Go.Proofs.YtamafdcnbcoegaaGreat
namespace Go.Proofs.YtamafdcnbcoegaaGreat
open Go.RowKit
def skey (o : Oper) : Tmp := match o.dst with
 | some d => d
 | none => match o.op with
  | .store _ (.tmp t) _ => t
  | _ => 0
def keyVal (o : Oper) (a : Act) (v : Value) : Value := match o.dst with
 | some _ => v
 | none => a.tmps.getD (skey o) undef
def keyOk (ops : Array Oper) : Bool := (List.range ops.size).all fun k => match ops[k]? with
 | none => true
 | some o => match o.dst with
  | some _ => true
  | none => match wr ops (skey o) with
   | none => true
   | some j => depB ops k j
theorem keyOk_spec {ops : Array Oper} (h : keyOk ops = true) {k j : Nat} {o : Oper} (ho : ops[k]? = some o) (hd : o.dst = none) (hj : wr ops (skey o) = some j) : depB ops k j = true := by
 unfold keyOk at h
 have := List.all_eq_true.1 h k (List.mem_range.2 (Array.getElem?_eq_some_iff.1 ho).1)
 rw [ho] at this
 simp only [hd, hj] at this
 exact this
section
variable {P : Program} {ops : Array Oper} {Q : Exit → Act → World → Prop}
structure KeyInv (ops : Array Oper) (Φ : Nat → Value → World → Prop) (E : Nat → Nat → Prop) (a0 : Act) (w0 : World) (L : Array Bool) (a : Act) (w : World) : Prop where
 size : L.size = ops.size
 ext : Far (fun b => ∃ k, L.getD k false = true ∧ E k b) w0 w
 closed : ∀ k, L.getD k false = true → ∀ j, depB ops k j = true → L.getD j false = true
 vals : ∀ i o, ops[i]? = some o → L.getD i false = true → Φ i (a.tmps.getD (skey o) undef) w
 rest : ∀ t, (∀ j, wr ops t = some j → L.getD j false = false) → a.tmps.getD t undef = a0.tmps.getD t undef
 defers : a.defers = a0.defers
 tsize : a.tmps.size = a0.tmps.size
theorem mono_key {a0 : Act} {w0 : World} (Φ : Nat → Value → World → Prop) (E : Nat → Nat → Prop) (xw : Nat) (X : World → World → Prop) (hXr : ∀ w, X w w) (hok : monoOk ops a0.tmps.size = true) (hkey : keyOk ops = true)
  (hst : ∀ i j v w w', i ≠ j → depB ops j i = false → Φ j v w → Far (E i) w w' → (i = xw → X w w') → Φ j v w')
  (hop : ∀ i o, ops[i]? = some o → ∀ a w, Far (fun b => ∃ k, k ≠ i ∧ depB ops k i = false ∧ E k b) w0 w → GoodAct ops Φ a0 i o a w →
   if Region.wanted o (yielded ops a.tmps) = true then o.wp P a w (fun a' w' => ∃ v, a' = a.put o.dst v ∧ Far (E i) w w' ∧ Φ i (keyVal o a v) w' ∧ (i = xw → X w w')) Q else Φ i (keyVal o a undef) w)
  (hend : ∀ a w, Far (fun b => ∃ k, E k b) w0 w → (∀ i o, ops[i]? = some o → Φ i (a.tmps.getD (skey o) undef) w) → (∀ t, wr ops t = none → a.tmps.getD t undef = a0.tmps.getD t undef) → a.defers = a0.defers → a.tmps.size = a0.tmps.size → Q .normal a w) :
  ∀ (fuel : Nat) (L : Array Bool) (a : Act) (w : World), KeyInv ops Φ E a0 w0 L a w → (List.range ops.size).countP (fun i => !L.getD i false) ≤ fuel → wpAny P .any ops Q fuel L a w := by
 have hrdy : ∀ (L : Array Bool) (a : Act) (w : World), KeyInv ops Φ E a0 w0 L a w → Region.ready .any ops L = [] → Q .normal a w := by
  intro L a w hI hr
  have hall : ∀ n i, i < n → i < ops.size → L.getD i false = true := by
   intro n
   induction n with
   | zero => intro i h; omega
   | succ n ih =>
    intro i h hi
    by_cases hin : i < n
    ·exact ih i hin hi
    ·have e : i = n := by omega
     subst e
     cases hL : L.getD i false
     ·exfalso
      have ho : ops[i]? = some ops[i] := Array.getElem?_eq_getElem hi
      obtain ⟨_, _, h3⟩ := monoOk_spec hok ho
      have : i ∈ Region.ready .any ops L := mem_ready.2 ⟨by
       have hs : i < L.size := by rw [hI.size]; exact hi
       rw [Array.getD_eq_getD_getElem?, Array.getElem?_eq_getElem hs] at hL ⊢
       exact hL, ops[i], ho, fun e he hb => by
       have hd : depB ops i e.on = true := by
        unfold depB
        rw [ho]
        exact Array.any_eq_true'.2 ⟨e, he, by simp [hb]⟩
       have hlt := h3 _ hd
       exact ih e.on hlt (by omega)⟩
      rw [hr] at this
      cases this
     ·rfl
  refine hend a w (hI.ext.mono (fun b _ h => h.imp fun k h => h.2)) (fun i o ho => hI.vals i o ho (hall ops.size i (Array.getElem?_eq_some_iff.1 ho).1 (Array.getElem?_eq_some_iff.1 ho).1)) (fun t ht => hI.rest t (fun j hj => by rw [ht] at hj; cases hj)) hI.defers hI.tsize
 intro fuel
 induction fuel with
 | zero =>
  intro L a w hI hc
  have hr : Region.ready .any ops L = [] := by
   apply List.eq_nil_iff_forall_not_mem.2
   intro i hi
   obtain ⟨h0, o, ho, _⟩ := mem_ready.1 hi
   have hlt : i < ops.size := (Array.getElem?_eq_some_iff.1 ho).1
   have h0' : L.getD i false = false := by
    have hs : i < L.size := by rw [hI.size]; exact hlt
    rw [Array.getD_eq_getD_getElem?, Array.getElem?_eq_getElem hs] at h0 ⊢
    exact h0
   have : 0 < (List.range ops.size).countP (fun i => !L.getD i false) := List.countP_pos_iff.2 ⟨i, List.mem_range.2 hlt, by simp [h0']⟩
   omega
  exact ⟨hr, hrdy L a w hI hr⟩
 | succ fuel ih =>
  intro L a w hI hc
  refine ⟨hrdy L a w hI, fun i hi => ?_⟩
  obtain ⟨h0, o, ho, hdeps⟩ := mem_ready.1 hi
  have hlt : i < ops.size := (Array.getElem?_eq_some_iff.1 ho).1
  have hls : i < L.size := by rw [hI.size]; exact hlt
  have h0' : L.getD i false = false := by
   rw [Array.getD_eq_getD_getElem?, Array.getElem?_eq_getElem hls] at h0 ⊢
   exact h0
  obtain ⟨hd, hl, hlex⟩ := monoOk_spec hok ho
  have hdl : ∀ j, depB ops i j = true → L.getD j false = true := by
   intro j hj
   unfold depB at hj
   rw [ho] at hj
   obtain ⟨e, he, hb⟩ := Array.any_eq_true'.1 hj
   simp only [Bool.and_eq_true, beq_iff_eq] at hb
   rw [← hb.2]; exact hdeps e he hb.1
  have hgood : GoodAct ops Φ a0 i o a w := by
   intro t ht
   cases hw : wr ops t with
   | none => exact hI.rest t (fun j hj => by rw [hw] at hj; cases hj)
   | some j =>
    simp only []
    have hj := List.find?_some hw
    simp only [beq_iff_eq] at hj
    split
    ·rename_i hdep
     cases hoj : ops[j]? with
     | none => rw [hoj] at hj; cases hj
     | some oj =>
      rw [hoj] at hj
      have hvv := hI.vals j oj hoj (hdl j hdep)
      have hj' : oj.dst = some t := hj
      have hk' : skey oj = t := by unfold skey; rw [hj']
      rw [hk'] at hvv
      exact hvv
    ·rename_i hdep
     refine hI.rest t (fun j' hj' => ?_)
     rw [hw] at hj'
     cases hj'
     rcases hl t ht j hw with h | h
     ·exact absurd h hdep
     ·cases hLj : L.getD j false
      ·rfl
      ·have := hI.closed j hLj i h
       rw [h0'] at this; cases this
  have hstep : ∀ v w', Far (E i) w w' → (i = xw → X w w') → Φ i (keyVal o a v) w' → KeyInv ops Φ E a0 w0 (L.setIfInBounds i true) (a.put o.dst v) w' := by
   intro v w' hb hx hv
   have hget : ∀ k, (L.setIfInBounds i true).getD k false = true ↔ (k = i ∨ L.getD k false = true) := by
    intro k
    by_cases hk : k = i
    ·subst hk
     simp [Array.getD_eq_getD_getElem?, hls]
    ·rw [getD_set_ne false (fun e => hk e.symm)]
     simp [hk]
   have hput : ∀ t, (a.put o.dst v).tmps.getD t undef = if o.dst = some t then v else a.tmps.getD t undef := by
    intro t
    cases hdst : o.dst with
    | none => simp [Act.put]
    | some d =>
     simp only [Act.put, Option.some.injEq]
     have hdsz : d < a.tmps.size := by rw [hI.tsize]; exact (hd d hdst).1
     by_cases h : d = t
     ·subst h
      simp [Array.getD_eq_getD_getElem?, hdsz]
     ·simp [Array.getD_eq_getD_getElem?, h]
   refine ⟨by simp [hI.size], (hI.ext.mono (fun b _ h => by obtain ⟨k, h1, h2⟩ := h; exact ⟨k, (hget k).2 (.inr h1), h2⟩)).trans hb (fun b _ h => ⟨i, (hget i).2 (.inl rfl), h⟩), ?_, ?_, ?_, ?_, ?_⟩
   ·intro k hk j hj
    rw [hget] at hk ⊢
    rcases hk with rfl | hk
    ·exact .inr (hdl j hj)
    ·exact .inr (hI.closed k hk j hj)
   ·intro k ok hok' hk
    rw [hget] at hk
    rcases hk with rfl | hk
    ·rw [ho] at hok'; cases hok'
     unfold keyVal at hv
     cases hdst : o.dst with
     | none =>
      rw [hdst] at hv
      have hp := hput (skey o)
      rw [if_neg (by rw [hdst]; simp), hdst] at hp
      rw [hp]; exact hv
     | some d =>
      rw [hdst] at hv
      have hs : skey o = d := by unfold skey; rw [hdst]
      have hp := hput d
      rw [if_pos hdst, hdst] at hp
      rw [hs, hp]; exact hv
    ·have hki : i ≠ k := by
      intro e
      subst e
      rw [h0'] at hk; cases hk
     have hnd : depB ops k i = false := by
      cases hd : depB ops k i with
      | false => rfl
      | true =>
       have := hI.closed k hk i hd
       rw [h0'] at this; cases this
     have hvk := hst i k _ _ _ hki hnd (hI.vals k ok hok' hk) hb hx
     have hne : o.dst ≠ some (skey ok) := by
      intro e
      have h1 := (hd _ e).2
      cases hdk : ok.dst with
      | some d =>
       have hs : skey ok = d := by unfold skey; rw [hdk]
       have h2 := ((monoOk_spec hok hok').1 d hdk).2
       rw [hs, h2] at h1
       cases h1
       exact hki rfl
      | none =>
       have := keyOk_spec hkey hok' hdk h1
       rw [this] at hnd; cases hnd
     rw [hput, if_neg hne]
     exact hvk
   ·intro t ht
    rw [hput]
    have hne : o.dst ≠ some t := by
     intro e
     have := ht i (hd t e).2
     have h2 := (hget i).2 (.inl rfl)
     rw [this] at h2; cases h2
    rw [if_neg hne]
    refine hI.rest t (fun j hj => ?_)
    cases hLj : L.getD j false
    ·rfl
    ·have := ht j hj
     rw [(hget j).2 (.inr hLj)] at this; cases this
   ·cases o.dst <;> exact hI.defers
   ·rw [← hI.tsize]; cases o.dst <;> simp [Act.put]
  have hcount : (List.range ops.size).countP (fun k => !(L.setIfInBounds i true).getD k false) ≤ fuel := by
   have := countP_lt (l := List.range ops.size) (p := fun k => !L.getD k false) (q := fun k => !(L.setIfInBounds i true).getD k false)
    (fun k _ hk => by
     by_cases hki : k = i
     ·subst hki; simp [h0']
     ·rw [getD_set_ne false (fun e => hki e.symm)] at hk; exact hk)
    ⟨i, List.mem_range.2 hlt, by simp [h0'], by simp [Array.getD_eq_getD_getElem?, hls]⟩
   omega
  have hg := hop i o ho a w (hI.ext.mono (fun b _ h => by
   obtain ⟨k, h1, h2⟩ := h
   refine ⟨k, fun e => ?_, ?_, h2⟩
   ·subst e; rw [h0'] at h1; cases h1
   ·cases hd : depB ops k i with
    | false => rfl
    | true =>
     have := hI.closed k h1 i hd
     rw [h0'] at this; cases this)) hgood
  unfold wpOp
  rw [ho]
  simp only []
  split at hg
  ·rename_i hw
   rw [if_pos hw]
   refine .inl (Oper.wp_mono ?_ hg)
   rintro a' w' ⟨v, rfl, hb, hv, hx⟩
   exact ih _ _ _ (hstep v w' hb hx hv) hcount
  ·rename_i hw
   rw [if_neg hw]
   exact ih _ _ _ (hstep undef w (Far.refl _ _) (fun _ => hXr w) hg) hcount
def StableX (E : Nat → Prop) (X : World → World → Prop) (φ : Value → World → Prop) : Prop := ∀ v w w', φ v w → Far E w w' → X w w' → φ v w'
theorem stableX_of {E : Nat → Prop} {X : World → World → Prop} {φ : Value → World → Prop} (h : StableF E φ) : StableX E X φ := fun v w w' h1 h2 _ => h v w w' h1 h2
def StableButX (ops : Array Oper) (i : Nat) (E : Nat → Prop) (X : World → World → Prop) : Nat → List (Value → World → Prop) → Prop
 | _, [] => True
 | j, φ :: r => (i = j ∨ depB ops j i = true ∨ StableX E X φ) ∧ StableButX ops i E X (j + 1) r
def AllStableX (ops : Array Oper) (L : List (Value → World → Prop)) (xw : Nat) (X : World → World → Prop) : List (Nat × (Nat → Prop)) → Prop
 | [] => True
 | p :: r => StableButX ops p.1 p.2 (fun w w' => p.1 = xw → X w w') 0 L ∧ AllStableX ops L xw X r
theorem stableButX_get {ops : Array Oper} {i : Nat} {E : Nat → Prop} {X : World → World → Prop} : ∀ {L : List (Value → World → Prop)} {s : Nat}, StableButX ops i E X s L → ∀ j, i ≠ s + j → depB ops (s + j) i = false → StableX E X (L.getD j (fun _ _ => True))
 | [], _, _, _, _, _ => fun _ _ _ _ _ _ => by simp
 | φ :: r, s, h, 0, hne, hd => by
  rcases h.1 with h | h | h
  ·exact absurd h hne
  ·rw [Nat.add_zero] at hd; rw [hd] at h; cases h
  ·exact h
 | φ :: r, s, h, j + 1, hne, hd => by
  have := stableButX_get (L := r) (s := s + 1) h.2 j (by omega) (by rw [show s + 1 + j = s + (j + 1) by omega]; exact hd)
  simpa using this
theorem allStableX_get {ops : Array Oper} {L : List (Value → World → Prop)} {xw : Nat} {X : World → World → Prop} : ∀ {Ws : List (Nat × (Nat → Prop))}, AllStableX ops L xw X Ws → ∀ p ∈ Ws, StableButX ops p.1 p.2 (fun w w' => p.1 = xw → X w w') 0 L
 | [], _, _, hp => by cases hp
 | q :: r, h, p, hp => by
  cases hp with
  | head => exact h.1
  | tail _ hp => exact allStableX_get h.2 p hp
def KeyOps (P : Program) (ops : Array Oper) (Q : Exit → Act → World → Prop) (L : List (Value → World → Prop)) (Ws : List (Nat × (Nat → Prop))) (xw : Nat) (X : World → World → Prop) (a0 : Act) (w0 : World) : Nat → List Oper → List (List (Tmp × Option Nat)) → List (Value → World → Prop) → Prop
 | i, o :: os, pl :: pls, φ :: φs => (∀ a w, Far (footBut Ws ops i) w0 w → PlanFacts L a0 a w pl →
   if Region.wanted o (yielded ops a.tmps) = true then o.wp P a w (fun a' w' => ∃ v, a' = a.put o.dst v ∧ Far (footOf Ws i) w w' ∧ φ (keyVal o a v) w' ∧ (i = xw → X w w')) Q else φ (keyVal o a undef) w) ∧ KeyOps P ops Q L Ws xw X a0 w0 (i + 1) os pls φs
 | _, [], _, _ => True
 | _, _, _, _ => False
theorem keyOps_get {L : List (Value → World → Prop)} {Ws : List (Nat × (Nat → Prop))} {xw : Nat} {X : World → World → Prop} {a0 : Act} {w0 : World} : ∀ {s : Nat} {os : List Oper} {pls : List (List (Tmp × Option Nat))} {φs : List (Value → World → Prop)}, KeyOps P ops Q L Ws xw X a0 w0 s os pls φs →
  ∀ (i : Nat) o pl, os[i]? = some o → pls[i]? = some pl → ∀ a w, Far (footBut Ws ops (s + i)) w0 w → PlanFacts L a0 a w pl →
   if Region.wanted o (yielded ops a.tmps) = true then o.wp P a w (fun a' w' => ∃ v, a' = a.put o.dst v ∧ Far (footOf Ws (s + i)) w w' ∧ φs.getD i (fun _ _ => True) (keyVal o a v) w' ∧ (s + i = xw → X w w')) Q else φs.getD i (fun _ _ => True) (keyVal o a undef) w
 | _, [], _, _, _, i, o, pl, ho, _ => by simp at ho
 | _, o :: os, [], _, h, _, _, _, _, _ => h.elim
 | _, o :: os, pl :: pls, [], h, _, _, _, _, _ => h.elim
 | _, o :: os, pl :: pls, φ :: φs, h, 0, o', pl', ho, hp => by
  simp at ho hp; subst ho; subst hp
  exact h.1
 | s, o :: os, pl :: pls, φ :: φs, h, i + 1, o', pl', ho, hp => by
  have := keyOps_get h.2 i o' pl' (by simpa using ho) (by simpa using hp)
  rw [show s + 1 + i = s + (i + 1) by omega] at this
  simpa using this
def KeyWords (f : Nat → Value) (w : World) : List Tmp → List (Value → World → Prop) → Prop
 | d :: ds, φ :: φs => φ (f d) w ∧ KeyWords f w ds φs
 | _, _ => True
def keysOf (ops : Array Oper) : List Tmp := ops.toList.map skey
theorem keyWords_of {f : Nat → Value} {w : World} : ∀ {os : List Oper} {L : List (Value → World → Prop)}, (∀ i o, os[i]? = some o → L.getD i (fun _ _ => True) (f (skey o)) w) → KeyWords f w (os.map skey) L
 | [], _, _ => by simp [KeyWords]
 | o :: os, [], _ => by simp [KeyWords]
 | o :: os, φ :: φs, h => by
  have ih := keyWords_of (os := os) (L := φs) (fun i o' ho => by have := h (i + 1) o' (by simpa using ho); simpa using this)
  exact ⟨h 0 o rfl, ih⟩
theorem wp_region_key {id : Nat} {a0 : Act} {w0 : World} (hm : P.follows .mixedOrders = true) (L : List (Value → World → Prop)) (plan : List (List (Tmp × Option Nat))) (Ks : List Tmp) (M : List Bool) (Ws : List (Nat × (Nat → Prop))) (xw : Nat) (X : World → World → Prop) (hXr : ∀ w, X w w)
  (hon : onceB Ws = true) (hok : monoOk ops a0.tmps.size = true) (hkey : keyOk ops = true) (hplan : planOf ops = plan) (hD : keysOf ops = Ks) (hM : maskOf ops a0.tmps.size = M) (hst : AllStable L) (hstF : AllStableX ops L xw X Ws) (hop : KeyOps P ops Q L Ws xw X a0 w0 0 ops.toList plan L)
  (hend : ∀ f w, Far (fun b => ∃ p ∈ Ws, p.2 b) w0 w → KeyWords f w Ks L → Q .normal { tmps := (mergeT M a0.tmps.toList 0 f).toArray, defers := a0.defers } w) :
  (Code.region id ops true).wp P Q a0 w0 := by
 refine wp_region_any hm (mono_key (w0 := w0) (fun i => L.getD i (fun _ _ => True)) (footOf Ws) xw X hXr hok hkey ?_ ?_ ?_ ops.size _ a0 _ ⟨by simp, far_below ((Below.refl _ _).drew), ?_, ?_, fun _ _ => rfl, rfl, rfl⟩ ?_)
 ·intro i j v w w' hij hd hv hF hX
  by_cases hi : ∃ p ∈ Ws, p.1 = i
  ·obtain ⟨p, hp, rfl⟩ := hi
   have hs := stableButX_get (allStableX_get hstF p hp) j (by omega) (by rw [Nat.zero_add]; exact hd)
   exact hs v w w' hv (hF.mono (fun b _ h => by
    obtain ⟨q, hq, e, hb⟩ := h
    rw [once_same hon hp hq e.symm]; exact hb)) hX
  ·exact allStable_get hst j v w w' hv (hF.below (Nat.le_refl _) (fun k _ h => by
    obtain ⟨q, hq, e, _⟩ := h
    exact hi ⟨q, hq, e⟩))
 ·intro i o ho a w hb hg
  have hlt : i < ops.size := (Array.getElem?_eq_some_iff.1 ho).1
  have hpl : plan[i]? = some ((o.looksAt ops).map fun t => (t, match wr ops t with
     | some j => if depB ops i j = true then some j else none
     | none => none)) := by
   rw [← hplan]
   unfold planOf
   rw [List.getElem?_map, List.getElem?_range hlt, Option.map_some, ho]
   try rfl
  have := keyOps_get hop i o _ (by simpa using ho) hpl a w (by
   rw [Nat.zero_add]
   exact hb.mono (fun b _ h => by
    obtain ⟨k, h1, h2, p, hp, rfl, h3⟩ := h
    exact ⟨p, hp, h1, h2, h3⟩)) (planFacts_of rfl (o := o) _ hg)
  rw [Nat.zero_add] at this
  exact this
 ·intro a w hb hv hr hd hs
  have h := hend (fun t => a.tmps.getD t undef) w (hb.mono (fun b _ h => by
   obtain ⟨k, p, hp, _, h3⟩ := h
   exact ⟨p, hp, h3⟩)) (by rw [← hD]; exact keyWords_of (fun i o ho => hv i o (by simpa using ho)))
  have e : mergeT M a0.tmps.toList 0 (fun t => a.tmps.getD t undef) = a.tmps.toList := by
   refine mergeT_eq _ _ _ _ _ (by rw [← hM]; simp [maskOf]) (by simpa using hs) ?_ ?_
   ·intro j hj _
    simp [Array.getD_eq_getD_getElem?, List.getD_eq_getElem?_getD]
   ·intro j hj hb
    rw [← hM] at hb
    have hj' : j < a0.tmps.size := by rw [← hs]; simpa using hj
    have hw : wr ops j = none := by
     unfold maskOf at hb
     simp [List.getD_eq_getElem?_getD, List.getElem?_map, List.getElem?_range hj'] at hb
     exact hb
    have := hr j hw
    simpa [Array.getD_eq_getD_getElem?, List.getD_eq_getElem?_getD] using this
  rw [e, ← hd] at h
  exact h
 ·intro k hk
  simp [Array.getD_eq_getD_getElem?] at hk
  rcases h : (Array.replicate ops.size false)[k]? with _ | b <;> simp [h] at hk
  subst hk
  have := Array.getElem?_eq_some_iff.1 h
  obtain ⟨h1, h2⟩ := this
  simp at h2
 ·intro i o ho hk
  exfalso
  simp [Array.getD_eq_getD_getElem?] at hk
  rcases h : (Array.replicate ops.size false)[i]? with _ | b <;> simp [h] at hk
  subst hk
  have := Array.getElem?_eq_some_iff.1 h
  obtain ⟨h1, h2⟩ := this
  simp at h2
 ·exact Nat.le_trans List.countP_le_length (by simp)
end
end Go.Proofs.YtamafdcnbcoegaaGreat
namespace Go.Proofs.YtamafdcnbcoegaaGreat
open Go.RowKit
theorem pk_not_cells {w : World} {p e : Nat} {logs : Nat → List ByteArray} {sh : Nat → List (Nat × Value)} {st : Mod.Stv} {c : Sv} (H : PkAt w p e logs sh st c) {q : Nat} {cs : Array Value} {t : TypeId} {fr : Nat × Nat} (hb : w.heap[q]? = some (.cells cs t fr))
  (h1 : t ≠ 176) (h2 : t ≠ 9) (h3 : t ≠ 3) (h4 : t ≠ 203) (h5 : t ≠ 252) (h6 : t ≠ 5) (h7 : t ≠ 261) (h8 : t ≠ 179) : ¬ PkU p c q := by
 rintro (h | (h | h) | h)
 ·exact ks_not_cells H.ks hb h1 h2 h3 h
 ·subst h
  have := H.stt.blk
  rw [hb] at this
  injection this with this
  injection this with _ this _
  exact h4 this
 ·exact dk_ne H.stt.dk hb (fun e => h5 e.symm) (fun e => h6 e.symm) (fun e => h7 e.symm) h
 ·exact H.rl.ne hb (fun e => h8 e.symm) h
theorem grown_zero (a : Mod.Sk) (s : Nat) : (grown a s []).logs = a.logs := by
 funext t
 show (if t = s then a.logs s ++ [] else a.logs t) = _
 split
 ·rename_i h; subst h; simp
 ·rfl
theorem grown_snoc (a : Mod.Sk) (s : Nat) (out : List ByteArray) (c : ByteArray) : (fun j => if j = s then (grown a s out).logs s ++ [c] else (grown a s out).logs j) = (grown a s (out ++ [c])).logs := by
 funext t
 show (if t = s then (if s = s then a.logs s ++ out else a.logs s) ++ [c] else (if t = s then a.logs s ++ out else a.logs t)) = if t = s then a.logs s ++ (out ++ [c]) else a.logs t
 split
 ·simp
 ·rfl
theorem grown_sum (a : Mod.Sk) (s : Nat) (hs : s < 3) (out : List ByteArray) : ((grown a s out).logs 0).length + ((grown a s out).logs 1).length + ((grown a s out).logs 2).length = a.count + out.length := grown_count a s hs out
theorem grown_self (a : Mod.Sk) (s : Nat) (out : List ByteArray) : (grown a s out).logs s = a.logs s ++ out := by
 show (if s = s then _ else _) = _
 rw [if_pos rfl]
def RecKept (w1 w2 : World) : Prop := ∀ (g : Nat) (x : ByteArray), w1.heap[g]? = some (.cells #[.string x] 235 (0, 0)) → ∃ x' : ByteArray, w2.heap[g]? = some (.cells #[.string x'] 235 (0, 0))
theorem recKept_refl (w : World) : RecKept w w := fun _ x h => ⟨x, h⟩
theorem recKept_set (w : World) (g : Nat) (b : ByteArray) : RecKept w (w.setCell ⟨g, 0, none⟩ (.string b)) := by
 intro k x h
 by_cases e : k = g
 ·subst e
  have := blk_set (j := 0) (v := .string b) h
  exact ⟨b, by simpa using this⟩
 ·exact ⟨x, (far_set w g 0 (.string b)).blk h e⟩
def sliceLen : Option Value → Nat
 | some (.slice _ n _) => n
 | _ => 0
end Go.Proofs.YtamafdcnbcoegaaGreat
namespace Go.Proofs.YtamafdcnbcoegaaGreat
open Go.RowKit
end Go.Proofs.YtamafdcnbcoegaaGreat
namespace Go.Proofs.YtamafdcnbcoegaaGreat
open Go.RowKit
theorem numbersOf_any (e : Nat) (w : World) : Calls Tryz.prog 107 #[.int .i64 e] w fun r w' => r = .returned (.agg #[.int .i64 e, .int .i64 0, .int .i64 0]) ∧ Below w.heap.size w w' := by
 go_enter Tryz.func107, Tryz.ntmps107
 go_wp2
 refine bodyPost_ret (v := .agg #[.int .i64 e, .int .i64 0, .int .i64 0]) (by simp [results, Tryz.results107, go_sem]) rfl ⟨rfl, ?_⟩
 exact (Below.refl _ _).alloc (Nat.le_refl _) _
set_option maxHeartbeats 1000000 in
theorem resetOf_any (e : Nat) (w : World) : Calls Tryz.prog 159 #[.int .i64 e] w fun r w' => r = .returned (.agg #[.int .i64 5, .int .i64 e, .int .i64 0, .int .i64 0, .string ⟨#[]⟩]) ∧ Below w.heap.size w w' := by
 go_enter Tryz.func159, Tryz.ntmps159
 go_wp2
 refine bodyPost_ret (v := .agg #[.int .i64 5, .int .i64 e, .int .i64 0, .int .i64 0, .string ⟨#[]⟩]) (by simp [results, Tryz.results159, go_sem]) rfl ⟨rfl, ?_⟩
 first | exact (Below.refl _ _).alloc (Nat.le_refl _) _ | exact below_five ((Below.refl _ _).alloc (Nat.le_refl _) _) _ _ _ _ _
end Go.Proofs.YtamafdcnbcoegaaGreat
namespace Go.Proofs.YtamafdcnbcoegaaGreat
open Go.RowKit
theorem pkStep_ep {w : World} {p e : Nat} {logs : Nat → List ByteArray} {sh : Nat → List (Nat × Value)} {st : Mod.Stv} {c : Sv} (H : PkAt w p e logs sh st c) (e2 : Nat) (he : e2 ≤ 2147483647) :
  PkStep w (w.setCell ⟨p, 1, none⟩ (.int .i64 e2)) p e2 logs sh st c := by
 have hpl : ∀ j, j < 3 → (c.lv j).ownBlock ≠ some p := fun j hj => (H.ks.lgs j hj).ne H.ks.blk (by decide)
 have hps : ∀ j, j < 3 → ¬ ShU (c.nv j) (c.mv j) p := fun j hj => (H.ks.shs j hj).ne H.ks.blk (by decide)
 have hs := far_set w p 1 (.int .i64 e2)
 have hget : ∀ j, j ≠ 1 → (c.arr.setIfInBounds 1 (.int .i64 e2))[j]? = c.arr[j]? := fun j hj => Array.getElem?_setIfInBounds_ne (fun e => hj e.symm)
 have h1 : 1 < c.arr.size := by rw [H.ks.sz]; omega
 refine ⟨{ c with arr := c.arr.setIfInBounds 1 (.int .i64 e2) }, ⟨⟨blk_set H.ks.blk, by simpa using H.ks.sz, ?_, ?_, ?_, ?_, ?_, ?_, ?_, ?_, H.ks.are, H.ks.apl, H.ks.aps, H.ks.cnt, he⟩, H.stt.far hs (fun k hk h => H.sep k (.inl h) hk), H.rl.far hs (fun g hg h => (H.sepr g hg).1 (.inl h)), H.len⟩, hs.mono (fun k _ h => .inl (.inl h)), fun k hk => .inl hk, rfl, rfl⟩
 ·rw [hget _ (by omega)]; exact H.ks.a0
 ·simp [h1]
 ·intro j hj; rw [hget _ (by omega)]; exact H.ks.al j hj
 ·intro j hj; rw [hget _ (by omega)]; exact H.ks.an j hj
 ·intro j hj; rw [hget _ (by omega)]; exact H.ks.am j hj
 ·rw [hget _ (by omega)]; exact H.ks.ar
 ·intro j hj; exact (H.ks.lgs j hj).far hs (fun g hg h => hpl j hj (by rw [hg, h]))
 ·intro j hj; exact (H.ks.shs j hj).far hs (fun k hk h => hps j hj (by rw [← h]; exact hk))
theorem helloIt_same (a : Mod.Sk) : helloIt a a.epoch = a := by
 unfold helloIt helloHeld
 rw [if_neg (by omega)]
theorem onSh_cleared {sh : Nat → List (Nat × Value)} : OnSh [] (fun t => if t < 3 then [] else sh t) := by
 intro t ht n c
 show look (if t < 3 then [] else sh t) _ = _ ↔ _
 rw [if_pos ht]
 simp [look]
end Go.Proofs.YtamafdcnbcoegaaGreat
namespace Go.Proofs.YtamafdcnbcoegaaGreat
open Go.RowKit
theorem size_frame : (Tryz.prog.info? 41).map (·.size) = some 5 := by kernel_rfl
def zFr : Array Value := #[.int .i64 0, .int .i64 0, .int .i64 0, .int .i64 0, .string ⟨#[]⟩]
structure RsAt (w : World) (cs rs : Array Value) (x : World) : Prop where
 box : x.heap[w.heap.size]? = some (.cells cs 41 (0, 0))
 res : x.heap[w.heap.size + 1]? = some (.cells rs 41 (0, 0))
 bel : Below w.heap.size w x
theorem rsAt_new (w : World) (cs rs : Array Value) : RsAt w cs rs ((w.alloc (.cells cs 41)).alloc (.cells rs 41)) :=
 ⟨(alloc2 _ _ _).1, (alloc2 _ _ _).2.1, (alloc2 _ _ _).2.2⟩
theorem RsAt.lt {w x : World} {cs rs : Array Value} (h : RsAt w cs rs x) : w.heap.size + 1 < x.heap.size := lt_of_block h.res
theorem RsAt.below {w x y : World} {cs rs : Array Value} (h : RsAt w cs rs x) (hb : Below x.heap.size x y) : RsAt w cs rs y :=
 ⟨(hb.block _ (by have := h.lt; omega)).trans h.box, (hb.block _ h.lt).trans h.res, h.bel.trans (hb.mono h.bel.size)⟩
theorem RsAt.drewN {w x : World} {cs rs : Array Value} (h : RsAt w cs rs x) (n : Nat) : RsAt w cs rs (x.drewN n) := h.below (below_drewN (Below.refl _ _) n)
set_option maxRecDepth 100000 in
set_option maxHeartbeats 4000000 in
theorem answerData_other {w : World} {p : Nat} {a : Mod.Sk} {sh : Nat → List (Nat × Value)} {st : Mod.Stv} {c : Sv} (H : PkAt w p a.epoch a.logs sh st c) (e : Nat) (s q : Int) (b : ByteArray) (hne : e ≠ a.epoch) :
  Calls Tryz.prog 110 #[ptrTo p, .agg #[.int .i64 3, .int .i64 e, .int .i64 s, .int .i64 q, .string b]] w fun r z =>
   r = .returned (.tuple #[.agg #[.int .i64 5, .int .i64 (max e a.epoch : Nat), .int .i64 0, .int .i64 0, .string ⟨#[]⟩], .int .i64 0]) ∧ Below w.heap.size w z := by
 have c1 : w.cell? ⟨p, 1, none⟩ = some (.int .i64 a.epoch) := by rw [blk_cell H.ks.blk, H.ks.a1]
 have hpl := lt_of_block H.ks.blk
 obtain ⟨ep, hep⟩ : ∃ ep, ep = a.epoch := ⟨_, rfl⟩
 rw [← hep] at c1 hne ⊢
 have hneb : ((e : Int) != (ep : Int)) = true := by simp; omega
 obtain ⟨m, hm⟩ : ∃ m, m = max e ep := ⟨_, rfl⟩
 have hmI : max (e : Int) (ep : Int) = (m : Int) := by omega
 rw [← hm]
 have hR := fun y => hide (resetOf_any m y)
 have DD := hide (rsAt_new w #[.int .i64 3, .int .i64 e, .int .i64 s, .int .i64 q, .string b] zFr)
 clear H hep hm
 unfold ptrTo
 go_enter Tryz.func110, Tryz.ntmps110
 go_upto_region 1 with fail
 refine wp_world (RsAt w #[.int .i64 3, .int .i64 e, .int .i64 s, .int .i64 q, .string b] zFr) (unhide DD) ?_
 clear DD
 intro x X
 have y1 := blk_cell (i := 1) X.box
 simp at y1
 have z1 := (X.bel.cell (p := ⟨p, 1, none⟩) hpl).trans c1
 have HX := hide X
 clear X
 go_quiet (fail)
 go_upto_region 2 with fail
 refine wp_world (RsAt w #[.int .i64 3, .int .i64 e, .int .i64 s, .int .i64 q, .string b] zFr) ((unhide HX).drewN _) ?_
 clear HX y1 z1
 intro x2 X
 have HX := hide X
 have hgx := X.lt
 clear X
 refine wp_region_foot (by kernel_rfl)
  [fun v _ => v = .pointer (some ⟨w.heap.size, 1, none⟩), fun v _ => v = .int .i64 e, fun v _ => v = .pointer (some ⟨p, 0, none⟩), fun v _ => v = .pointer (some ⟨p, 0, none⟩), fun v _ => v = .pointer (some ⟨p, 1, none⟩), fun v _ => v = .int .i64 ep, fun v _ => v = .int .i64 m,
   fun v _ => v = .agg #[.int .i64 5, .int .i64 m, .int .i64 0, .int .i64 0, .string ⟨#[]⟩], fun _ z => z.heap[w.heap.size + 1]? = some (.cells #[.int .i64 5, .int .i64 m, .int .i64 0, .int .i64 0, .string ⟨#[]⟩] 41 (0, 0)), fun v _ => v = .int .i64 0]
  [[(3, none)], [(15, some 0)], [(0, none)], [(17, some 2)], [(18, some 3)], [(19, some 4)], [(16, some 1), (20, some 5)], [(21, some 6)], [(4, none), (22, some 7)], []] [some 15, some 16, some 17, some 18, some 19, some 20, some 21, some 22, none, some 5] [false, false, false, false, false, true, false, false, false, false, false, false, false, false, false, true, true, true, true, true, true, true, true, false, false, false, false, false, false, false, false, false, false, false, false, false, false, false, false, false, false, false, false, false, false, false, false, false, false, false, false, false]
  [(8, fun k => k = w.heap.size + 1)]
  (by kernel_rfl) (by kernel_rfl) (by kernel_rfl) (by kernel_rfl) (by kernel_rfl) ?_ ?_ ?_ ?_
 ·repeat' (first | exact stable_eq _ | exact stable_blk _ _ | exact trivial | apply And.intro)
 ·repeat' (first | exact trivial | exact .inl rfl | exact .inr (.inr (stableF_eq _ _)) | apply And.intro)
 ·refine ⟨?_, ?_, ?_, ?_, ?_, ?_, ?_, ?_, ?_, ?_, trivial⟩
  all_goals
   intro a' z hb hf
   have zb := hb.blk (unhide HX).box (footBut_no (by intro q hq; simp at hq; subst hq; intro (h : w.heap.size = w.heap.size + 1); omega))
   have y1 : z.cell? ⟨w.heap.size, 1, none⟩ = some (.int .i64 e) := blk_cell (i := 1) zb
   have z1 : z.cell? ⟨p, 1, none⟩ = some (.int .i64 ep) := by
    have hr := hb.rest p (by omega) (footBut_no (by intro q hq; simp at hq; subst hq; intro (h : p = w.heap.size + 1); omega))
    have := ((unhide HX).bel.cell (p := ⟨p, 1, none⟩) hpl).trans c1
    unfold World.cell? at this ⊢
    simp only at this ⊢
    rw [hr]
    exact this
   clear zb
   simp only [PlanFacts, List.getD_cons_zero, List.getD_cons_succ, Array.getD_eq_getD_getElem?] at hf
   try simp at hf
  iterate 7
   ·clear hb
    go_simp
    exact ⟨_, rfl, Far.refl _ _, rfl⟩
  ·clear hb
   go_simp
   refine (unhide (hR z)).mono ?_
   rintro r z2 ⟨rfl, hb2⟩
   exact ⟨_, rfl, far_below hb2, rfl⟩
  ·have q0 := hb.blk (unhide HX).res (by
    rintro ⟨q, hq, g1, g2, g3⟩
    simp at hq
    subst hq
    exact g1 rfl)
   clear hb
   rw [if_pos (by rfl)]
   refine wp_store_row 41 (.tmp 4) (.tmp 22) rfl (w.heap.size + 1) #[.int .i64 5, .int .i64 m, .int .i64 0, .int .i64 0, .string ⟨#[]⟩] (by simp [Act.eval, hf]) (by simp [Act.eval, hf]) 41 _ q0 (by rw [size_frame]; rfl) rfl (by rw [Array.all_eq_true_iff_forall_mem]; intro u hu; simp at hu; rcases hu with rfl | rfl | rfl | rfl <;> rfl) ?_
   exact ⟨_, rfl, footOf_of (.head _) (far_setRow _ _ _), setRow_heap _ _ _ _ _ _ q0⟩
  ·clear hb
   go_simp
   exact ⟨_, rfl, Far.refl _ _, rfl⟩
 ·intro f z hF hwd
  have h8 := hwd.2.2.2.2.2.2.2.2.1
  have h9 := hwd.2.2.2.2.2.2.2.2.2.1
  have q0 : z.cell? ⟨w.heap.size + 1, 0, none⟩ = some (.int .i64 5) := blk_cell (i := 0) h8
  have q1 : z.cell? ⟨w.heap.size + 1, 1, none⟩ = some (.int .i64 m) := blk_cell (i := 1) h8
  have q2 : z.cell? ⟨w.heap.size + 1, 2, none⟩ = some (.int .i64 0) := blk_cell (i := 2) h8
  have q3 : z.cell? ⟨w.heap.size + 1, 3, none⟩ = some (.int .i64 0) := blk_cell (i := 3) h8
  have q4 : z.cell? ⟨w.heap.size + 1, 4, none⟩ = some (.string ⟨#[]⟩) := blk_cell (i := 4) h8
  have hbz : Below w.heap.size w z := (unhide HX).bel.trans (hF.below (B := w.heap.size) (by omega) (fun k hk h => by
   obtain ⟨q, hq, h⟩ := h
   simp at hq
   subst hq
   have h : k = w.heap.size + 1 := h
   omega))
  have HBZ := hide hbz
  clear hwd hF h8 hbz
  simp only [mergeT, h9]
  generalize f 15 = x15
  generalize f 16 = x16
  generalize f 17 = x17
  generalize f 18 = x18
  generalize f 19 = x19
  generalize f 20 = x20
  generalize f 21 = x21
  generalize f 22 = x22
  go_simp
  go_wp2
  exact bodyPost_ret (v := .tuple #[.agg #[.int .i64 5, .int .i64 m, .int .i64 0, .int .i64 0, .string ⟨#[]⟩], .int .i64 0]) (by simp [results, Tryz.results110, go_sem, q0, q1, q2, q3, q4]) rfl ⟨rfl, unhide HBZ⟩
end Go.Proofs.YtamafdcnbcoegaaGreat
namespace Go.Proofs.YtamafdcnbcoegaaGreat
open Go.RowKit
theorem wel_bytes (a b c : Int) : (⟨(Wire.le4 a ++ Wire.le4 b ++ Wire.le4 c).toArray⟩ : ByteArray) = le4S a ++ le4S b ++ le4S c := by
 rw [← wel_data]
set_option maxRecDepth 100000 in
set_option maxHeartbeats 4000000 in
theorem answerHello_old {w : World} {p : Nat} {a : Mod.Sk} {sh : Nat → List (Nat × Value)} {st : Mod.Stv} {c : Sv} (H : PkAt w p a.epoch a.logs sh st c) (e : Nat) (s q : Int) (b : ByteArray) (hlt : e < a.epoch) :
  Calls Tryz.prog 109 #[ptrTo p, .agg #[.int .i64 1, .int .i64 e, .int .i64 s, .int .i64 q, .string b]] w fun r z =>
   r = .returned (.tuple #[.agg #[.int .i64 5, .int .i64 a.epoch, .int .i64 0, .int .i64 0, .string ⟨#[]⟩], .int .i64 0]) ∧ Below w.heap.size w z := by
 have c1 : w.cell? ⟨p, 1, none⟩ = some (.int .i64 a.epoch) := by rw [blk_cell H.ks.blk, H.ks.a1]
 have hpl := lt_of_block H.ks.blk
 obtain ⟨ep, hep⟩ : ∃ ep, ep = a.epoch := ⟨_, rfl⟩
 rw [← hep] at c1 hlt ⊢
 have hltI : (e : Int) < (ep : Int) := by omega
 have hR := fun y => hide (resetOf_any ep y)
 have DD := hide (rsAt_new w #[.int .i64 1, .int .i64 e, .int .i64 s, .int .i64 q, .string b] zFr)
 clear H hep hlt
 unfold ptrTo
 go_enter Tryz.func109, Tryz.ntmps109
 go_upto_region 1 with fail
 refine wp_world (RsAt w #[.int .i64 1, .int .i64 e, .int .i64 s, .int .i64 q, .string b] zFr) (unhide DD) ?_
 clear DD
 intro x X
 have y1 := blk_cell (i := 1) X.box
 simp at y1
 have z1 := (X.bel.cell (p := ⟨p, 1, none⟩) hpl).trans c1
 have HX := hide X
 clear X
 go_quiet (fail)
 go_upto_region 2 with fail
 refine wp_world (RsAt w #[.int .i64 1, .int .i64 e, .int .i64 s, .int .i64 q, .string b] zFr) ((unhide HX).drewN _) ?_
 clear HX y1 z1
 intro x2 X
 have z1 := (X.bel.cell (p := ⟨p, 1, none⟩) hpl).trans c1
 have HX := hide X
 have hpx : p < x2.heap.size := Nat.lt_of_lt_of_le hpl X.bel.size
 clear X
 go_wp2_with (go_at_call 159; refine (unhide (hR _)).mono ?_; rintro r y ⟨rfl, hb⟩; have X := (unhide HX).below hb; have q0 := blk_cell (i := 0) X.res; have q1 := blk_cell (i := 1) X.res; have q2 := blk_cell (i := 2) X.res; have q3 := blk_cell (i := 3) X.res; have q4 := blk_cell (i := 4) X.res; have f0 := blk_free (i := 0) X.res; have f1 := blk_free (i := 1) X.res; have f2 := blk_free (i := 2) X.res; have f3 := blk_free (i := 3) X.res; have f4 := blk_free (i := 4) X.res; simp [zFr] at q0 q1 q2 q3 q4; have HXX := hide X; clear X hb)
 refine bodyPost_ret (v := .tuple #[.agg #[.int .i64 5, .int .i64 ep, .int .i64 0, .int .i64 0, .string ⟨#[]⟩], .int .i64 0]) (by simp [results, Tryz.results109, go_sem, *]) rfl ⟨rfl, ?_⟩
 have hb := (unhide HXX).bel
 refine ((((hb.setCell (p := ⟨w.heap.size + 1, 0, none⟩) (by simp) _).setCell (p := ⟨w.heap.size + 1, 1, none⟩) (by simp) _).setCell (p := ⟨w.heap.size + 1, 2, none⟩) (by simp) _).setCell (p := ⟨w.heap.size + 1, 3, none⟩) (by simp) _).setCell (p := ⟨w.heap.size + 1, 4, none⟩) (by simp) _
end Go.Proofs.YtamafdcnbcoegaaGreat
namespace Go.Proofs.YtamafdcnbcoegaaGreat
open Go.RowKit
theorem framesOut_one {B g : Nat} {z : World} {v : Value} {l : List UInt8} (hv : Owns B z v l) (hB : B ≤ g) (hg : z.heap[g]? = some (.cells #[v] 44 (0, 0))) : FramesOut B z (.slice (some ⟨g, 0, none⟩) 1 1) [v] [⟨l.toArray⟩] (fun _ => False) := by
 refine ⟨rfl, ⟨by simp, .inr ⟨g, 1, _, rfl, hB, hg, by simp, by unfold maxLen; omega, by simp, by simp⟩⟩, ?_, ?_, fun _ _ h => h⟩
 ·intro j u hj
  cases j with
  | zero => simp at hj; subst hj; exact hv
  | succ j => simp at hj
 ·intro i j u u' hi hj hne
  cases i with
  | zero =>
   cases j with
   | zero => exact absurd rfl hne
   | succ j => simp at hj
  | succ i => simp at hi
theorem framesOut_none (B : Nat) (z : World) : FramesOut B z (.slice none 0 0) [] [] (fun _ => False) :=
 ⟨rfl, World.ownsRow_nil _ _ _ _, fun j v hj => by simp at hj, fun i j u v hi => by simp at hi, fun _ _ h => h⟩
end Go.Proofs.YtamafdcnbcoegaaGreat
namespace Go.Proofs.YtamafdcnbcoegaaGreat
open Go.RowKit
theorem fence_proper (n : Nat) (hn : n ≤ 2147483647) : Wire.proper 5 n 0 0 ⟨#[]⟩ = true := by
 simp [Wire.proper, Wire.isNum, ByteArray.size]; omega
theorem reads_parts {l : List UInt8} (hr : Wire.reads l = true) : ∃ (k : Int) (e s q : Nat) (b : ByteArray), Wire.kindOf l = k ∧ Wire.epochOf l = e ∧ Wire.streamOf l = s ∧ Wire.seqOf l = q ∧ Wire.bodyOf l = b ∧ e ≤ 2147483647 ∧ s < 3 ∧ q ≤ 2147483647 ∧ b.size ≤ 20 := by
 have hp := hr
 unfold Wire.reads at hp
 rw [Bool.and_eq_true] at hp
 obtain ⟨_, h2, h3, h4, h5⟩ := proper_small hp.2
 exact ⟨_, (Wire.epochOf l).toNat, (Wire.streamOf l).toNat, (Wire.seqOf l).toNat, _, rfl, by omega, by omega, by omega, rfl, by omega, by omega, by omega, h5⟩
theorem skSays_yes {a : Mod.Sk} {l : List UInt8} (hr : Wire.reads l = true) {k : Int} {e s q : Nat} {b : ByteArray} (h1 : Wire.kindOf l = k) (h2 : Wire.epochOf l = e) (h3 : Wire.streamOf l = s) (h4 : Wire.seqOf l = q) (h5 : Wire.bodyOf l = b) :
  skSays a l = (0, skReply a k e s q b) := by
 unfold skSays
 rw [hr, h1, h2, h3, h4, h5]
 rfl
theorem skSays_no {a : Mod.Sk} {l : List UInt8} (hr : Wire.reads l = false) : skSays a l = (1, a, []) := by
 unfold skSays
 rw [hr]
 rfl
theorem skMore_reply {a : Mod.Sk} (M : SkMore a) (k : Int) (e s q : Nat) (b : ByteArray) (hs : s < 3) (hb : b.size ≤ 20) : SkMore (skReply a k e s q b).1 := by
 unfold skReply
 split
 ·split
  ·exact M
  ·exact skMore_hello M _
 ·split
  ·rename_i h3
   subst h3
   split
   ·rename_i he
    rw [he]
    exact skMore_after M s q b hs hb
   ·exact M
  ·exact M
theorem skMore_says {a : Mod.Sk} (M : SkMore a) (l : List UInt8) : SkMore (skSays a l).2.1 := by
 cases hr : Wire.reads l
 ·rw [skSays_no hr]; exact M
 ·obtain ⟨k, e, s, q, b, h1, h2, h3, h4, h5, g1, g2, g3, g4⟩ := reads_parts hr
  rw [skSays_yes hr h1 h2 h3 h4 h5]
  exact skMore_reply M k e s q b g2 g4
end Go.Proofs.YtamafdcnbcoegaaGreat
namespace Go.Proofs.YtamafdcnbcoegaaGreat
open Go.RowKit
section
variable {w : World} {p : Nat} {g0 : Nat → Nat} {free : List Nat} {sh : Nat → List (Nat × Value)} {st : Mod.Stv} {c : Av} {a a2 : Mod.Ag} {pl : Nat → List Nat}
set_option maxRecDepth 100000 in
set_option maxHeartbeats 4000000 in
theorem agDeliver_no (H : PaAt w p g0 a.ticks a.welcome a.fenced free sh st c) (hs : Sound st) (O : OnAg a st.opening g0 free sh pl) (bs : Value) (l : List UInt8) (hat : BytesAt w bs l) (hr : Wire.reads l = false) :
  Calls Tryz.prog 57 #[ptrTo p, bs] w fun r z => r = .returned (.int .i64 1) ∧ AgIs w z p a c := by
 have c0 : w.cell? ⟨p, 0, none⟩ = some (ptrTo c.s) := by rw [blk_cell H.ks.blk, H.ks.a0]
 have hID := storeIsDead_any H.stt
 rw [hs.1] at hID
 have HID := hide hID
 have hDC := decode_any bs l w hat
 rw [hr] at hDC
 simp only [Bool.false_eq_true, if_false, zeroFr] at hDC
 have HDC := hide hDC
 have HK := hide (agIs_refl H hs O)
 clear H hID hDC
 unfold ptrTo at *
 go_enter Tryz.func57, Tryz.ntmps57
 go_wp2_with (first | (go_at_call 86; refine (unhide HID).mono ?_; rintro r y ⟨rfl, rfl⟩) | (go_at_call 54; refine (unhide HDC).mono ?_; rintro r y ⟨rfl, hb⟩; replace hb := hide hb))
 go_ret
 exact ⟨rfl, (unhide HK).below ((unhide hb).alloc (unhide hb).size _)⟩
set_option maxRecDepth 100000 in
set_option maxHeartbeats 4000000 in
theorem agDeliver_0 (H : PaAt w p g0 a.ticks a.welcome a.fenced free sh st c) (hs : Sound st) (O : OnAg a st.opening g0 free sh pl) (bs : Value) (k e s q : Int) (b : ByteArray) (hk : k = 2)
  (hDec : ∀ y, Below w.heap.size w y → Calls Tryz.prog 54 #[bs] y fun r z => r = .returned (.tuple #[.agg #[.int .i64 k, .int .i64 e, .int .i64 s, .int .i64 q, .string b], .int .i64 0]) ∧ Below y.heap.size y z)
  (hC : ∀ y, Below w.heap.size w y → Calls Tryz.prog 104 #[ptrTo p, .agg #[.int .i64 2, .int .i64 e, .int .i64 s, .int .i64 q, .string b]] y fun r z => r = .returned (.int .i64 0) ∧ AgIs y z p a2 c) :
  Calls Tryz.prog 57 #[ptrTo p, bs] w fun r z => r = .returned (.int .i64 0) ∧ AgIs w z p a2 c := by
 have c0 : w.cell? ⟨p, 0, none⟩ = some (ptrTo c.s) := by rw [blk_cell H.ks.blk, H.ks.a0]
 have hID := storeIsDead_any H.stt
 rw [hs.1] at hID
 have HID := hide hID
 have HDC := hide (hDec w (Below.refl _ _))
 subst hk
 have hCC := fun y hy => hide (hC y hy)
 clear hC
 obtain ⟨ad, cap, hrv, hcap1, hcap2, hcells⟩ := H.rl.shape
 obtain ⟨g, o, rfl, hcl⟩ := hcells (by omega)
 have r0 : w.cell? ⟨g, o, none⟩ = some (.int .i64 2) := by have := hcl 0 (by omega); simpa [agRules] using this
 have r1 : w.cell? ⟨g, o + 1, none⟩ = some (.func (.func 104) #[ptrTo p] #[]) := by have := hcl 1 (by omega); simpa [agRules] using this
 have r2 : w.cell? ⟨g, o + 2, none⟩ = some (.int .i64 4) := by have := hcl 2 (by omega); simpa [agRules] using this
 have r3 : w.cell? ⟨g, o + 2 + 1, none⟩ = some (.func (.func 105) #[ptrTo p] #[]) := by have := hcl 3 (by omega); simpa [agRules] using this
 have r4 : w.cell? ⟨g, o + 4, none⟩ = some (.int .i64 5) := by have := hcl 4 (by omega); simpa [agRules] using this
 have r5 : w.cell? ⟨g, o + 4 + 1, none⟩ = some (.func (.func 106) #[ptrTo p] #[]) := by have := hcl 5 (by omega); simpa [agRules] using this
 have c26 : w.cell? ⟨p, 26, none⟩ = some (.slice (some ⟨g, o, none⟩) 3 cap) := by rw [blk_cell H.ks.blk, H.ks.ar, hrv]
 have hgl : g < w.heap.size := World.block_lt_of_cell? _ _ r0
 have hpl := lt_of_block H.ks.blk
 have HST := hide (agIs_refl H hs O)
 clear H hID hDec hcl hcells hrv
 unfold ptrTo at *
 go_enter Tryz.func57, Tryz.ntmps57
 go_upto_region 4 with (first | (go_at_call 86; refine (unhide HID).mono ?_; rintro r y ⟨rfl, hyw⟩; obtain rfl : w = y := hyw.symm) | (go_at_call 54; refine (unhide HDC).mono ?_; rintro r y ⟨rfl, hb⟩))
 obtain ⟨g6, hg6⟩ : ∃ g6, g6 = y.heap.size := ⟨_, rfl⟩
 have hgw : w.heap.size ≤ g6 := by have := hb.size; omega
 have HG6 := hide hg6
 have HB := hide hb
 rw [← hg6]
 clear hg6 hb
 refine wp_world (fun u => u.heap[g6]? = some (.cells #[.int .i64 2, .int .i64 e, .int .i64 s, .int .i64 q, .string b] 41 (0, 0)) ∧ Below w.heap.size w u) ?_ ?_
 ·rw [unhide HG6]
  exact ⟨heap_alloc_new _ _, (unhide HB).alloc (unhide HB).size _⟩
 clear HG6 HB c0 HDC HID
 rintro u ⟨h6, hbu⟩
 have d26 := (hbu.cell (p := ⟨p, 26, none⟩) hpl).trans c26
 have H6 := hide h6
 have HU := hide hbu
 clear h6 hbu c26
 go_wp2
 go_loopw [8, 27] (fun _ i wr => ∃ j : Nat, j ≤ 0 ∧ i = .int .i64 j ∧ wr.heap[g6]? = some (.cells #[.int .i64 2, .int .i64 e, .int .i64 s, .int .i64 q, .string b] 41 (0, 0)) ∧ Below w.heap.size w wr) (fun _ i _ => 4 - (intOf i).toNat)
 case atStart => exact ⟨0, by omega, rfl, unhide H6, unhide HU⟩
 case round =>
  obtain ⟨j, hj, rfl, h6, hb⟩ := hrel
  clear H6 HU d26
  have s0 := (hb.cell (p := ⟨g, o, none⟩) hgl).trans r0
  have s1 := (hb.cell (p := ⟨g, o + 1, none⟩) hgl).trans r1
  have s2 := (hb.cell (p := ⟨g, o + 2, none⟩) hgl).trans r2
  have s3 := (hb.cell (p := ⟨g, o + 2 + 1, none⟩) hgl).trans r3
  have s4 := (hb.cell (p := ⟨g, o + 4, none⟩) hgl).trans r4
  have s5 := (hb.cell (p := ⟨g, o + 4 + 1, none⟩) hgl).trans r5
  have y0 := blk_cell (i := 0) h6
  have y1 := blk_cell (i := 1) h6
  have y2 := blk_cell (i := 2) h6
  have y3 := blk_cell (i := 3) h6
  have y4 := blk_cell (i := 4) h6
  simp at y0 y1 y2 y3 y4
  have h6l := lt_of_block h6
  have HH6 := hide h6
  have HBB := hide hb
  have hnext : ∀ ob, (wr.alloc ob).heap[g6]? = some (.cells #[.int .i64 2, .int .i64 e, .int .i64 s, .int .i64 q, .string b] 41 (0, 0)) ∧ Below w.heap.size w (wr.alloc ob) := fun ob => ⟨(hao _ _ h6l).trans h6, hb.alloc hb.size _⟩
  have HNX := hide hnext
  clear h6 hb hnext r0 r1 r2 r3 r4 r5
  have hsf0 : ∀ (ad : Addr) (m : Mode) (z : World), (store ad (.func (.func 104) #[.pointer (some ⟨p, 0, none⟩)] #[]) m).run Tryz.prog z = stored Tryz.prog z ad (.func (.func 104) #[.pointer (some ⟨p, 0, none⟩)] #[]) m := fun ad m z => run_store _ _ _ _ _ rfl
  have hsf1 : ∀ (ad : Addr) (m : Mode) (z : World), (store ad (.func (.func 105) #[.pointer (some ⟨p, 0, none⟩)] #[]) m).run Tryz.prog z = stored Tryz.prog z ad (.func (.func 105) #[.pointer (some ⟨p, 0, none⟩)] #[]) m := fun ad m z => run_store _ _ _ _ _ rfl
  have hsf2 : ∀ (ad : Addr) (m : Mode) (z : World), (store ad (.func (.func 106) #[.pointer (some ⟨p, 0, none⟩)] #[]) m).run Tryz.prog z = stored Tryz.prog z ad (.func (.func 106) #[.pointer (some ⟨p, 0, none⟩)] #[]) m := fun ad m z => run_store _ _ _ _ _ rfl
  obtain rfl : j = 0 := by omega
  focus
   go_wp2_with (go_at_call 104; refine (unhide (hCC _ (by first | exact ((unhide HNX) _).2 | exact (unhide HBB)))).mono ?_; rintro r z ⟨rfl, k1⟩; replace k1 := hide k1)
   go_ret
   exact ⟨rfl, (unhide k1).behind (by first | exact ((unhide HNX) _).2 | exact (unhide HBB))⟩
set_option maxRecDepth 100000 in
set_option maxHeartbeats 4000000 in
theorem agDeliver_1 (H : PaAt w p g0 a.ticks a.welcome a.fenced free sh st c) (hs : Sound st) (O : OnAg a st.opening g0 free sh pl) (bs : Value) (k e s q : Int) (b : ByteArray) (hk : k = 4)
  (hDec : ∀ y, Below w.heap.size w y → Calls Tryz.prog 54 #[bs] y fun r z => r = .returned (.tuple #[.agg #[.int .i64 k, .int .i64 e, .int .i64 s, .int .i64 q, .string b], .int .i64 0]) ∧ Below y.heap.size y z)
  (hC : ∀ y, Below w.heap.size w y → Calls Tryz.prog 105 #[ptrTo p, .agg #[.int .i64 4, .int .i64 e, .int .i64 s, .int .i64 q, .string b]] y fun r z => r = .returned (.int .i64 0) ∧ AgIs y z p a2 c) :
  Calls Tryz.prog 57 #[ptrTo p, bs] w fun r z => r = .returned (.int .i64 0) ∧ AgIs w z p a2 c := by
 have c0 : w.cell? ⟨p, 0, none⟩ = some (ptrTo c.s) := by rw [blk_cell H.ks.blk, H.ks.a0]
 have hID := storeIsDead_any H.stt
 rw [hs.1] at hID
 have HID := hide hID
 have HDC := hide (hDec w (Below.refl _ _))
 subst hk
 have hCC := fun y hy => hide (hC y hy)
 clear hC
 obtain ⟨ad, cap, hrv, hcap1, hcap2, hcells⟩ := H.rl.shape
 obtain ⟨g, o, rfl, hcl⟩ := hcells (by omega)
 have r0 : w.cell? ⟨g, o, none⟩ = some (.int .i64 2) := by have := hcl 0 (by omega); simpa [agRules] using this
 have r1 : w.cell? ⟨g, o + 1, none⟩ = some (.func (.func 104) #[ptrTo p] #[]) := by have := hcl 1 (by omega); simpa [agRules] using this
 have r2 : w.cell? ⟨g, o + 2, none⟩ = some (.int .i64 4) := by have := hcl 2 (by omega); simpa [agRules] using this
 have r3 : w.cell? ⟨g, o + 2 + 1, none⟩ = some (.func (.func 105) #[ptrTo p] #[]) := by have := hcl 3 (by omega); simpa [agRules] using this
 have r4 : w.cell? ⟨g, o + 4, none⟩ = some (.int .i64 5) := by have := hcl 4 (by omega); simpa [agRules] using this
 have r5 : w.cell? ⟨g, o + 4 + 1, none⟩ = some (.func (.func 106) #[ptrTo p] #[]) := by have := hcl 5 (by omega); simpa [agRules] using this
 have c26 : w.cell? ⟨p, 26, none⟩ = some (.slice (some ⟨g, o, none⟩) 3 cap) := by rw [blk_cell H.ks.blk, H.ks.ar, hrv]
 have hgl : g < w.heap.size := World.block_lt_of_cell? _ _ r0
 have hpl := lt_of_block H.ks.blk
 have HST := hide (agIs_refl H hs O)
 clear H hID hDec hcl hcells hrv
 unfold ptrTo at *
 go_enter Tryz.func57, Tryz.ntmps57
 go_upto_region 4 with (first | (go_at_call 86; refine (unhide HID).mono ?_; rintro r y ⟨rfl, hyw⟩; obtain rfl : w = y := hyw.symm) | (go_at_call 54; refine (unhide HDC).mono ?_; rintro r y ⟨rfl, hb⟩))
 obtain ⟨g6, hg6⟩ : ∃ g6, g6 = y.heap.size := ⟨_, rfl⟩
 have hgw : w.heap.size ≤ g6 := by have := hb.size; omega
 have HG6 := hide hg6
 have HB := hide hb
 rw [← hg6]
 clear hg6 hb
 refine wp_world (fun u => u.heap[g6]? = some (.cells #[.int .i64 4, .int .i64 e, .int .i64 s, .int .i64 q, .string b] 41 (0, 0)) ∧ Below w.heap.size w u) ?_ ?_
 ·rw [unhide HG6]
  exact ⟨heap_alloc_new _ _, (unhide HB).alloc (unhide HB).size _⟩
 clear HG6 HB c0 HDC HID
 rintro u ⟨h6, hbu⟩
 have d26 := (hbu.cell (p := ⟨p, 26, none⟩) hpl).trans c26
 have H6 := hide h6
 have HU := hide hbu
 clear h6 hbu c26
 go_wp2
 go_loopw [8, 27] (fun _ i wr => ∃ j : Nat, j ≤ 1 ∧ i = .int .i64 j ∧ wr.heap[g6]? = some (.cells #[.int .i64 4, .int .i64 e, .int .i64 s, .int .i64 q, .string b] 41 (0, 0)) ∧ Below w.heap.size w wr) (fun _ i _ => 4 - (intOf i).toNat)
 case atStart => exact ⟨0, by omega, rfl, unhide H6, unhide HU⟩
 case round =>
  obtain ⟨j, hj, rfl, h6, hb⟩ := hrel
  clear H6 HU d26
  have s0 := (hb.cell (p := ⟨g, o, none⟩) hgl).trans r0
  have s1 := (hb.cell (p := ⟨g, o + 1, none⟩) hgl).trans r1
  have s2 := (hb.cell (p := ⟨g, o + 2, none⟩) hgl).trans r2
  have s3 := (hb.cell (p := ⟨g, o + 2 + 1, none⟩) hgl).trans r3
  have s4 := (hb.cell (p := ⟨g, o + 4, none⟩) hgl).trans r4
  have s5 := (hb.cell (p := ⟨g, o + 4 + 1, none⟩) hgl).trans r5
  have y0 := blk_cell (i := 0) h6
  have y1 := blk_cell (i := 1) h6
  have y2 := blk_cell (i := 2) h6
  have y3 := blk_cell (i := 3) h6
  have y4 := blk_cell (i := 4) h6
  simp at y0 y1 y2 y3 y4
  have h6l := lt_of_block h6
  have HH6 := hide h6
  have HBB := hide hb
  have hnext : ∀ ob, (wr.alloc ob).heap[g6]? = some (.cells #[.int .i64 4, .int .i64 e, .int .i64 s, .int .i64 q, .string b] 41 (0, 0)) ∧ Below w.heap.size w (wr.alloc ob) := fun ob => ⟨(hao _ _ h6l).trans h6, hb.alloc hb.size _⟩
  have HNX := hide hnext
  clear h6 hb hnext r0 r1 r2 r3 r4 r5
  have hsf0 : ∀ (ad : Addr) (m : Mode) (z : World), (store ad (.func (.func 104) #[.pointer (some ⟨p, 0, none⟩)] #[]) m).run Tryz.prog z = stored Tryz.prog z ad (.func (.func 104) #[.pointer (some ⟨p, 0, none⟩)] #[]) m := fun ad m z => run_store _ _ _ _ _ rfl
  have hsf1 : ∀ (ad : Addr) (m : Mode) (z : World), (store ad (.func (.func 105) #[.pointer (some ⟨p, 0, none⟩)] #[]) m).run Tryz.prog z = stored Tryz.prog z ad (.func (.func 105) #[.pointer (some ⟨p, 0, none⟩)] #[]) m := fun ad m z => run_store _ _ _ _ _ rfl
  have hsf2 : ∀ (ad : Addr) (m : Mode) (z : World), (store ad (.func (.func 106) #[.pointer (some ⟨p, 0, none⟩)] #[]) m).run Tryz.prog z = stored Tryz.prog z ad (.func (.func 106) #[.pointer (some ⟨p, 0, none⟩)] #[]) m := fun ad m z => run_store _ _ _ _ _ rfl
  rcases (show j = 0 ∨ j = 1 by omega) with rfl | rfl
  focus
   go_wp2
   exact ⟨⟨1, by omega, by go_num, (unhide HNX) _⟩, by simp [intOf]⟩
  focus
   go_wp2_with (go_at_call 105; refine (unhide (hCC _ (by first | exact ((unhide HNX) _).2 | exact (unhide HBB)))).mono ?_; rintro r z ⟨rfl, k1⟩; replace k1 := hide k1)
   go_ret
   exact ⟨rfl, (unhide k1).behind (by first | exact ((unhide HNX) _).2 | exact (unhide HBB))⟩
set_option maxRecDepth 100000 in
set_option maxHeartbeats 4000000 in
theorem agDeliver_2 (H : PaAt w p g0 a.ticks a.welcome a.fenced free sh st c) (hs : Sound st) (O : OnAg a st.opening g0 free sh pl) (bs : Value) (k e s q : Int) (b : ByteArray) (hk : k = 5)
  (hDec : ∀ y, Below w.heap.size w y → Calls Tryz.prog 54 #[bs] y fun r z => r = .returned (.tuple #[.agg #[.int .i64 k, .int .i64 e, .int .i64 s, .int .i64 q, .string b], .int .i64 0]) ∧ Below y.heap.size y z)
  (hC : ∀ y, Below w.heap.size w y → Calls Tryz.prog 106 #[ptrTo p, .agg #[.int .i64 5, .int .i64 e, .int .i64 s, .int .i64 q, .string b]] y fun r z => r = .returned (.int .i64 0) ∧ AgIs y z p a2 c) :
  Calls Tryz.prog 57 #[ptrTo p, bs] w fun r z => r = .returned (.int .i64 0) ∧ AgIs w z p a2 c := by
 have c0 : w.cell? ⟨p, 0, none⟩ = some (ptrTo c.s) := by rw [blk_cell H.ks.blk, H.ks.a0]
 have hID := storeIsDead_any H.stt
 rw [hs.1] at hID
 have HID := hide hID
 have HDC := hide (hDec w (Below.refl _ _))
 subst hk
 have hCC := fun y hy => hide (hC y hy)
 clear hC
 obtain ⟨ad, cap, hrv, hcap1, hcap2, hcells⟩ := H.rl.shape
 obtain ⟨g, o, rfl, hcl⟩ := hcells (by omega)
 have r0 : w.cell? ⟨g, o, none⟩ = some (.int .i64 2) := by have := hcl 0 (by omega); simpa [agRules] using this
 have r1 : w.cell? ⟨g, o + 1, none⟩ = some (.func (.func 104) #[ptrTo p] #[]) := by have := hcl 1 (by omega); simpa [agRules] using this
 have r2 : w.cell? ⟨g, o + 2, none⟩ = some (.int .i64 4) := by have := hcl 2 (by omega); simpa [agRules] using this
 have r3 : w.cell? ⟨g, o + 2 + 1, none⟩ = some (.func (.func 105) #[ptrTo p] #[]) := by have := hcl 3 (by omega); simpa [agRules] using this
 have r4 : w.cell? ⟨g, o + 4, none⟩ = some (.int .i64 5) := by have := hcl 4 (by omega); simpa [agRules] using this
 have r5 : w.cell? ⟨g, o + 4 + 1, none⟩ = some (.func (.func 106) #[ptrTo p] #[]) := by have := hcl 5 (by omega); simpa [agRules] using this
 have c26 : w.cell? ⟨p, 26, none⟩ = some (.slice (some ⟨g, o, none⟩) 3 cap) := by rw [blk_cell H.ks.blk, H.ks.ar, hrv]
 have hgl : g < w.heap.size := World.block_lt_of_cell? _ _ r0
 have hpl := lt_of_block H.ks.blk
 have HST := hide (agIs_refl H hs O)
 clear H hID hDec hcl hcells hrv
 unfold ptrTo at *
 go_enter Tryz.func57, Tryz.ntmps57
 go_upto_region 4 with (first | (go_at_call 86; refine (unhide HID).mono ?_; rintro r y ⟨rfl, hyw⟩; obtain rfl : w = y := hyw.symm) | (go_at_call 54; refine (unhide HDC).mono ?_; rintro r y ⟨rfl, hb⟩))
 obtain ⟨g6, hg6⟩ : ∃ g6, g6 = y.heap.size := ⟨_, rfl⟩
 have hgw : w.heap.size ≤ g6 := by have := hb.size; omega
 have HG6 := hide hg6
 have HB := hide hb
 rw [← hg6]
 clear hg6 hb
 refine wp_world (fun u => u.heap[g6]? = some (.cells #[.int .i64 5, .int .i64 e, .int .i64 s, .int .i64 q, .string b] 41 (0, 0)) ∧ Below w.heap.size w u) ?_ ?_
 ·rw [unhide HG6]
  exact ⟨heap_alloc_new _ _, (unhide HB).alloc (unhide HB).size _⟩
 clear HG6 HB c0 HDC HID
 rintro u ⟨h6, hbu⟩
 have d26 := (hbu.cell (p := ⟨p, 26, none⟩) hpl).trans c26
 have H6 := hide h6
 have HU := hide hbu
 clear h6 hbu c26
 go_wp2
 go_loopw [8, 27] (fun _ i wr => ∃ j : Nat, j ≤ 2 ∧ i = .int .i64 j ∧ wr.heap[g6]? = some (.cells #[.int .i64 5, .int .i64 e, .int .i64 s, .int .i64 q, .string b] 41 (0, 0)) ∧ Below w.heap.size w wr) (fun _ i _ => 4 - (intOf i).toNat)
 case atStart => exact ⟨0, by omega, rfl, unhide H6, unhide HU⟩
 case round =>
  obtain ⟨j, hj, rfl, h6, hb⟩ := hrel
  clear H6 HU d26
  have s0 := (hb.cell (p := ⟨g, o, none⟩) hgl).trans r0
  have s1 := (hb.cell (p := ⟨g, o + 1, none⟩) hgl).trans r1
  have s2 := (hb.cell (p := ⟨g, o + 2, none⟩) hgl).trans r2
  have s3 := (hb.cell (p := ⟨g, o + 2 + 1, none⟩) hgl).trans r3
  have s4 := (hb.cell (p := ⟨g, o + 4, none⟩) hgl).trans r4
  have s5 := (hb.cell (p := ⟨g, o + 4 + 1, none⟩) hgl).trans r5
  have y0 := blk_cell (i := 0) h6
  have y1 := blk_cell (i := 1) h6
  have y2 := blk_cell (i := 2) h6
  have y3 := blk_cell (i := 3) h6
  have y4 := blk_cell (i := 4) h6
  simp at y0 y1 y2 y3 y4
  have h6l := lt_of_block h6
  have HH6 := hide h6
  have HBB := hide hb
  have hnext : ∀ ob, (wr.alloc ob).heap[g6]? = some (.cells #[.int .i64 5, .int .i64 e, .int .i64 s, .int .i64 q, .string b] 41 (0, 0)) ∧ Below w.heap.size w (wr.alloc ob) := fun ob => ⟨(hao _ _ h6l).trans h6, hb.alloc hb.size _⟩
  have HNX := hide hnext
  clear h6 hb hnext r0 r1 r2 r3 r4 r5
  have hsf0 : ∀ (ad : Addr) (m : Mode) (z : World), (store ad (.func (.func 104) #[.pointer (some ⟨p, 0, none⟩)] #[]) m).run Tryz.prog z = stored Tryz.prog z ad (.func (.func 104) #[.pointer (some ⟨p, 0, none⟩)] #[]) m := fun ad m z => run_store _ _ _ _ _ rfl
  have hsf1 : ∀ (ad : Addr) (m : Mode) (z : World), (store ad (.func (.func 105) #[.pointer (some ⟨p, 0, none⟩)] #[]) m).run Tryz.prog z = stored Tryz.prog z ad (.func (.func 105) #[.pointer (some ⟨p, 0, none⟩)] #[]) m := fun ad m z => run_store _ _ _ _ _ rfl
  have hsf2 : ∀ (ad : Addr) (m : Mode) (z : World), (store ad (.func (.func 106) #[.pointer (some ⟨p, 0, none⟩)] #[]) m).run Tryz.prog z = stored Tryz.prog z ad (.func (.func 106) #[.pointer (some ⟨p, 0, none⟩)] #[]) m := fun ad m z => run_store _ _ _ _ _ rfl
  rcases (show j = 0 ∨ j = 1 ∨ j = 2 by omega) with rfl | rfl | rfl
  focus
   go_wp2
   exact ⟨⟨1, by omega, by go_num, (unhide HNX) _⟩, by simp [intOf]⟩
  focus
   go_wp2
   exact ⟨⟨2, by omega, by go_num, (unhide HNX) _⟩, by simp [intOf]⟩
  focus
   go_wp2_with (go_at_call 106; refine (unhide (hCC _ (by first | exact ((unhide HNX) _).2 | exact (unhide HBB)))).mono ?_; rintro r z ⟨rfl, k1⟩; replace k1 := hide k1)
   go_ret
   exact ⟨rfl, (unhide k1).behind (by first | exact ((unhide HNX) _).2 | exact (unhide HBB))⟩
set_option maxRecDepth 100000 in
set_option maxHeartbeats 4000000 in
theorem agDeliver_none (H : PaAt w p g0 a.ticks a.welcome a.fenced free sh st c) (hs : Sound st) (O : OnAg a st.opening g0 free sh pl) (bs : Value) (k e s q : Int) (b : ByteArray) (k2 : k ≠ 2) (k4 : k ≠ 4) (k5 : k ≠ 5)
  (hDec : ∀ y, Below w.heap.size w y → Calls Tryz.prog 54 #[bs] y fun r z => r = .returned (.tuple #[.agg #[.int .i64 k, .int .i64 e, .int .i64 s, .int .i64 q, .string b], .int .i64 0]) ∧ Below y.heap.size y z) :
  Calls Tryz.prog 57 #[ptrTo p, bs] w fun r z => r = .returned (.int .i64 0) ∧ AgIs w z p a c := by
 have c0 : w.cell? ⟨p, 0, none⟩ = some (ptrTo c.s) := by rw [blk_cell H.ks.blk, H.ks.a0]
 have hID := storeIsDead_any H.stt
 rw [hs.1] at hID
 have HID := hide hID
 have HDC := hide (hDec w (Below.refl _ _))
 have e2 : ((2 : Int) == k) = false := by simp; omega
 have e4 : ((4 : Int) == k) = false := by simp; omega
 have e5 : ((5 : Int) == k) = false := by simp; omega
 obtain ⟨ad, cap, hrv, hcap1, hcap2, hcells⟩ := H.rl.shape
 obtain ⟨g, o, rfl, hcl⟩ := hcells (by omega)
 have r0 : w.cell? ⟨g, o, none⟩ = some (.int .i64 2) := by have := hcl 0 (by omega); simpa [agRules] using this
 have r1 : w.cell? ⟨g, o + 1, none⟩ = some (.func (.func 104) #[ptrTo p] #[]) := by have := hcl 1 (by omega); simpa [agRules] using this
 have r2 : w.cell? ⟨g, o + 2, none⟩ = some (.int .i64 4) := by have := hcl 2 (by omega); simpa [agRules] using this
 have r3 : w.cell? ⟨g, o + 2 + 1, none⟩ = some (.func (.func 105) #[ptrTo p] #[]) := by have := hcl 3 (by omega); simpa [agRules] using this
 have r4 : w.cell? ⟨g, o + 4, none⟩ = some (.int .i64 5) := by have := hcl 4 (by omega); simpa [agRules] using this
 have r5 : w.cell? ⟨g, o + 4 + 1, none⟩ = some (.func (.func 106) #[ptrTo p] #[]) := by have := hcl 5 (by omega); simpa [agRules] using this
 have c26 : w.cell? ⟨p, 26, none⟩ = some (.slice (some ⟨g, o, none⟩) 3 cap) := by rw [blk_cell H.ks.blk, H.ks.ar, hrv]
 have hgl : g < w.heap.size := World.block_lt_of_cell? _ _ r0
 have hpl := lt_of_block H.ks.blk
 have HST := hide (agIs_refl H hs O)
 clear H hID hDec hcl hcells hrv
 unfold ptrTo at *
 go_enter Tryz.func57, Tryz.ntmps57
 go_upto_region 4 with (first | (go_at_call 86; refine (unhide HID).mono ?_; rintro r y ⟨rfl, hyw⟩; obtain rfl : w = y := hyw.symm) | (go_at_call 54; refine (unhide HDC).mono ?_; rintro r y ⟨rfl, hb⟩))
 obtain ⟨g6, hg6⟩ : ∃ g6, g6 = y.heap.size := ⟨_, rfl⟩
 have hgw : w.heap.size ≤ g6 := by have := hb.size; omega
 have HG6 := hide hg6
 have HB := hide hb
 rw [← hg6]
 clear hg6 hb
 refine wp_world (fun u => u.heap[g6]? = some (.cells #[.int .i64 k, .int .i64 e, .int .i64 s, .int .i64 q, .string b] 41 (0, 0)) ∧ Below w.heap.size w u) ?_ ?_
 ·rw [unhide HG6]
  exact ⟨heap_alloc_new _ _, (unhide HB).alloc (unhide HB).size _⟩
 clear HG6 HB c0 HDC HID
 rintro u ⟨h6, hbu⟩
 have d26 := (hbu.cell (p := ⟨p, 26, none⟩) hpl).trans c26
 have H6 := hide h6
 have HU := hide hbu
 clear h6 hbu c26
 go_wp2
 go_loopw [8, 27] (fun _ i wr => ∃ j : Nat, j ≤ 3 ∧ i = .int .i64 j ∧ wr.heap[g6]? = some (.cells #[.int .i64 k, .int .i64 e, .int .i64 s, .int .i64 q, .string b] 41 (0, 0)) ∧ Below w.heap.size w wr) (fun _ i _ => 4 - (intOf i).toNat)
 case atStart => exact ⟨0, by omega, rfl, unhide H6, unhide HU⟩
 case round =>
  obtain ⟨j, hj, rfl, h6, hb⟩ := hrel
  clear H6 HU d26
  have s0 := (hb.cell (p := ⟨g, o, none⟩) hgl).trans r0
  have s1 := (hb.cell (p := ⟨g, o + 1, none⟩) hgl).trans r1
  have s2 := (hb.cell (p := ⟨g, o + 2, none⟩) hgl).trans r2
  have s3 := (hb.cell (p := ⟨g, o + 2 + 1, none⟩) hgl).trans r3
  have s4 := (hb.cell (p := ⟨g, o + 4, none⟩) hgl).trans r4
  have s5 := (hb.cell (p := ⟨g, o + 4 + 1, none⟩) hgl).trans r5
  have y0 := blk_cell (i := 0) h6
  have y1 := blk_cell (i := 1) h6
  have y2 := blk_cell (i := 2) h6
  have y3 := blk_cell (i := 3) h6
  have y4 := blk_cell (i := 4) h6
  simp at y0 y1 y2 y3 y4
  have h6l := lt_of_block h6
  have HH6 := hide h6
  have HBB := hide hb
  have hnext : ∀ ob, (wr.alloc ob).heap[g6]? = some (.cells #[.int .i64 k, .int .i64 e, .int .i64 s, .int .i64 q, .string b] 41 (0, 0)) ∧ Below w.heap.size w (wr.alloc ob) := fun ob => ⟨(hao _ _ h6l).trans h6, hb.alloc hb.size _⟩
  have HNX := hide hnext
  clear h6 hb hnext r0 r1 r2 r3 r4 r5
  have hsf0 : ∀ (ad : Addr) (m : Mode) (z : World), (store ad (.func (.func 104) #[.pointer (some ⟨p, 0, none⟩)] #[]) m).run Tryz.prog z = stored Tryz.prog z ad (.func (.func 104) #[.pointer (some ⟨p, 0, none⟩)] #[]) m := fun ad m z => run_store _ _ _ _ _ rfl
  have hsf1 : ∀ (ad : Addr) (m : Mode) (z : World), (store ad (.func (.func 105) #[.pointer (some ⟨p, 0, none⟩)] #[]) m).run Tryz.prog z = stored Tryz.prog z ad (.func (.func 105) #[.pointer (some ⟨p, 0, none⟩)] #[]) m := fun ad m z => run_store _ _ _ _ _ rfl
  have hsf2 : ∀ (ad : Addr) (m : Mode) (z : World), (store ad (.func (.func 106) #[.pointer (some ⟨p, 0, none⟩)] #[]) m).run Tryz.prog z = stored Tryz.prog z ad (.func (.func 106) #[.pointer (some ⟨p, 0, none⟩)] #[]) m := fun ad m z => run_store _ _ _ _ _ rfl
  rcases (show j = 0 ∨ j = 1 ∨ j = 2 ∨ j = 3 by omega) with rfl | rfl | rfl | rfl
  focus
   go_wp2
   exact ⟨⟨1, by omega, by go_num, (unhide HNX) _⟩, by simp [intOf]⟩
  focus
   go_wp2
   exact ⟨⟨2, by omega, by go_num, (unhide HNX) _⟩, by simp [intOf]⟩
  focus
   go_wp2
   exact ⟨⟨3, by omega, by go_num, (unhide HNX) _⟩, by simp [intOf]⟩
  focus
   go_wp2
   go_ret
   exact ⟨rfl, (unhide HST).below (unhide HBB)⟩
end
theorem agSays_yes {a : Mod.Ag} {l : List UInt8} (hr : Wire.reads l = true) {k : Int} {e s q : Nat} {b : ByteArray} (h1 : Wire.kindOf l = k) (h2 : Wire.epochOf l = e) (h3 : Wire.streamOf l = s) (h4 : Wire.seqOf l = q) (h5 : Wire.bodyOf l = b) :
  agSays a l = (0, a.deliver k e s q b) := by
 unfold agSays
 rw [hr, h1, h2, h3, h4, h5]
 rfl
theorem agSays_no {a : Mod.Ag} {l : List UInt8} (hr : Wire.reads l = false) : agSays a l = (1, a) := by
 unfold agSays
 rw [hr]
 rfl
theorem reads_proper {l : List UInt8} (hr : Wire.reads l = true) : Wire.proper (Wire.kindOf l) (Wire.epochOf l) (Wire.streamOf l) (Wire.seqOf l) (Wire.bodyOf l) = true := by
 unfold Wire.reads at hr
 rw [Bool.and_eq_true] at hr
 exact hr.2
section
variable {w : World} {p : Nat} {g0 : Nat → Nat} {free : List Nat} {sh : Nat → List (Nat × Value)} {st : Mod.Stv} {c : Av} {a : Mod.Ag} {pl : Nat → List Nat}
theorem agDeliver_any (H : PaAt w p g0 a.ticks a.welcome a.fenced free sh st c) (hs : Sound st) (O : OnAg a st.opening g0 free sh pl) (hbnd : ∀ i, i < 3 → (a.fl i).base + (a.fl i).kept.length ≤ 1000000000) (bs : Value) (l : List UInt8) (hat : BytesAt w bs l) :
  Calls Tryz.prog 57 #[ptrTo p, bs] w fun r z => r = .returned (.int .i64 (agSays a l).1) ∧ AgIs w z p (agSays a l).2 c := by
 cases hr : Wire.reads l
 ·rw [agSays_no hr]
  exact agDeliver_no H hs O bs l hat hr
 ·have hpr := reads_proper hr
  obtain ⟨k, e, s, q, b, h1, h2, h3, h4, h5, g1, g2, g3, g4⟩ := reads_parts hr
  rw [agSays_yes hr h1 h2 h3 h4 h5]
  rw [h1, h2, h3, h4, h5] at hpr
  have hDec : ∀ y, Below w.heap.size w y → Calls Tryz.prog 54 #[bs] y fun r z => r = .returned (.tuple #[.agg #[.int .i64 k, .int .i64 e, .int .i64 s, .int .i64 q, .string b], .int .i64 0]) ∧ Below y.heap.size y z := fun y hy => by
   have := decode_any bs l y (hat.below hy)
   rw [hr] at this
   simp only [if_true, frVal, h1, h2, h3, h4, h5] at this
   exact this
  have HY := fun y (hy : Below w.heap.size w y) => H.below hy
  by_cases k2 : k = 2
  ·refine agDeliver_0 H hs O bs k e s q b k2 hDec (fun y hy => ?_)
   subst k2
   by_cases he : e = a.epoch
   ·exact obeyWelcome_yes (HY y hy) hs O e s q b he (proper_2 hpr) (fun i hi => by have := hbnd i hi; omega)
   ·refine (obeyWelcome_no (HY y hy) O e s q b he).mono ?_
    rintro r z ⟨rfl, hb⟩
    rw [show a.deliver 2 e s q b = a by unfold Mod.Ag.deliver; rw [if_neg (by omega), if_pos (by omega)]]
    exact ⟨rfl, (agIs_refl (HY y hy) hs O).below hb⟩
  ·by_cases k4 : k = 4
   ·refine agDeliver_1 H hs O bs k e s q b k4 hDec (fun y hy => ?_)
    subst k4
    by_cases he : e = a.epoch ∧ a.welcome = true
    ·exact obeyAck_do (HY y hy) hs O e s q b he.1 he.2 g2 (by have := (proper_4 hpr).1; omega) hbnd
    ·refine (obeyAck_skip (HY y hy) O e s q b ?_).mono ?_
     ·by_cases h : e = a.epoch
      ·right
       cases hw : a.welcome
       ·rfl
       ·exact absurd ⟨h, hw⟩ he
      ·exact .inl h
     rintro r z ⟨rfl, hb⟩
     have : a.deliver 4 e s q b = a := by
      unfold Mod.Ag.deliver
      rw [if_neg (by omega)]
      by_cases h : e = a.epoch
      ·rw [if_neg (by omega), if_neg (by omega), if_neg (by omega), if_pos rfl]
       cases hw : a.welcome
       ·rw [if_pos (.inl (by simp))]
       ·exact absurd ⟨h, hw⟩ he
      ·rw [if_pos (by omega)]
     rw [this]
     exact ⟨rfl, (agIs_refl (HY y hy) hs O).below hb⟩
   ·by_cases k5 : k = 5
    ·refine agDeliver_2 H hs O bs k e s q b k5 hDec (fun y hy => ?_)
     subst k5
     exact obeyReset_any (HY y hy) hs O e s q b
    ·have : a.deliver k e s q b = a := by
      unfold Mod.Ag.deliver
      rw [if_neg (by omega)]
      by_cases h : e = a.epoch
      ·rw [if_neg (by omega), if_neg (by omega), if_neg (by omega), if_neg (by omega)]
      ·rw [if_pos (by omega)]
     rw [this]
     exact agDeliver_none H hs O bs k e s q b k2 k4 k5 hDec
end
end Go.Proofs.YtamafdcnbcoegaaGreat
