/-
  Part 8 of a proof: X13, X14, X15, X16.
-/
import Derived.Test.YtamafdcnbcoegaaGreatSd7
namespace Go.Proofs.YtamafdcnbcoegaaGreat
open Go.RowKit

theorem bit0 : ∀ n : Fin 256, (bits BinOp.and IntKind.u8 ((n.val : Nat) : Int) 1 == 1) = decide (n.val % 2 = 1) := by decide +kernel
theorem bit1 : ∀ n : Fin 256, (bits BinOp.and IntKind.u8 (((n.val : Nat) : Int) / 2) 1 == 1) = decide (n.val / 2 % 2 = 1) := by decide +kernel
theorem bit2 : ∀ n : Fin 256, (bits BinOp.and IntKind.u8 (((n.val : Nat) : Int) / 4) 1 == 1) = decide (n.val / 4 % 2 = 1) := by decide +kernel
theorem bitsOf_len (q c : Nat) : ∀ i, (Mod.bitsOf q c i).length ≤ i
  | 0 => by simp [Mod.bitsOf]
  | i + 1 => by
    have := bitsOf_len q c i
    simp only [Mod.bitsOf, List.length_append]
    split <;> simp <;> omega
theorem numCells_snoc (l : List Nat) (n : Nat) : numCells (l ++ [n]) = numCells l ++ [.int .i64 (n : Int)] := by simp [numCells]

set_option maxRecDepth 100000 in
set_option maxHeartbeats 2000000 in
theorem refDeliver_late {w : World} {p : Nat} {a : Mod.Ag} {r : RRest} {kv hv : Nat → Value} (R : RefAt w p a r kv hv) (k e : Int) (s qn : Nat) (b : ByteArray) (hk : k = 4) (he : e = a.epoch) (hw : a.welcome = true) (hs : s < 3) (hq : qn ≤ 2147483647) (hlate : min qn ((a.fl s).base + (a.fl s).kept.length) < (a.fl s).base) :
    Calls Tryz.prog 174 #[.pointer (some ⟨p, 0, none⟩), .agg #[.int .i64 k, .int .i64 e, .int .i64 s, .int .i64 qn, .string b]] w fun x w' => x = .returned (.tuple #[]) ∧ RefStep w w' p a r kv hv := by
  have k5 : (k == 5) = false := by subst hk; rfl
  have k2 : (k == 2) = false := by subst hk; rfl
  have k4 : (k == 4) = true := by subst hk; rfl
  have ee : (e != (a.epoch : Int)) = false := by simpa using he
  have hk' := hide hk
  have hqb : (qn : Int) < (a.fl s).base := by omega
  clear hk he
  have DD := hide (dlay_new R k e s qn b)
  have hpl := lt_of_block R.blk
  generalize hep : (a.epoch : Int) = ep at *
  go_enter Tryz.func174, Tryz.ntmps174
  go_upto_region 1 with fail
  refine wp_world (fun x => DLay w x p a r kv hv k e s qn b) (unhide DD) ?_
  clear DD R
  intro x L
  have y0 := blk_cell (i := 0) L.box
  have y1 := blk_cell (i := 1) L.box
  have c0 := blk_cell (i := 0) L.ref.blk
  have c2 := blk_cell (i := 2) L.ref.blk
  have f2 := blk_free (i := 2) L.ref.blk
  have c3 := blk_cell (i := 3) L.ref.blk
  have f3 := blk_free (i := 3) L.ref.blk
  simp [refCells] at y0 y1 c0 c2 c3
  rw [hep] at c0
  rw [hw] at c2
  have y2 := blk_cell (i := 2) L.box
  have y3 := blk_cell (i := 3) L.box
  simp at y2 y3
  obtain ⟨d0, d1, _⟩ := ref_at L.ref s hs
  obtain ⟨ka, kc, hka, _⟩ := (L.ref.kept s hs).shape
  have hkl := L.ref.kl s hs
  have hbs := L.ref.bs s hs
  rw [hka] at d1
  clear hka
  have hs3 : (s : Int) < 3 := by omega
  have hgt : ¬ (((a.fl s).base : Int) + (a.fl s).kept.length < qn) := by omega
  have LL := hide L
  clear L hep
  clear hw hlate
  generalize (a.fl s).base = bs at *
  generalize (a.fl s).kept.length = len at *
  go_quiet (fail)
  go_wp2
  go_quiet (fail)
  go_wp2
  go_quiet (fail)
  go_wp2
  go_quiet (fail)
  go_wp2
  refine bodyPost_ret (results_none rfl _ _ _) rfl ?_
  exact ⟨rfl, refStep_of (a' := a) ((unhide LL).drew _).ref (far_below ((unhide LL).drew _).bel)⟩

set_option maxRecDepth 100000 in
set_option maxHeartbeats 2000000 in
theorem refDeliver_ack {w : World} {p : Nat} {a : Mod.Ag} {r : RRest} {kv hv : Nat → Value} (R : RefAt w p a r kv hv) (k e : Int) (s qn : Nat) (b : ByteArray) (hk : k = 4) (he : e = a.epoch) (hw : a.welcome = true) (hs : s < 3) (hq : qn ≤ 2147483647) (hb : 0 < b.size) (hlate : ¬ min qn ((a.fl s).base + (a.fl s).kept.length) < (a.fl s).base) (hsum : ∀ s, s < 3 → (a.fl s).base + (a.fl s).kept.length ≤ 1000000000000000) :
    Calls Tryz.prog 174 #[.pointer (some ⟨p, 0, none⟩), .agg #[.int .i64 k, .int .i64 e, .int .i64 s, .int .i64 qn, .string b]] w fun x w' => x = .returned (.tuple #[]) ∧ RefStep w w' p { a.drop (a.says k e s qn b) with fl := Mod.upd (a.drop (a.says k e s qn b)).fl s { (a.drop (a.says k e s qn b)).fl s with held := Mod.bitsOf (min qn ((a.fl s).base + (a.fl s).kept.length)) b[0].toNat 3 } } r kv hv := by
  have k5 : (k == 5) = false := by subst hk; rfl
  have k2 : (k == 2) = false := by subst hk; rfl
  have k4 : (k == 4) = true := by subst hk; rfl
  have ee : (e != (a.epoch : Int)) = false := by simpa using he
  have h2 : Hid (k = 2 → b.size = 12) := fun h => by omega
  have h4 : Hid (k = 4 → (0 : Int) ≤ qn ∧ (qn : Int) ≤ 2147483647) := fun _ => by omega
  have HSUM := hide hsum
  obtain ⟨sq, hsq⟩ : ∃ sq, sq = min qn ((a.fl s).base + (a.fl s).kept.length) := ⟨_, rfl⟩
  rw [← hsq] at hlate ⊢
  have hsqb : ¬ (sq : Int) < (a.fl s).base := by omega
  have hsqm : sq ≤ 2147483647 := by omega
  have HSQ := hide hsq
  have RR0 := hide R
  clear hk he hsum hlate hsq
  have DD := hide (dlay_new R k e s qn b)
  have hpl := lt_of_block R.blk
  generalize hep : (a.epoch : Int) = ep at *
  go_enter Tryz.func174, Tryz.ntmps174
  go_upto_region 1 with fail
  refine wp_world (fun x => DLay w x p a r kv hv k e s qn b) (unhide DD) ?_
  clear DD R
  intro x L
  have y0 := blk_cell (i := 0) L.box
  have y1 := blk_cell (i := 1) L.box
  have c0 := blk_cell (i := 0) L.ref.blk
  have c2 := blk_cell (i := 2) L.ref.blk
  have f2 := blk_free (i := 2) L.ref.blk
  have c3 := blk_cell (i := 3) L.ref.blk
  have f3 := blk_free (i := 3) L.ref.blk
  simp [refCells] at y0 y1 c0 c2 c3
  rw [hep] at c0
  rw [hw] at c2
  have y2 := blk_cell (i := 2) L.box
  have y3 := blk_cell (i := 3) L.box
  simp at y2 y3
  obtain ⟨d0, d1, _⟩ := ref_at L.ref s hs
  obtain ⟨ka, kc, hka, _⟩ := (L.ref.kept s hs).shape
  have hkl := L.ref.kl s hs
  have hbs := L.ref.bs s hs
  rw [hka] at d1
  clear hka
  have hs3 : (s : Int) < 3 := by omega
  have LL := hide L
  clear L hep
  clear hw
  obtain ⟨bs, hbsE⟩ : ∃ bs, bs = (a.fl s).base := ⟨_, rfl⟩
  obtain ⟨len, hlenE⟩ : ∃ len, len = (a.fl s).kept.length := ⟨_, rfl⟩
  rw [← hbsE] at d0 hbs hsqb
  rw [← hlenE] at d1 hkl
  have HSQ2 : Hid (sq = min qn (bs + len)) := by rw [hbsE, hlenE]; exact HSQ
  clear hbsE hlenE
  go_quiet (fail)
  go_wp2
  go_quiet (fail)
  go_wp2
  go_quiet (fail)
  go_wp2
  go_quiet (fail)
  have hw8 : ((bs : Int) + len) = ((bs + len : Nat) : Int) := by omega
  by_cases hgt : ((bs : Int) + len) < qn
  · have hq8 : sq = bs + len := by have := unhide HSQ2; omega
    rw [hw8, ← hq8]
    have hgt2 : (sq : Int) < qn := by omega
    clear hgt hq8 hw8
    go_upto_region 26 with fail
    refine wp_world (fun x => DLay w x p a r kv hv k e s qn b) ((unhide LL).drew _) ?_
    clear LL y0 y1 c0 c2 f2 c3 f3 y2 y3 d0 d1
    intro x2 L
    have y0 := blk_cell (i := 0) L.box
    have y1 := blk_cell (i := 1) L.box
    have y2 := blk_cell (i := 2) L.box
    have y3 := blk_cell (i := 3) L.box
    have y4 := blk_cell (i := 4) L.box
    simp at y0 y1 y2 y3 y4
    have LL := hide L
    clear L
    have HSY := hide (refSays_any (unhide LL).ref k e s qn b (unhide h2) (unhide h4))
    go_upto_region 27 with (first | (go_at_call 173; refine (unhide HSY).mono ?_; rintro y w1 ⟨rfl, hb1⟩; have BB1 := hide hb1; have HDR := hide (refDrop_any ((unhide LL).ref.far (far_below (E := fun _ => False) hb1) (fun _ _ h => h)) (a.says k e s qn b) (fun s' _ => says_le a k e s qn b s') (fun s' hs' => by have := (unhide HSUM) s' hs'; have := says_le a k e s qn b s'; omega)); clear hb1) | (go_at_call 210; refine (unhide HDR).mono ?_; rintro y w2 ⟨rfl, S2⟩))
    obtain ⟨kv2, hv2, R2, F2, U2⟩ := S2
    have FF2 := hide (((far_below (E := RefU p kv hv) (unhide LL).bel).trans (far_below (E := RefU p kv hv) (unhide BB1)) (fun _ _ h => h)).trans F2 (fun _ _ h => h))
    have UU2 : Hid (∀ k, RefU p kv2 hv2 k → RefU p kv hv k ∨ w.heap.size < k) := fun k hk => (U2 k hk).elim .inl (fun h => .inr (by have := lt_of_block (unhide LL).box; have := (unhide BB1).size; omega))
    have hbox4 : w2.cell? ⟨w.heap.size, 4, none⟩ = some (.string b) := by
      have h1 := ((unhide BB1).block w.heap.size (lt_of_block (unhide LL).box)).trans (unhide LL).box
      have h2 := F2.blk h1 (fun e => by
        rcases e with e | ⟨t, ht, e | e⟩
        · omega
        · have := ((unhide RR0).kept t ht).lt _ e; omega
        · have := ((unhide RR0).held t ht).lt _ e; omega)
      exact blk_cell h2
    have HB4 := hide hbox4
    have HZ2 : Hid (w.heap.size < w2.heap.size) := by have := F2.size; have := lt_of_block (unhide LL).box; have := (unhide BB1).size; show _ < _; omega
    obtain ⟨_, _, d2⟩ := ref_at R2 s hs
    have e2 := blk_free (i := 5 + s * 3 + 2) R2.blk
    have hst := R2.heldStep s hs (x := []) (Far.refl _ _) (v' := .slice none 0 0) (fun g hg => by cases hg) (rowO_nil _ _ _) (by simp)
    obtain ⟨_, kv4, hv4, R4, F4, U4⟩ := hst
    obtain ⟨a1, hA1⟩ : ∃ a1, a1 = a.drop (a.says k e s qn b) := ⟨_, rfl⟩
    rw [← hA1] at R4
    have HA1 := hide hA1
    have RR4 := hide R4
    have FF4 := hide ((unhide FF2).trans F4 (fun k hk h => ((unhide UU2) k h).elim id (fun h => by omega)))
    have UU4 : Hid (∀ k, RefU p kv4 hv4 k → RefU p kv hv k ∨ w.heap.size < k) := fun k hk => (U4 k hk).elim (fun h => (unhide UU2) k h) (fun h => .inr (by have := F2.size; have := lt_of_block (unhide LL).box; have := (unhide BB1).size; omega))
    clear R2 F2 U2 HDR HSY LL BB1 y0 y1 y2 y3 y4 hbox4 R4 F4 U4 FF2 UU2 hA1
    have hsqs : Hid (Mod.bitsOf sq b[0].toNat 0 = []) := rfl
    go_wp2
    go_loopw [9] (fun i wr => ∃ (j : Nat) (kv' hv' : Nat → Value), j ≤ 3 ∧ i = .int .i64 j ∧ RefAt wr p { a1 with fl := Mod.upd a1.fl s { a1.fl s with held := Mod.bitsOf sq b[0].toNat j } } r kv' hv' ∧ Far (RefU p kv hv) w wr ∧ (∀ k, RefU p kv' hv' k → RefU p kv hv k ∨ w.heap.size < k) ∧ w.heap.size < wr.heap.size ∧ wr.cell? ⟨w.heap.size, 4, none⟩ = some (.string b)) (fun i _ => 3 - (intOf i).toNat)
    case atStart =>
      refine ⟨0, kv4, hv4, by omega, rfl, unhide RR4, unhide FF4, unhide UU4, ?_, (World.cell?_of_block (blk_set_ne (by
        have := (unhide RR0).lt p (.inl rfl)
        show w.heap.size ≠ p
        omega))).trans (unhide HB4)⟩
      rw [World.size_setCell]
      exact unhide HZ2
    case round =>
      obtain ⟨j, kv5, hv5, hj, rfl, R, hF, hU, hz, hb4⟩ := hrel
      by_cases hlt : j < 3
      · obtain rfl | rfl | rfl : j = 0 ∨ j = 1 ∨ j = 2 := by omega
        · have hlen := bitsOf_len sq b[0].toNat 0
          have hbit : (bits BinOp.and IntKind.u8 (((b[0].toNat : Nat) : Int)) 1 == 1) = decide (b[0].toNat % 2 = 1) := bit0 ⟨b[0].toNat, b[0].toNat_lt⟩
          obtain ⟨_, _, d2⟩ := ref_at R s hs
          have e2 := blk_free (i := 5 + s * 3 + 2) R.blk
          have hrow := R.held s hs
          simp only [Mod.upd_same] at hrow
          have RR := hide R
          have FF := hide hF
          have UU := hide hU
          have B4 := hide hb4
          have HROW := hide hrow
          clear R hF hU hrow
          by_cases hb1 : b[0].toNat % 2 = 1
          · have HX := hide (show Mod.bitsOf sq b[0].toNat (0 + 1) = Mod.bitsOf sq b[0].toNat 0 ++ [sq + 2 + 0] by simp [Mod.bitsOf, hb1])
            simp only [hb1, decide_true] at hbit
            clear hb1
            generalize Mod.bitsOf sq b[0].toNat 0 = bl at hlen HX HROW RR
            go_upto_region 30 with (at_builtin; refine wpList_app_o rfl (.tmp 139) (.tmp 144) 26 rfl 3 _ 1 8 Tryz.underlying26 infoInt rfl (hv5 s) bl.length (numCells bl) ((unhide HROW).keep (fun g hg => Below.heap_alloc wr _ g ((unhide HROW).lt g hg))) rfl ⟨wr.heap.size, 0, none⟩ 1 1 [.int .i64 ((sq : Int) + 2)] rfl rfl cells_new (by intro u hu; simp at hu; subst hu; rfl) (by omega) (by omega) (by omega) ?_; intro v' w1 hrow happ; rw [show numCells bl ++ [Value.int .i64 ((sq : Int) + 2)] = numCells (bl ++ [sq + 2 + 0]) by rw [numCells_snoc]; simp] at hrow; have hq := (unhide RR).heldStep s hs (far_app ((Below.refl _ _).alloc (Nat.le_refl _) _) happ) (app_loc ((Below.refl _ _).alloc (Nat.le_refl _) _) happ) (x := bl ++ [sq + 2 + 0]) (by simpa using hrow) (by simp; omega); obtain ⟨⟨C, hpC, hC⟩, hst⟩ := hq; have y1 := (blk_cell (i := 5 + s * 3 + 2) hpC).trans hC; have f1 := blk_free (i := 5 + s * 3 + 2) hpC; obtain ⟨va, vc, hva, _⟩ := hrow.shape; have HST := hide hst; have hfb := far_app ((Below.refl _ _).alloc (Nat.le_refl _) _) happ; have HFB := hide hfb; clear happ hst hpC hC hrow hfb; subst hva)
            obtain ⟨kv6, hv6, R6, F6, U6⟩ := unhide HST
            simp only [Mod.upd_same, upd_upd] at R6
            rw [← unhide HX] at R6
            have RR6 := hide R6
            have FF6 := hide ((unhide FF).trans F6 (fun k hk h => ((unhide UU) k h).elim id (fun h => by omega)))
            have UU6 : Hid (∀ k, RefU p kv6 hv6 k → RefU p kv hv k ∨ w.heap.size < k) := fun k hk => (U6 k hk).elim (fun h => (unhide UU) k h) (fun h => .inr (by omega))
            have hz6 := Nat.lt_of_lt_of_le hz F6.size
            have B6 := hide ((World.cell?_of_block (F6.rest w.heap.size hz (fun h => ((unhide UU) _ h).elim (fun h => by have := (unhide RR0).lt _ h; omega) (fun h => by omega)))).trans (unhide B4))
            clear R6 F6 U6 HST HX RR
            go_wp2
            go_roundw
            case rel => exact ⟨0 + 1, kv6, hv6, by omega, by go_num, unhide RR6, unhide FF6, unhide UU6, hz6, unhide B6⟩
            case measure => simp [intOf]
          · have HX := hide (show Mod.bitsOf sq b[0].toNat (0 + 1) = Mod.bitsOf sq b[0].toNat 0 by simp [Mod.bitsOf, hb1])
            simp only [hb1, decide_false] at hbit
            clear hb1
            have RR6 := RR
            rw [← unhide HX] at RR6
            clear HX RR
            go_wp2
            go_roundw
            case rel => exact ⟨0 + 1, kv5, hv5, by omega, by go_num, unhide RR6, unhide FF, unhide UU, hz, unhide B4⟩
            case measure => simp [intOf]
        · have hlen := bitsOf_len sq b[0].toNat 1
          have hbit : (bits BinOp.and IntKind.u8 (((b[0].toNat : Nat) : Int) / 2) 1 == 1) = decide (b[0].toNat / 2 % 2 = 1) := bit1 ⟨b[0].toNat, b[0].toNat_lt⟩
          obtain ⟨_, _, d2⟩ := ref_at R s hs
          have e2 := blk_free (i := 5 + s * 3 + 2) R.blk
          have hrow := R.held s hs
          simp only [Mod.upd_same] at hrow
          have RR := hide R
          have FF := hide hF
          have UU := hide hU
          have B4 := hide hb4
          have HROW := hide hrow
          clear R hF hU hrow
          by_cases hb1 : b[0].toNat / 2 % 2 = 1
          · have HX := hide (show Mod.bitsOf sq b[0].toNat (1 + 1) = Mod.bitsOf sq b[0].toNat 1 ++ [sq + 2 + 1] by simp [Mod.bitsOf, hb1])
            simp only [hb1, decide_true] at hbit
            clear hb1
            generalize Mod.bitsOf sq b[0].toNat 1 = bl at hlen HX HROW RR
            go_upto_region 30 with (at_builtin; refine wpList_app_o rfl (.tmp 139) (.tmp 144) 26 rfl 3 _ 1 8 Tryz.underlying26 infoInt rfl (hv5 s) bl.length (numCells bl) ((unhide HROW).keep (fun g hg => Below.heap_alloc wr _ g ((unhide HROW).lt g hg))) rfl ⟨wr.heap.size, 0, none⟩ 1 1 [.int .i64 ((sq : Int) + 2 + 1)] rfl rfl cells_new (by intro u hu; simp at hu; subst hu; rfl) (by omega) (by omega) (by omega) ?_; intro v' w1 hrow happ; rw [show numCells bl ++ [Value.int .i64 ((sq : Int) + 2 + 1)] = numCells (bl ++ [sq + 2 + 1]) by rw [numCells_snoc]; simp] at hrow; have hq := (unhide RR).heldStep s hs (far_app ((Below.refl _ _).alloc (Nat.le_refl _) _) happ) (app_loc ((Below.refl _ _).alloc (Nat.le_refl _) _) happ) (x := bl ++ [sq + 2 + 1]) (by simpa using hrow) (by simp; omega); obtain ⟨⟨C, hpC, hC⟩, hst⟩ := hq; have y1 := (blk_cell (i := 5 + s * 3 + 2) hpC).trans hC; have f1 := blk_free (i := 5 + s * 3 + 2) hpC; obtain ⟨va, vc, hva, _⟩ := hrow.shape; have HST := hide hst; have hfb := far_app ((Below.refl _ _).alloc (Nat.le_refl _) _) happ; have HFB := hide hfb; clear happ hst hpC hC hrow hfb; subst hva)
            obtain ⟨kv6, hv6, R6, F6, U6⟩ := unhide HST
            simp only [Mod.upd_same, upd_upd] at R6
            rw [← unhide HX] at R6
            have RR6 := hide R6
            have FF6 := hide ((unhide FF).trans F6 (fun k hk h => ((unhide UU) k h).elim id (fun h => by omega)))
            have UU6 : Hid (∀ k, RefU p kv6 hv6 k → RefU p kv hv k ∨ w.heap.size < k) := fun k hk => (U6 k hk).elim (fun h => (unhide UU) k h) (fun h => .inr (by omega))
            have hz6 := Nat.lt_of_lt_of_le hz F6.size
            have B6 := hide ((World.cell?_of_block (F6.rest w.heap.size hz (fun h => ((unhide UU) _ h).elim (fun h => by have := (unhide RR0).lt _ h; omega) (fun h => by omega)))).trans (unhide B4))
            clear R6 F6 U6 HST HX RR
            go_wp2
            go_roundw
            case rel => exact ⟨1 + 1, kv6, hv6, by omega, by go_num, unhide RR6, unhide FF6, unhide UU6, hz6, unhide B6⟩
            case measure => simp [intOf]
          · have HX := hide (show Mod.bitsOf sq b[0].toNat (1 + 1) = Mod.bitsOf sq b[0].toNat 1 by simp [Mod.bitsOf, hb1])
            simp only [hb1, decide_false] at hbit
            clear hb1
            have RR6 := RR
            rw [← unhide HX] at RR6
            clear HX RR
            go_wp2
            go_roundw
            case rel => exact ⟨1 + 1, kv5, hv5, by omega, by go_num, unhide RR6, unhide FF, unhide UU, hz, unhide B4⟩
            case measure => simp [intOf]
        · have hlen := bitsOf_len sq b[0].toNat 2
          have hbit : (bits BinOp.and IntKind.u8 (((b[0].toNat : Nat) : Int) / 4) 1 == 1) = decide (b[0].toNat / 4 % 2 = 1) := bit2 ⟨b[0].toNat, b[0].toNat_lt⟩
          obtain ⟨_, _, d2⟩ := ref_at R s hs
          have e2 := blk_free (i := 5 + s * 3 + 2) R.blk
          have hrow := R.held s hs
          simp only [Mod.upd_same] at hrow
          have RR := hide R
          have FF := hide hF
          have UU := hide hU
          have B4 := hide hb4
          have HROW := hide hrow
          clear R hF hU hrow
          by_cases hb1 : b[0].toNat / 4 % 2 = 1
          · have HX := hide (show Mod.bitsOf sq b[0].toNat (2 + 1) = Mod.bitsOf sq b[0].toNat 2 ++ [sq + 2 + 2] by simp [Mod.bitsOf, hb1])
            simp only [hb1, decide_true] at hbit
            clear hb1
            generalize Mod.bitsOf sq b[0].toNat 2 = bl at hlen HX HROW RR
            go_upto_region 30 with (at_builtin; refine wpList_app_o rfl (.tmp 139) (.tmp 144) 26 rfl 3 _ 1 8 Tryz.underlying26 infoInt rfl (hv5 s) bl.length (numCells bl) ((unhide HROW).keep (fun g hg => Below.heap_alloc wr _ g ((unhide HROW).lt g hg))) rfl ⟨wr.heap.size, 0, none⟩ 1 1 [.int .i64 ((sq : Int) + 2 + 2)] rfl rfl cells_new (by intro u hu; simp at hu; subst hu; rfl) (by omega) (by omega) (by omega) ?_; intro v' w1 hrow happ; rw [show numCells bl ++ [Value.int .i64 ((sq : Int) + 2 + 2)] = numCells (bl ++ [sq + 2 + 2]) by rw [numCells_snoc]; simp] at hrow; have hq := (unhide RR).heldStep s hs (far_app ((Below.refl _ _).alloc (Nat.le_refl _) _) happ) (app_loc ((Below.refl _ _).alloc (Nat.le_refl _) _) happ) (x := bl ++ [sq + 2 + 2]) (by simpa using hrow) (by simp; omega); obtain ⟨⟨C, hpC, hC⟩, hst⟩ := hq; have y1 := (blk_cell (i := 5 + s * 3 + 2) hpC).trans hC; have f1 := blk_free (i := 5 + s * 3 + 2) hpC; obtain ⟨va, vc, hva, _⟩ := hrow.shape; have HST := hide hst; have hfb := far_app ((Below.refl _ _).alloc (Nat.le_refl _) _) happ; have HFB := hide hfb; clear happ hst hpC hC hrow hfb; subst hva)
            obtain ⟨kv6, hv6, R6, F6, U6⟩ := unhide HST
            simp only [Mod.upd_same, upd_upd] at R6
            rw [← unhide HX] at R6
            have RR6 := hide R6
            have FF6 := hide ((unhide FF).trans F6 (fun k hk h => ((unhide UU) k h).elim id (fun h => by omega)))
            have UU6 : Hid (∀ k, RefU p kv6 hv6 k → RefU p kv hv k ∨ w.heap.size < k) := fun k hk => (U6 k hk).elim (fun h => (unhide UU) k h) (fun h => .inr (by omega))
            have hz6 := Nat.lt_of_lt_of_le hz F6.size
            have B6 := hide ((World.cell?_of_block (F6.rest w.heap.size hz (fun h => ((unhide UU) _ h).elim (fun h => by have := (unhide RR0).lt _ h; omega) (fun h => by omega)))).trans (unhide B4))
            clear R6 F6 U6 HST HX RR
            go_wp2
            go_roundw
            case rel => exact ⟨2 + 1, kv6, hv6, by omega, by go_num, unhide RR6, unhide FF6, unhide UU6, hz6, unhide B6⟩
            case measure => simp [intOf]
          · have HX := hide (show Mod.bitsOf sq b[0].toNat (2 + 1) = Mod.bitsOf sq b[0].toNat 2 by simp [Mod.bitsOf, hb1])
            simp only [hb1, decide_false] at hbit
            clear hb1
            have RR6 := RR
            rw [← unhide HX] at RR6
            clear HX RR
            go_wp2
            go_roundw
            case rel => exact ⟨2 + 1, kv5, hv5, by omega, by go_num, unhide RR6, unhide FF, unhide UU, hz, unhide B4⟩
            case measure => simp [intOf]
      · have hj3 : j = 3 := by omega
        subst hj3
        have RR := hide R
        have FF := hide hF
        have UU := hide hU
        clear R hF hU hb4
        go_wp2
        refine bodyPost_end (results_none rfl _ _ _) rfl ?_
        rw [← unhide HA1]
        exact ⟨rfl, kv5, hv5, unhide RR, unhide FF, fun k hk => ((unhide UU) k hk).elim .inl (fun h => .inr (by omega))⟩
  · have hq8 : sq = qn := by have := unhide HSQ2; omega
    subst hq8
    clear hw8
    go_upto_region 26 with fail
    refine wp_world (fun x => DLay w x p a r kv hv k e s sq b) ((unhide LL).drew _) ?_
    clear LL y0 y1 c0 c2 f2 c3 f3 y2 y3 d0 d1
    intro x2 L
    have y0 := blk_cell (i := 0) L.box
    have y1 := blk_cell (i := 1) L.box
    have y2 := blk_cell (i := 2) L.box
    have y3 := blk_cell (i := 3) L.box
    have y4 := blk_cell (i := 4) L.box
    simp at y0 y1 y2 y3 y4
    have LL := hide L
    clear L
    have HSY := hide (refSays_any (unhide LL).ref k e s sq b (unhide h2) (unhide h4))
    go_upto_region 27 with (first | (go_at_call 173; refine (unhide HSY).mono ?_; rintro y w1 ⟨rfl, hb1⟩; have BB1 := hide hb1; have HDR := hide (refDrop_any ((unhide LL).ref.far (far_below (E := fun _ => False) hb1) (fun _ _ h => h)) (a.says k e s sq b) (fun s' _ => says_le a k e s sq b s') (fun s' hs' => by have := (unhide HSUM) s' hs'; have := says_le a k e s sq b s'; omega)); clear hb1) | (go_at_call 210; refine (unhide HDR).mono ?_; rintro y w2 ⟨rfl, S2⟩))
    obtain ⟨kv2, hv2, R2, F2, U2⟩ := S2
    have FF2 := hide (((far_below (E := RefU p kv hv) (unhide LL).bel).trans (far_below (E := RefU p kv hv) (unhide BB1)) (fun _ _ h => h)).trans F2 (fun _ _ h => h))
    have UU2 : Hid (∀ k, RefU p kv2 hv2 k → RefU p kv hv k ∨ w.heap.size < k) := fun k hk => (U2 k hk).elim .inl (fun h => .inr (by have := lt_of_block (unhide LL).box; have := (unhide BB1).size; omega))
    have hbox4 : w2.cell? ⟨w.heap.size, 4, none⟩ = some (.string b) := by
      have h1 := ((unhide BB1).block w.heap.size (lt_of_block (unhide LL).box)).trans (unhide LL).box
      have h2 := F2.blk h1 (fun e => by
        rcases e with e | ⟨t, ht, e | e⟩
        · omega
        · have := ((unhide RR0).kept t ht).lt _ e; omega
        · have := ((unhide RR0).held t ht).lt _ e; omega)
      exact blk_cell h2
    have HB4 := hide hbox4
    have HZ2 : Hid (w.heap.size < w2.heap.size) := by have := F2.size; have := lt_of_block (unhide LL).box; have := (unhide BB1).size; show _ < _; omega
    obtain ⟨_, _, d2⟩ := ref_at R2 s hs
    have e2 := blk_free (i := 5 + s * 3 + 2) R2.blk
    have hst := R2.heldStep s hs (x := []) (Far.refl _ _) (v' := .slice none 0 0) (fun g hg => by cases hg) (rowO_nil _ _ _) (by simp)
    obtain ⟨_, kv4, hv4, R4, F4, U4⟩ := hst
    obtain ⟨a1, hA1⟩ : ∃ a1, a1 = a.drop (a.says k e s sq b) := ⟨_, rfl⟩
    rw [← hA1] at R4
    have HA1 := hide hA1
    have RR4 := hide R4
    have FF4 := hide ((unhide FF2).trans F4 (fun k hk h => ((unhide UU2) k h).elim id (fun h => by omega)))
    have UU4 : Hid (∀ k, RefU p kv4 hv4 k → RefU p kv hv k ∨ w.heap.size < k) := fun k hk => (U4 k hk).elim (fun h => (unhide UU2) k h) (fun h => .inr (by have := F2.size; have := lt_of_block (unhide LL).box; have := (unhide BB1).size; omega))
    clear R2 F2 U2 HDR HSY LL BB1 y0 y1 y2 y3 y4 hbox4 R4 F4 U4 FF2 UU2 hA1
    have hsqs : Hid (Mod.bitsOf sq b[0].toNat 0 = []) := rfl
    go_wp2
    go_loopw [9] (fun i wr => ∃ (j : Nat) (kv' hv' : Nat → Value), j ≤ 3 ∧ i = .int .i64 j ∧ RefAt wr p { a1 with fl := Mod.upd a1.fl s { a1.fl s with held := Mod.bitsOf sq b[0].toNat j } } r kv' hv' ∧ Far (RefU p kv hv) w wr ∧ (∀ k, RefU p kv' hv' k → RefU p kv hv k ∨ w.heap.size < k) ∧ w.heap.size < wr.heap.size ∧ wr.cell? ⟨w.heap.size, 4, none⟩ = some (.string b)) (fun i _ => 3 - (intOf i).toNat)
    case atStart =>
      refine ⟨0, kv4, hv4, by omega, rfl, unhide RR4, unhide FF4, unhide UU4, ?_, (World.cell?_of_block (blk_set_ne (by
        have := (unhide RR0).lt p (.inl rfl)
        show w.heap.size ≠ p
        omega))).trans (unhide HB4)⟩
      rw [World.size_setCell]
      exact unhide HZ2
    case round =>
      obtain ⟨j, kv5, hv5, hj, rfl, R, hF, hU, hz, hb4⟩ := hrel
      by_cases hlt : j < 3
      · obtain rfl | rfl | rfl : j = 0 ∨ j = 1 ∨ j = 2 := by omega
        · have hlen := bitsOf_len sq b[0].toNat 0
          have hbit : (bits BinOp.and IntKind.u8 (((b[0].toNat : Nat) : Int)) 1 == 1) = decide (b[0].toNat % 2 = 1) := bit0 ⟨b[0].toNat, b[0].toNat_lt⟩
          obtain ⟨_, _, d2⟩ := ref_at R s hs
          have e2 := blk_free (i := 5 + s * 3 + 2) R.blk
          have hrow := R.held s hs
          simp only [Mod.upd_same] at hrow
          have RR := hide R
          have FF := hide hF
          have UU := hide hU
          have B4 := hide hb4
          have HROW := hide hrow
          clear R hF hU hrow
          by_cases hb1 : b[0].toNat % 2 = 1
          · have HX := hide (show Mod.bitsOf sq b[0].toNat (0 + 1) = Mod.bitsOf sq b[0].toNat 0 ++ [sq + 2 + 0] by simp [Mod.bitsOf, hb1])
            simp only [hb1, decide_true] at hbit
            clear hb1
            generalize Mod.bitsOf sq b[0].toNat 0 = bl at hlen HX HROW RR
            go_upto_region 30 with (at_builtin; refine wpList_app_o rfl (.tmp 139) (.tmp 144) 26 rfl 3 _ 1 8 Tryz.underlying26 infoInt rfl (hv5 s) bl.length (numCells bl) ((unhide HROW).keep (fun g hg => Below.heap_alloc wr _ g ((unhide HROW).lt g hg))) rfl ⟨wr.heap.size, 0, none⟩ 1 1 [.int .i64 ((sq : Int) + 2)] rfl rfl cells_new (by intro u hu; simp at hu; subst hu; rfl) (by omega) (by omega) (by omega) ?_; intro v' w1 hrow happ; rw [show numCells bl ++ [Value.int .i64 ((sq : Int) + 2)] = numCells (bl ++ [sq + 2 + 0]) by rw [numCells_snoc]; simp] at hrow; have hq := (unhide RR).heldStep s hs (far_app ((Below.refl _ _).alloc (Nat.le_refl _) _) happ) (app_loc ((Below.refl _ _).alloc (Nat.le_refl _) _) happ) (x := bl ++ [sq + 2 + 0]) (by simpa using hrow) (by simp; omega); obtain ⟨⟨C, hpC, hC⟩, hst⟩ := hq; have y1 := (blk_cell (i := 5 + s * 3 + 2) hpC).trans hC; have f1 := blk_free (i := 5 + s * 3 + 2) hpC; obtain ⟨va, vc, hva, _⟩ := hrow.shape; have HST := hide hst; have hfb := far_app ((Below.refl _ _).alloc (Nat.le_refl _) _) happ; have HFB := hide hfb; clear happ hst hpC hC hrow hfb; subst hva)
            obtain ⟨kv6, hv6, R6, F6, U6⟩ := unhide HST
            simp only [Mod.upd_same, upd_upd] at R6
            rw [← unhide HX] at R6
            have RR6 := hide R6
            have FF6 := hide ((unhide FF).trans F6 (fun k hk h => ((unhide UU) k h).elim id (fun h => by omega)))
            have UU6 : Hid (∀ k, RefU p kv6 hv6 k → RefU p kv hv k ∨ w.heap.size < k) := fun k hk => (U6 k hk).elim (fun h => (unhide UU) k h) (fun h => .inr (by omega))
            have hz6 := Nat.lt_of_lt_of_le hz F6.size
            have B6 := hide ((World.cell?_of_block (F6.rest w.heap.size hz (fun h => ((unhide UU) _ h).elim (fun h => by have := (unhide RR0).lt _ h; omega) (fun h => by omega)))).trans (unhide B4))
            clear R6 F6 U6 HST HX RR
            go_wp2
            go_roundw
            case rel => exact ⟨0 + 1, kv6, hv6, by omega, by go_num, unhide RR6, unhide FF6, unhide UU6, hz6, unhide B6⟩
            case measure => simp [intOf]
          · have HX := hide (show Mod.bitsOf sq b[0].toNat (0 + 1) = Mod.bitsOf sq b[0].toNat 0 by simp [Mod.bitsOf, hb1])
            simp only [hb1, decide_false] at hbit
            clear hb1
            have RR6 := RR
            rw [← unhide HX] at RR6
            clear HX RR
            go_wp2
            go_roundw
            case rel => exact ⟨0 + 1, kv5, hv5, by omega, by go_num, unhide RR6, unhide FF, unhide UU, hz, unhide B4⟩
            case measure => simp [intOf]
        · have hlen := bitsOf_len sq b[0].toNat 1
          have hbit : (bits BinOp.and IntKind.u8 (((b[0].toNat : Nat) : Int) / 2) 1 == 1) = decide (b[0].toNat / 2 % 2 = 1) := bit1 ⟨b[0].toNat, b[0].toNat_lt⟩
          obtain ⟨_, _, d2⟩ := ref_at R s hs
          have e2 := blk_free (i := 5 + s * 3 + 2) R.blk
          have hrow := R.held s hs
          simp only [Mod.upd_same] at hrow
          have RR := hide R
          have FF := hide hF
          have UU := hide hU
          have B4 := hide hb4
          have HROW := hide hrow
          clear R hF hU hrow
          by_cases hb1 : b[0].toNat / 2 % 2 = 1
          · have HX := hide (show Mod.bitsOf sq b[0].toNat (1 + 1) = Mod.bitsOf sq b[0].toNat 1 ++ [sq + 2 + 1] by simp [Mod.bitsOf, hb1])
            simp only [hb1, decide_true] at hbit
            clear hb1
            generalize Mod.bitsOf sq b[0].toNat 1 = bl at hlen HX HROW RR
            go_upto_region 30 with (at_builtin; refine wpList_app_o rfl (.tmp 139) (.tmp 144) 26 rfl 3 _ 1 8 Tryz.underlying26 infoInt rfl (hv5 s) bl.length (numCells bl) ((unhide HROW).keep (fun g hg => Below.heap_alloc wr _ g ((unhide HROW).lt g hg))) rfl ⟨wr.heap.size, 0, none⟩ 1 1 [.int .i64 ((sq : Int) + 2 + 1)] rfl rfl cells_new (by intro u hu; simp at hu; subst hu; rfl) (by omega) (by omega) (by omega) ?_; intro v' w1 hrow happ; rw [show numCells bl ++ [Value.int .i64 ((sq : Int) + 2 + 1)] = numCells (bl ++ [sq + 2 + 1]) by rw [numCells_snoc]; simp] at hrow; have hq := (unhide RR).heldStep s hs (far_app ((Below.refl _ _).alloc (Nat.le_refl _) _) happ) (app_loc ((Below.refl _ _).alloc (Nat.le_refl _) _) happ) (x := bl ++ [sq + 2 + 1]) (by simpa using hrow) (by simp; omega); obtain ⟨⟨C, hpC, hC⟩, hst⟩ := hq; have y1 := (blk_cell (i := 5 + s * 3 + 2) hpC).trans hC; have f1 := blk_free (i := 5 + s * 3 + 2) hpC; obtain ⟨va, vc, hva, _⟩ := hrow.shape; have HST := hide hst; have hfb := far_app ((Below.refl _ _).alloc (Nat.le_refl _) _) happ; have HFB := hide hfb; clear happ hst hpC hC hrow hfb; subst hva)
            obtain ⟨kv6, hv6, R6, F6, U6⟩ := unhide HST
            simp only [Mod.upd_same, upd_upd] at R6
            rw [← unhide HX] at R6
            have RR6 := hide R6
            have FF6 := hide ((unhide FF).trans F6 (fun k hk h => ((unhide UU) k h).elim id (fun h => by omega)))
            have UU6 : Hid (∀ k, RefU p kv6 hv6 k → RefU p kv hv k ∨ w.heap.size < k) := fun k hk => (U6 k hk).elim (fun h => (unhide UU) k h) (fun h => .inr (by omega))
            have hz6 := Nat.lt_of_lt_of_le hz F6.size
            have B6 := hide ((World.cell?_of_block (F6.rest w.heap.size hz (fun h => ((unhide UU) _ h).elim (fun h => by have := (unhide RR0).lt _ h; omega) (fun h => by omega)))).trans (unhide B4))
            clear R6 F6 U6 HST HX RR
            go_wp2
            go_roundw
            case rel => exact ⟨1 + 1, kv6, hv6, by omega, by go_num, unhide RR6, unhide FF6, unhide UU6, hz6, unhide B6⟩
            case measure => simp [intOf]
          · have HX := hide (show Mod.bitsOf sq b[0].toNat (1 + 1) = Mod.bitsOf sq b[0].toNat 1 by simp [Mod.bitsOf, hb1])
            simp only [hb1, decide_false] at hbit
            clear hb1
            have RR6 := RR
            rw [← unhide HX] at RR6
            clear HX RR
            go_wp2
            go_roundw
            case rel => exact ⟨1 + 1, kv5, hv5, by omega, by go_num, unhide RR6, unhide FF, unhide UU, hz, unhide B4⟩
            case measure => simp [intOf]
        · have hlen := bitsOf_len sq b[0].toNat 2
          have hbit : (bits BinOp.and IntKind.u8 (((b[0].toNat : Nat) : Int) / 4) 1 == 1) = decide (b[0].toNat / 4 % 2 = 1) := bit2 ⟨b[0].toNat, b[0].toNat_lt⟩
          obtain ⟨_, _, d2⟩ := ref_at R s hs
          have e2 := blk_free (i := 5 + s * 3 + 2) R.blk
          have hrow := R.held s hs
          simp only [Mod.upd_same] at hrow
          have RR := hide R
          have FF := hide hF
          have UU := hide hU
          have B4 := hide hb4
          have HROW := hide hrow
          clear R hF hU hrow
          by_cases hb1 : b[0].toNat / 4 % 2 = 1
          · have HX := hide (show Mod.bitsOf sq b[0].toNat (2 + 1) = Mod.bitsOf sq b[0].toNat 2 ++ [sq + 2 + 2] by simp [Mod.bitsOf, hb1])
            simp only [hb1, decide_true] at hbit
            clear hb1
            generalize Mod.bitsOf sq b[0].toNat 2 = bl at hlen HX HROW RR
            go_upto_region 30 with (at_builtin; refine wpList_app_o rfl (.tmp 139) (.tmp 144) 26 rfl 3 _ 1 8 Tryz.underlying26 infoInt rfl (hv5 s) bl.length (numCells bl) ((unhide HROW).keep (fun g hg => Below.heap_alloc wr _ g ((unhide HROW).lt g hg))) rfl ⟨wr.heap.size, 0, none⟩ 1 1 [.int .i64 ((sq : Int) + 2 + 2)] rfl rfl cells_new (by intro u hu; simp at hu; subst hu; rfl) (by omega) (by omega) (by omega) ?_; intro v' w1 hrow happ; rw [show numCells bl ++ [Value.int .i64 ((sq : Int) + 2 + 2)] = numCells (bl ++ [sq + 2 + 2]) by rw [numCells_snoc]; simp] at hrow; have hq := (unhide RR).heldStep s hs (far_app ((Below.refl _ _).alloc (Nat.le_refl _) _) happ) (app_loc ((Below.refl _ _).alloc (Nat.le_refl _) _) happ) (x := bl ++ [sq + 2 + 2]) (by simpa using hrow) (by simp; omega); obtain ⟨⟨C, hpC, hC⟩, hst⟩ := hq; have y1 := (blk_cell (i := 5 + s * 3 + 2) hpC).trans hC; have f1 := blk_free (i := 5 + s * 3 + 2) hpC; obtain ⟨va, vc, hva, _⟩ := hrow.shape; have HST := hide hst; have hfb := far_app ((Below.refl _ _).alloc (Nat.le_refl _) _) happ; have HFB := hide hfb; clear happ hst hpC hC hrow hfb; subst hva)
            obtain ⟨kv6, hv6, R6, F6, U6⟩ := unhide HST
            simp only [Mod.upd_same, upd_upd] at R6
            rw [← unhide HX] at R6
            have RR6 := hide R6
            have FF6 := hide ((unhide FF).trans F6 (fun k hk h => ((unhide UU) k h).elim id (fun h => by omega)))
            have UU6 : Hid (∀ k, RefU p kv6 hv6 k → RefU p kv hv k ∨ w.heap.size < k) := fun k hk => (U6 k hk).elim (fun h => (unhide UU) k h) (fun h => .inr (by omega))
            have hz6 := Nat.lt_of_lt_of_le hz F6.size
            have B6 := hide ((World.cell?_of_block (F6.rest w.heap.size hz (fun h => ((unhide UU) _ h).elim (fun h => by have := (unhide RR0).lt _ h; omega) (fun h => by omega)))).trans (unhide B4))
            clear R6 F6 U6 HST HX RR
            go_wp2
            go_roundw
            case rel => exact ⟨2 + 1, kv6, hv6, by omega, by go_num, unhide RR6, unhide FF6, unhide UU6, hz6, unhide B6⟩
            case measure => simp [intOf]
          · have HX := hide (show Mod.bitsOf sq b[0].toNat (2 + 1) = Mod.bitsOf sq b[0].toNat 2 by simp [Mod.bitsOf, hb1])
            simp only [hb1, decide_false] at hbit
            clear hb1
            have RR6 := RR
            rw [← unhide HX] at RR6
            clear HX RR
            go_wp2
            go_roundw
            case rel => exact ⟨2 + 1, kv5, hv5, by omega, by go_num, unhide RR6, unhide FF, unhide UU, hz, unhide B4⟩
            case measure => simp [intOf]
      · have hj3 : j = 3 := by omega
        subst hj3
        have RR := hide R
        have FF := hide hF
        have UU := hide hU
        clear R hF hU hb4
        go_wp2
        refine bodyPost_end (results_none rfl _ _ _) rfl ?_
        rw [← unhide HA1]
        exact ⟨rfl, kv5, hv5, unhide RR, unhide FF, fun k hk => ((unhide UU) k hk).elim .inl (fun h => .inr (by omega))⟩
end Go.Proofs.YtamafdcnbcoegaaGreat
namespace Go.Proofs.YtamafdcnbcoegaaGreat
open Go.RowKit

theorem proper_2 {e st q : Int} {b : ByteArray} (h : Wire.proper 2 e st q b = true) : b.size = 12 := by
  simp [Wire.proper, Wire.welBody] at h
  omega
theorem proper_4 {e st q : Int} {b : ByteArray} (h : Wire.proper 4 e st q b = true) : b.size = 1 ∧ (0 ≤ st ∧ st < 3) ∧ 0 ≤ q ∧ q ≤ 2147483647 := by
  simp [Wire.proper, Wire.isStr, Wire.isNum, Wire.ackBody] at h
  omega
theorem first_byte (b : ByteArray) (h : 0 < b.size) : (b.data.toList.getD 0 0) = b[0] := by
  have : (0 : Nat) < b.data.toList.length := by simpa using h
  rw [List.getD_eq_getElem?_getD, List.getElem?_eq_getElem this]
  rfl

theorem refDeliver_any {w : World} {p : Nat} {a : Mod.Ag} {r : RRest} {kv hv : Nat → Value} (R : RefAt w p a r kv hv) (k e st q : Int) (b : ByteArray) (hp : Wire.proper k e st q b = true) (hsum : ∀ s, s < 3 → (a.fl s).base + (a.fl s).kept.length ≤ 1000000000000000) :
    Calls Tryz.prog 174 #[.pointer (some ⟨p, 0, none⟩), .agg #[.int .i64 k, .int .i64 e, .int .i64 st, .int .i64 q, .string b]] w fun x w' => x = .returned (.tuple #[]) ∧ RefStep w w' p (a.deliver k e st q b) r kv hv := by
  unfold Mod.Ag.deliver
  by_cases h1 : k = 5 ∧ (a.epoch : Int) < e
  · rw [if_pos h1]
    exact refDeliver_fence R k e st q b h1.1 h1.2
  rw [if_neg h1]
  by_cases he : e = a.epoch
  · rw [if_neg (by simpa using he)]
    by_cases h5 : k = 5
    · rw [if_pos h5]
      exact refDeliver_reset R k e st q b h5 he
    rw [if_neg h5]
    by_cases h2 : k = 2
    · rw [if_pos h2]
      exact refDeliver_welcome R k e st q b h2 he (proper_2 (h2 ▸ hp)) hsum
    rw [if_neg h2]
    by_cases h4 : k = 4
    · rw [if_pos h4]
      obtain ⟨hb, ⟨hs0, hs3⟩, hq0, hq1⟩ := proper_4 (h4 ▸ hp)
      obtain ⟨s, rfl⟩ := Int.eq_ofNat_of_zero_le hs0
      obtain ⟨qn, rfl⟩ := Int.eq_ofNat_of_zero_le hq0
      by_cases hw : a.welcome = false
      · rw [if_pos (.inl hw)]
        exact refDeliver_ackno R k e s qn b h4 he hw
      · have hw' : a.welcome = true := by simpa using hw
        by_cases hl : min qn ((a.fl s).base + (a.fl s).kept.length) < (a.fl s).base
        · rw [if_pos (Or.inr (show a.ackSeq (s : Int).toNat (qn : Int) < (a.fl (s : Int).toNat).base from hl))]
          exact refDeliver_late R k e s qn b h4 he hw' (by omega) (by omega) hl
        · rw [if_neg (show ¬ (a.welcome = false ∨ a.ackSeq (s : Int).toNat (qn : Int) < (a.fl (s : Int).toNat).base) from fun h => h.elim hw hl), first_byte b (by omega)]
          exact refDeliver_ack R k e s qn b h4 he hw' (by omega) (by omega) (by omega) hl hsum
    · rw [if_neg h4]
      exact refDeliver_none R k e st q b h5 h2 h4 he
  · rw [if_pos (by simpa using he)]
    by_cases h5 : k = 5
    · exact refDeliver_other5 R k e st q b h5 (fun h => h1 ⟨h5, h⟩) he
    · exact refDeliver_other R k e st q b h5 he
end Go.Proofs.YtamafdcnbcoegaaGreat
namespace Go.Proofs.YtamafdcnbcoegaaGreat
open Go.RowKit

theorem RefAt.ticked {w : World} {p : Nat} {a : Mod.Ag} {r : RRest} {kv hv : Nat → Value} (R : RefAt w p a r kv hv) (n : Nat) (hn : n ≤ 1000000000000000) : RefAt (w.setCell ⟨p, 1, none⟩ (.int .i64 n)) p { a with ticks := n } r kv hv := by
  have hset := far_set w p 1 (.int .i64 n)
  exact ⟨by have := blk_set (j := 1) (v := .int .i64 n) R.blk; rw [this]; rfl, fun t ht => (R.kept t ht).far hset (fun g hg hgp => (R.kept t ht).ne R.blk (by decide) (by rw [hg, hgp])), fun t ht => (R.held t ht).far hset (fun g hg hgp => (R.held t ht).ne R.blk (by decide) (by rw [hg, hgp])), R.apk, R.aph, R.ep, hn, R.bs, R.kl, R.hl⟩
theorem proper_hello {n : Nat} (h : n ≤ 2147483647) : Wire.proper 1 n 0 0 ⟨#[]⟩ = true := by
  have h2 : (n : Int) ≤ 2147483647 := by omega
  have h3 : (⟨#[]⟩ : ByteArray).size = 0 := rfl
  simp [Wire.proper, Wire.isNum, h2, h3]
/-- A list of bytes as a list of texts. -/
def txts (l : List (List UInt8)) : List Value := l.map fun x => .string ⟨x.toArray⟩
theorem txts_length (l : List (List UInt8)) : (txts l).length = l.length := by simp [txts]

set_option maxRecDepth 100000 in
set_option maxHeartbeats 1000000 in
theorem refTick_fenced {w : World} {p : Nat} {a : Mod.Ag} {r : RRest} {kv hv : Nat → Value} (R : RefAt w p a r kv hv) (hd : r.dead = false) (hf : a.fenced = true) (ht : a.ticks + 1 ≤ 1000000000000000) :
    Calls Tryz.prog 119 #[.pointer (some ⟨p, 0, none⟩)] w fun x w' => x = .returned (.slice none 0 0) ∧ RefStep w w' p { a with ticks := a.ticks + 1 } r kv hv := by
  have c1 := blk_cell (i := 1) R.blk
  have c3 := blk_cell (i := 3) R.blk
  have c4 := blk_cell (i := 4) R.blk
  have f1 := blk_free (i := 1) R.blk
  simp [refCells, hd, hf] at c1 c3 c4
  have RR := hide R
  have HT := hide ht
  have hw : (a.ticks : Int) + 1 = ((a.ticks + 1 : Nat) : Int) := by omega
  have HW := hide hw
  clear R hd hf hw
  go_enter Tryz.func119, Tryz.ntmps119
  go_wp2
  go_ret
  rw [unhide HW]
  exact ⟨rfl, refStep_of ((unhide RR).ticked _ (unhide HT)) ((far_set w p 1 _).mono (fun k _ h => .inl h))⟩

set_option maxRecDepth 100000 in
set_option maxHeartbeats 1000000 in
theorem refTick_hello {w : World} {p : Nat} {a : Mod.Ag} {r : RRest} {kv hv : Nat → Value} (R : RefAt w p a r kv hv) (hd : r.dead = false) (hf : a.fenced = false) (hwl : a.welcome = false) (he : a.epoch ≤ 2147483647) (ht : a.ticks + 1 ≤ 1000000000000000) :
    Calls Tryz.prog 119 #[.pointer (some ⟨p, 0, none⟩)] w fun x w' => ∃ v, x = .returned v ∧ w'.ownsRow w.heap.size 9 1 v 1 (txts [Wire.bytes 1 a.epoch 0 0 []]) ∧ RefStep w w' p { a with ticks := a.ticks + 1 } r kv hv := by
  have c0 := blk_cell (i := 0) R.blk
  have c1 := blk_cell (i := 1) R.blk
  have c2 := blk_cell (i := 2) R.blk
  have c3 := blk_cell (i := 3) R.blk
  have c4 := blk_cell (i := 4) R.blk
  have f1 := blk_free (i := 1) R.blk
  simp [refCells, hd, hf, hwl] at c0 c1 c2 c3 c4
  have RR := hide R
  have HT := hide ht
  have hw : (a.ticks : Int) + 1 = ((a.ticks + 1 : Nat) : Int) := by omega
  have HW := hide hw
  have HB := fun w => hide (refBytes_any 1 a.epoch 0 0 ⟨#[]⟩ w (proper_hello he))
  obtain ⟨i0, hi, hz0, hz1, hz2⟩ := info_parts2 infoStr
  have HFF := hide hf
  have HWW := hide hwl
  clear R hd hf hwl hw
  go_enter Tryz.func119, Tryz.ntmps119
  go_upto_region 5 with fail
  refine wp_world (fun x => RefAt x p { a with ticks := a.ticks + 1 } r kv hv ∧ Far (RefU p kv hv) w x) ⟨by rw [unhide HW]; exact (unhide RR).ticked _ (unhide HT), (far_set w p 1 _).mono (fun k _ h => .inl h)⟩ ?_
  clear c0 c1 c2 c3 c4 f1
  rintro x ⟨R1, F1⟩
  have c0 := blk_cell (i := 0) R1.blk
  have c2 := blk_cell (i := 2) R1.blk
  have c3 := blk_cell (i := 3) R1.blk
  simp [refCells, unhide HFF, unhide HWW] at c0 c2 c3
  have RR1 := hide R1
  have FF1 := hide F1
  clear R1 F1
  go_upto_region 9 with (go_at_call 51; refine (unhide (HB _)).mono ?_; rintro y w2 ⟨rfl, hb2⟩; have BB2 := hide hb2; clear hb2)
  go_wp2_with (at_builtin; refine wpList_append_own _ rfl (.tmp 39) (.tmp 41) 45 rfl w.heap.size 9 i0 (.string ⟨#[]⟩) 1 16 Tryz.underlying45 hi hz0 hz1 hz2 rfl (by decide) (.slice none 0 0) 0 [] rfl (World.ownsRow_nil _ _ _ _) ⟨w2.heap.size, 0, none⟩ 1 1 (txts [Wire.bytes 1 a.epoch 0 0 []]) rfl rfl cells_new (by intro u hu; simp [txts] at hu; subst hu; rfl) (by unfold maxLen; omega) (by omega) (by have := (unhide FF1).size; have := (unhide BB2).size; simp; omega) ?_; intro v' w3 hown' hgrow _; have hb3 := (((Below.refl w2.heap.size w2).alloc (Nat.le_refl _) (.cells (txts [Wire.bytes 1 a.epoch 0 0 []]).toArray 9)).trans (below_grown_new (B := w2.heap.size) hgrow (by simp) (fun g hg => by cases hg))); have HO := hide hown'; have BB3 := hide hb3; clear hown' hgrow hb3)
  go_ret
  have F2 : Far (fun _ => False) x w3 := (far_below (E := fun _ => False) (unhide BB2)).trans (far_below (E := fun _ => False) (unhide BB3)) (fun _ _ h => h)
  exact ⟨_, rfl, by simpa using unhide HO, refStep_of ((unhide RR1).far F2 (fun _ _ h => h)) ((unhide FF1).trans F2 (fun _ _ h => h.elim))⟩
end Go.Proofs.YtamafdcnbcoegaaGreat
namespace Go.Proofs.YtamafdcnbcoegaaGreat
open Go.RowKit

theorem sendTo_len (e s : Nat) (f : Mod.Flow) (t : Nat) : ∀ i, (Mod.sendTo e s f t i).1.length = f.kept.length
  | 0 => rfl
  | i + 1 => by
    have := sendTo_len e s f t i
    simp only [Mod.sendTo]
    split
    · exact this
    · split
      · simp [this]
      · exact this
theorem sendTo_get (e s : Nat) (f : Mod.Flow) (t : Nat) : ∀ i j, i ≤ j → (Mod.sendTo e s f t i).1[j]? = f.kept[j]?
  | 0, _, _ => rfl
  | i + 1, j, h => by
    have := sendTo_get e s f t i j (by omega)
    simp only [Mod.sendTo]
    split
    · exact this
    · split
      · simp only
        rw [List.getElem?_set_ne (by omega)]
        exact this
      · exact this
theorem sendTo_skip {e s : Nat} {f : Mod.Flow} {t i : Nat} (h : i < f.kept.length) (hd : Mod.due f t i f.kept[i].2 = false) : Mod.sendTo e s f t (i + 1) = Mod.sendTo e s f t i := by
  simp only [Mod.sendTo, List.getElem?_eq_getElem h, hd]
  rfl
theorem sendTo_send {e s : Nat} {f : Mod.Flow} {t i : Nat} (h : i < f.kept.length) (hd : Mod.due f t i f.kept[i].2 = true) :
    Mod.sendTo e s f t (i + 1) = ((Mod.sendTo e s f t i).1.set i (f.kept[i].1, t), (Mod.sendTo e s f t i).2 ++ [Wire.bytes 3 e s (f.base + 1 + i : Nat) f.kept[i].1.data.toList]) := by
  simp only [Mod.sendTo, List.getElem?_eq_getElem h, hd]
  rfl
theorem sendTo_over {e s : Nat} {f : Mod.Flow} {t i : Nat} (h : f.kept.length ≤ i) : Mod.sendTo e s f t (i + 1) = Mod.sendTo e s f t i := by
  simp only [Mod.sendTo, List.getElem?_eq_none_iff.2 h]
theorem sendTo_four {e s : Nat} {f : Mod.Flow} {t i : Nat} (h : f.kept.length ≤ i ∨ i = 4) (h4 : i ≤ 4) : Mod.sendTo e s f t 4 = Mod.sendTo e s f t i := by
  rcases h with h | h
  · obtain rfl | rfl | rfl | rfl | rfl : i = 0 ∨ i = 1 ∨ i = 2 ∨ i = 3 ∨ i = 4 := by omega
    · rw [sendTo_over (i := 3) (by omega), sendTo_over (i := 2) (by omega), sendTo_over (i := 1) (by omega), sendTo_over (i := 0) (by omega)]
    · rw [sendTo_over (i := 3) (by omega), sendTo_over (i := 2) (by omega), sendTo_over (i := 1) (by omega)]
    · rw [sendTo_over (i := 3) (by omega), sendTo_over (i := 2) (by omega)]
    · rw [sendTo_over (i := 3) (by omega)]
    · rfl
  · rw [h]
theorem sendFl_zero (e t : Nat) (f : Nat → Mod.Flow) : Mod.sendFl e t f 0 = f := by funext u; simp [Mod.sendFl]
theorem sendFl_self (e t : Nat) (f : Nat → Mod.Flow) (s : Nat) : Mod.sendFl e t f s s = f s := by simp [Mod.sendFl]
theorem sendFl_succ (e t : Nat) (f : Nat → Mod.Flow) (s : Nat) : Mod.sendFl e t f (s + 1) = Mod.upd (Mod.sendFl e t f s) s { f s with kept := (Mod.sendTo e s (f s) t 4).1 } := by
  funext u
  unfold Mod.sendFl Mod.upd
  by_cases h : u = s
  · subst h; simp
  · by_cases h2 : u < s
    · simp [h, h2, show u < s + 1 by omega]
    · simp [h, h2, show ¬ u < s + 1 by omega]
theorem recCells_body' {l : List (ByteArray × Nat)} {i : Nat} {x : ByteArray × Nat} (h : l[i]? = some x) : (recCells l)[i * 2]? = some (.string x.1) := by
  obtain ⟨hi, rfl⟩ := List.getElem?_eq_some_iff.1 h
  exact recCells_body l i hi
theorem recCells_sent' {l : List (ByteArray × Nat)} {i : Nat} {x : ByteArray × Nat} (h : l[i]? = some x) : (recCells l)[i * 2 + 1]? = some (.int .i64 (x.2 : Nat)) := by
  obtain ⟨hi, rfl⟩ := List.getElem?_eq_some_iff.1 h
  exact recCells_sent l i hi
theorem txts_snoc (l : List (List UInt8)) (x : List UInt8) : txts (l ++ [x]) = txts l ++ [.string ⟨x.toArray⟩] := by simp [txts]
theorem proper_data {e s q : Nat} {b : ByteArray} (he : e ≤ 2147483647) (hs : s < 3) (h0 : 0 < q) (hq : q ≤ 2147483647) (hb : b.size ≤ 20) : Wire.proper 3 e s q b = true := by
  have e1 : (e : Int) ≤ 2147483647 := by omega
  have e2 : (s : Int) < 3 := by omega
  have e4 : (q : Int) ≤ 2147483647 := by omega
  have e5 : ¬ q = 0 := by omega
  simp [Wire.proper, Wire.isNum, Wire.isStr, e1, e2, e4, e5, hb]

/-- The cells of one kept record, and of its stream. -/
structure KeptAt (x : World) (p s : Nat) (base : Nat) (kvs : Value) (len cap g o j : Nat) (b : ByteArray) (n : Nat) (ep tk : Nat) : Prop where
  d0 : x.cell? ⟨p, 5 + s * 3, none⟩ = some (.int .i64 base)
  d1 : x.cell? ⟨p, 5 + s * 3 + 1, none⟩ = some (.slice (some ⟨g, o, none⟩) len cap)
  body : x.cell? ⟨g, o + j * 2, none⟩ = some (.string b)
  sent : x.cell? ⟨g, o + j * 2 + 1, none⟩ = some (.int .i64 n)
  free : x.frozen? ⟨g, o + j * 2 + 1, none⟩ = false
  c0 : x.cell? ⟨p, 0, none⟩ = some (.int .i64 ep)
  c1 : x.cell? ⟨p, 1, none⟩ = some (.int .i64 tk)
  glt : g < x.heap.size
  plt : p < x.heap.size
theorem RefAt.keptAt {x : World} {p : Nat} {a : Mod.Ag} {r : RRest} {kv hv : Nat → Value} (R : RefAt x p a r kv hv) (s : Nat) (hs : s < 3) {g o cap j : Nat} (hk : kv s = .slice (some ⟨g, o, none⟩) (a.fl s).kept.length cap) {y : ByteArray × Nat} (hx : (a.fl s).kept[j]? = some y) :
    KeptAt x p s (a.fl s).base (kv s) (a.fl s).kept.length cap g o j y.1 y.2 a.epoch a.ticks := by
  obtain ⟨d0, d1, _⟩ := ref_at R s hs
  have hrow := R.kept s hs
  have hj := (List.getElem?_eq_some_iff.1 hx).1
  obtain ⟨ka, kc, hka, _, _, hc⟩ := hrow.shape
  obtain ⟨g', o', hg, hc⟩ := hc (by omega)
  rw [hk] at hka d1
  injection hka with e1 _ e3
  rw [hg] at e1
  injection e1 with e1
  injection e1 with e1 e2
  subst e1 e2 e3
  have hb := hc (j * 2) (by omega)
  have hn := hc (j * 2 + 1) (by omega)
  rw [recCells_body' hx] at hb
  rw [recCells_sent' hx] at hn
  exact ⟨d0, d1, hb, hn, (R.sentStep s hs (i := j) hk hj 0).2, blk_cell R.blk, blk_cell R.blk, hrow.lt _ (by rw [hk]; rfl), lt_of_block R.blk⟩

set_option maxRecDepth 100000 in
set_option maxHeartbeats 4000000 in
theorem refTick_send {w : World} {p : Nat} {a : Mod.Ag} {r : RRest} {kv hv : Nat → Value} (R : RefAt w p a r kv hv) (hd : r.dead = false) (hf : a.fenced = false) (hwl : a.welcome = true) (he : a.epoch ≤ 2147483647) (ht : a.ticks + 1 ≤ 1000000000000000)
    (hsum : ∀ s, s < 3 → (a.fl s).base + (a.fl s).kept.length ≤ 2147483647) (hbod : ∀ s, s < 3 → ∀ x ∈ (a.fl s).kept, x.1.size ≤ 20 ∧ x.2 ≤ 1000000000000000) :
    Calls Tryz.prog 119 #[.pointer (some ⟨p, 0, none⟩)] w fun x w' => ∃ v n, x = .returned v ∧ w'.ownsRow w.heap.size 9 1 v n (txts (Mod.sendOut a.epoch (a.ticks + 1) a.fl 3)) ∧ RefStep w w' p { a with ticks := a.ticks + 1, fl := Mod.sendFl a.epoch (a.ticks + 1) a.fl 3 } r kv hv := by
  have c0 := blk_cell (i := 0) R.blk
  have c1 := blk_cell (i := 1) R.blk
  have c2 := blk_cell (i := 2) R.blk
  have c3 := blk_cell (i := 3) R.blk
  have c4 := blk_cell (i := 4) R.blk
  have f1 := blk_free (i := 1) R.blk
  simp [refCells, hd, hf, hwl] at c0 c1 c2 c3 c4
  have RR := hide R
  have RR0 := hide R
  have HT := hide ht
  have hw : (a.ticks : Int) + 1 = ((a.ticks + 1 : Nat) : Int) := by omega
  have HW := hide hw
  obtain ⟨i0, hi, hz0, hz1, hz2⟩ := info_parts2 infoStr
  have HFF := hide hf
  have HWW := hide hwl
  have HSUM := hide hsum
  have HBOD := hide hbod
  clear R hd hf hwl hw hsum hbod
  go_enter Tryz.func119, Tryz.ntmps119
  go_upto_region 5 with fail
  refine wp_world (fun x => RefAt x p { a with ticks := a.ticks + 1 } r kv hv ∧ Far (RefU p kv hv) w x) ⟨by rw [unhide HW]; exact (unhide RR).ticked _ (unhide HT), (far_set w p 1 _).mono (fun k _ h => .inl h)⟩ ?_
  clear c0 c1 c2 c3 c4 f1
  rintro x ⟨R1, F1⟩
  have c2 := blk_cell (i := 2) R1.blk
  have c3 := blk_cell (i := 3) R1.blk
  simp [refCells, unhide HFF, unhide HWW] at c2 c3
  have RR1 := hide R1
  have FF1 := hide F1
  clear R1 F1
  obtain ⟨tk, htk⟩ : ∃ tk, tk = a.ticks + 1 := ⟨_, rfl⟩
  have HTK := hide htk
  rw [← htk] at RR1
  clear htk
  have htk0 : tk ≤ 1000000000000000 := by have := unhide HT; have := unhide HTK; omega
  go_wp2
  go_loopw [3, 5] (fun v i wr => ∃ (s n : Nat), s ≤ 3 ∧ i = .int .i64 s ∧ n ≤ 4 * s ∧ wr.ownsRow w.heap.size 9 1 v n (txts (Mod.sendOut a.epoch tk a.fl s)) ∧ RefAt wr p { a with ticks := tk, fl := Mod.sendFl a.epoch tk a.fl s } r kv hv ∧ Far (RefU p kv hv) w wr) (fun _ i _ => 3 - (intOf i).toNat)
  case atStart => exact ⟨0, 0, by omega, rfl, by omega, World.ownsRow_nil _ _ _ _, by rw [sendFl_zero]; exact unhide RR1, unhide FF1⟩
  case round =>
    obtain ⟨s, n, hs, rfl, hn, ho, R, hF⟩ := hrel
    clear c2 c3 RR1 FF1
    by_cases hlt : s < 3
    · have hs3 : (s : Int) < 3 := by omega
      have RR2 := hide R
      have FF2 := hide hF
      have HO2 := hide ho
      clear R hF ho
      go_wp2
      go_loopw [3, 7] (fun v i wr => ∃ (j n2 : Nat), j ≤ 4 ∧ j ≤ (a.fl s).kept.length ∧ i = .int .i64 j ∧ n2 ≤ 4 * s + j ∧ wr.ownsRow w.heap.size 9 1 v n2 (txts (Mod.sendOut a.epoch tk a.fl s ++ (Mod.sendTo a.epoch s (a.fl s) tk j).2)) ∧ RefAt wr p { a with ticks := tk, fl := Mod.upd (Mod.sendFl a.epoch tk a.fl s) s { a.fl s with kept := (Mod.sendTo a.epoch s (a.fl s) tk j).1 } } r kv hv ∧ Far (RefU p kv hv) w wr) (fun _ i _ => 4 - (intOf i).toNat)
      case atStart =>
        refine ⟨0, n, by omega, by omega, rfl, by omega, ?_, ?_, unhide FF2⟩
        · simpa [Mod.sendTo] using unhide HO2
        · have := unhide RR2
          have e : Mod.upd (Mod.sendFl a.epoch tk a.fl s) s { a.fl s with kept := (Mod.sendTo a.epoch s (a.fl s) tk 0).1 } = Mod.sendFl a.epoch tk a.fl s := by
            funext u
            unfold Mod.upd
            split
            · rename_i h; subst h; rw [sendFl_self]; rfl
            · rfl
          rw [e]
          exact this
      case round =>
        obtain ⟨j, n2, hj4, hjl, rfl, hn2, ho, R, hF⟩ := hrel
        obtain ⟨d0, d1, d2⟩ := ref_at R s hlt
        simp only [Mod.upd_same] at d0
        have hrow := R.kept s hlt
        simp only [Mod.upd_same, sendTo_len] at hrow
        obtain ⟨ka, kc, hka, hk1, hk2, hk3⟩ := hrow.shape
        have hkl := R.kl s hlt
        simp only [Mod.upd_same, sendTo_len] at hkl
        rw [hka] at d1
        have HKA := hide hka
        clear RR2 FF2 HO2 hka
        have FF := hide hF
        have HO := hide ho
        have hheld := R.held s hlt
        simp only [Mod.upd_same] at hheld
        have hhl := R.hl s hlt
        simp only [Mod.upd_same] at hhl
        have HH := holds_any ((a.fl s).base + 1 + j) d2 hheld (by omega)
        have hbs : (a.fl s).base ≤ 2147483647 := by have := (unhide HSUM) s hlt; omega
        have ec : (((a.fl s).base + 1 + j : Nat) : Int) = ((a.fl s).base : Int) + 1 + j := by omega
        rw [ec] at HH
        have HHL := hide HH
        have c0 := blk_cell (i := 0) R.blk
        have c1 := blk_cell (i := 1) R.blk
        simp [refCells] at c0 c1
        have RR := hide R
        clear R hF ho hheld hhl HH ec hk2
        by_cases hin : j < (a.fl s).kept.length
        · by_cases h4 : j < 4
          · obtain ⟨g, o, rfl, hc⟩ := hk3 (by omega)
            have hget := sendTo_get a.epoch s (a.fl s) tk j j (Nat.le_refl _)
            rw [List.getElem?_eq_getElem hin] at hget
            have hbody := hc (j * 2) (by omega)
            rw [recCells_body' hget] at hbody
            have hsent : wr.cell? ⟨g, o + j * 2 + 1, none⟩ = some (.int .i64 ((a.fl s).kept[j].2 : Nat)) := by
              have := hc (j * 2 + 1) (by omega)
              rw [recCells_sent' hget] at this
              exact this
            have HSK := hide (fun h => sendTo_skip (e := a.epoch) (s := s) (t := tk) hin h)
            have HSD := hide (fun h => sendTo_send (e := a.epoch) (s := s) (t := tk) hin h)
            obtain ⟨hx1, hx2⟩ := (unhide HBOD) s hlt _ (List.getElem_mem hin)
            have HX := hide hx1
            clear hx1
            have HDUE : Hid (Mod.due (a.fl s) tk j (a.fl s).kept[j].2 = (!((a.fl s).held.contains ((a.fl s).base + 1 + j)) && ((a.fl s).kept[j].2 == 0 || decide ((a.fl s).kept[j].2 + 4 ≤ tk)))) := rfl
            have hstep := (unhide RR).sentStep s hlt (g := g) (o := o) (cap := kc) (i := j) (by simp only [Mod.upd_same, sendTo_len]; exact unhide HKA) (by simp only [Mod.upd_same, sendTo_len]; exact hin) tk
            simp only [Mod.upd_same, upd_upd] at hstep
            obtain ⟨R6, f6⟩ := hstep
            have hgj : (Mod.sendTo a.epoch s (a.fl s) tk j).1[j]'(by rw [sendTo_len]; exact hin) = (a.fl s).kept[j] := by
              have := hget
              rw [List.getElem?_eq_getElem (by rw [sendTo_len]; exact hin)] at this
              exact Option.some.inj this
            rw [hgj] at R6
            have R66 := hide R6
            have F66 : Hid (wr.frozen? ⟨g, o + j * 2 + 1, none⟩ = false) := f6
            have HGET := hide hget
            clear hk3 hc hget hgj R6 f6
            generalize (a.fl s).kept[j] = xj at *
            obtain ⟨bj, sj⟩ := xj
            cases hcon : (a.fl s).held.contains ((a.fl s).base + 1 + j)
            · rw [hcon] at HHL HDUE
              by_cases hs0 : 0 < (sj : Int)
              · by_cases hl : (tk : Int) < (sj : Int) + 4
                · have HS := hide ((unhide HSK) (by rw [unhide HDUE]; simp; omega))
                  clear hcon hbody R66
                  go_wp2_with (go_at_call 172; refine (unhide HHL).mono ?_; rintro y w1 ⟨rfl, q1, rfl⟩)
                  go_roundw
                  case rel =>
                    refine ⟨j + 1, n2, by omega, by omega, by go_num, by omega, ?_, ?_, (unhide FF).trans (far_below (E := fun _ => False) (below_drewN (Below.refl _ _) _)) (fun _ _ h => h.elim)⟩
                    · rw [unhide HS]; exact unhide HO
                    · rw [unhide HS]; exact (unhide RR).far (far_below (E := fun _ => False) (below_drewN (Below.refl _ _) _)) (fun _ _ h => h)
                  case measure => simp [intOf]; omega
                · have HS := hide ((unhide HSD) (by rw [unhide HDUE]; simp; omega))
                  clear hcon R66 F66
                  go_upto_region 20 with (go_at_call 172; refine (unhide HHL).mono ?_; rintro y w1 ⟨rfl, q1, rfl⟩)
                  refine wp_world (fun x => RefAt x p { a with ticks := tk, fl := Mod.upd (Mod.sendFl a.epoch tk a.fl s) s { a.fl s with kept := (Mod.sendTo a.epoch s (a.fl s) tk j).1 } } r kv hv ∧ x.ownsRow w.heap.size 9 1 u3 n2 (txts (Mod.sendOut a.epoch tk a.fl s ++ (Mod.sendTo a.epoch s (a.fl s) tk j).2)) ∧ Far (RefU p kv hv) w x)
                    ⟨(unhide RR).far (far_below (E := fun _ => False) (below_drewN (Below.refl _ _) _)) (fun _ _ h => h), unhide HO, (unhide FF).trans (far_below (E := fun _ => False) (below_drewN (Below.refl _ _) _)) (fun _ _ h => h.elim)⟩ ?_
                  clear d0 d1 d2 c0 c1 hbody hsent RR HO FF HHL hrow
                  rintro x20 ⟨R20, O20, F20⟩
                  have K20 := R20.keptAt s hlt (g := g) (o := o) (cap := kc) (j := j) (by simp only [Mod.upd_same, sendTo_len]; exact unhide HKA) (y := (bj, sj)) (by simp only [Mod.upd_same]; exact unhide HGET)
                  simp only [Mod.upd_same, sendTo_len] at K20
                  obtain ⟨d0, d1, hbody, hsent, hfree, c0, c1, hgl, hpl⟩ := K20
                  have RR20 := hide R20
                  have FF20 := hide F20
                  have OO20 := hide O20
                  clear R20 O20 F20
                  refine wp_region_last (by kernel_rfl)
                    [fun v _ => v = .pointer (some ⟨p, 5 + s * 3, none⟩), fun v _ => v = .pointer (some ⟨p, 5 + s * 3, none⟩), fun v _ => v = .pointer (some ⟨p, 5 + s * 3 + 1, none⟩), fun v _ => v = .slice (some ⟨g, o, none⟩) (a.fl s).kept.length kc, fun v _ => v = .int .i64 j, fun v _ => v = .pointer (some ⟨p, 0, none⟩), fun v _ => v = .pointer (some ⟨p, 0, none⟩), fun v _ => v = .pointer (some ⟨p, 1, none⟩), fun v _ => v = .int .i64 tk, fun v _ => v = .pointer (some ⟨g, o + j * 2, none⟩), fun v _ => v = .pointer (some ⟨g, o + j * 2 + 1, none⟩), fun _ _ => True]
                    [[(6, none)], [(96, some 0)], [(97, some 1)], [(98, some 2)], [(7, none)], [(0, none)], [(101, some 5)], [(102, some 6)], [(103, some 7)], [(99, some 3), (100, some 4)], [(105, some 9)], [(106, some 10), (104, some 8)]]
                    [some 96, some 97, some 98, some 99, some 100, some 101, some 102, some 103, some 104, some 105, some 106, none]
                    [false, false, false, false, false, false, false, false, false, false, false, false, false, false, false, false, false, false, false, false, false, false, false, false, false, false, false, false, false, false, false, false, false, false, false, false, false, false, false, false, false, false, false, false, false, false, false, false, false, false, false, false, false, false, false, false, false, false, false, false, false, false, false, false, false, false, false, false, false, false, false, false, false, false, false, false, false, false, false, false, false, false, false, false, false, false, false, false, false, false, false, false, false, false, false, false, true, true, true, true, true, true, true, true, true, true, true, false, false, false, false, false, false, false, false, false, false, false, false, false, false, false, false, false, false, false, false, false, false, false, false, false, false, false]
                    11 _ rfl rfl (by kernel_rfl) (by kernel_rfl) (by kernel_rfl) (by kernel_rfl) (by kernel_rfl) (by kernel_rfl) ?_ ?_ ?_
                  · repeat' (first | exact stable_eq _ | exact stable_true | exact trivial | apply And.intro)
                  · refine ⟨?_, ?_, ?_, ?_, ?_, ?_, ?_, ?_, ?_, ?_, ?_, trivial⟩
                    all_goals
                      intro b x hb hf
                      have y1 := (hb.cell (p := ⟨p, 5 + s * 3 + 1, none⟩) hpl).trans d1
                      have y2 := (hb.cell (p := ⟨p, 1, none⟩) hpl).trans c1
                      clear hb d0 d1 hbody hsent c0 c1
                      simp only [PlanFacts, List.getD_cons_zero, List.getD_cons_succ, Array.getD_eq_getD_getElem?] at hf
                      try simp at hf
                      try go_simp
                      try exact Below.refl _ _
                    all_goals exact ⟨rfl, Below.refl _ _⟩
                  · intro f5 x5 hb hwd
                    simp only [AllWords, List.take] at hwd
                    obtain ⟨_, _, _, _, _, _, _, _, hf104, _, hf106, _⟩ := hwd
                    have hsent5 := (hb.cell (p := ⟨g, o + j * 2 + 1, none⟩) hgl).trans hsent
                    have hfree5 := (hb.frozen (p := ⟨g, o + j * 2 + 1, none⟩) hgl).trans hfree
                    have HF5 : Far (fun _ => False) x20 x5 := far_below hb
                    have R5 := (unhide RR20).far HF5 (fun _ _ h => h)
                    have hstep := R5.sentStep s hlt (g := g) (o := o) (cap := kc) (i := j) (by simp only [Mod.upd_same, sendTo_len]; exact unhide HKA) (by simp only [Mod.upd_same, sendTo_len]; exact hin) tk
                    simp only [Mod.upd_same, upd_upd] at hstep
                    obtain ⟨R21, _⟩ := hstep
                    have hgj : (Mod.sendTo a.epoch s (a.fl s) tk j).1[j]'(by rw [sendTo_len]; exact hin) = (bj, sj) := by
                      have := unhide HGET
                      rw [List.getElem?_eq_getElem (by rw [sendTo_len]; exact hin)] at this
                      exact Option.some.inj this
                    rw [hgj] at R21
                    have e1 : (Mod.sendTo a.epoch s (a.fl s) tk j).1.set j (bj, tk) = (Mod.sendTo a.epoch s (a.fl s) tk (j + 1)).1 := by rw [unhide HS]
                    rw [e1] at R21
                    have hgu : RefU p kv hv g := .inr ⟨s, hlt, .inl (by rw [unhide HKA]; rfl)⟩
                    have F21 := ((unhide FF20).trans HF5 (fun _ _ h => h.elim)).trans (far_set x5 g (o + (j * 2 + 1)) (.int .i64 tk)) (fun k _ e => by rw [e]; exact hgu)
                    have HLO := hide (fun k hk => (World.ownsRow.lt (unhide OO20) k hk).1)
                    have O21 := ownsRow_keep (w' := x5.setCell ⟨g, o + (j * 2 + 1), none⟩ (.int .i64 tk)) (ownsRow_keep (w' := x5) (unhide OO20) (fun k hk => HF5.rest k (World.ownsRow.lt (unhide OO20) k hk).2 (fun h => h))) (fun k hk => blk_set_ne (by
                      have h1 := (unhide HLO) k hk
                      have h2 := (unhide RR0).lt g hgu
                      omega))
                    have RR21 := hide R21
                    have FF21 := hide F21
                    have OO21 := hide O21
                    clear hb HF5 R5 R21 F21 O21 hgj hgu e1 d0 d1 hbody hsent hfree c0 c1 hgl hpl RR20 FF20 OO20
                    simp only [mergeT, hf104, hf106]
                    go_simp
                    go_upto_region 21 with fail
                    refine wp_world (fun x => RefAt x p { a with ticks := tk, fl := Mod.upd (Mod.sendFl a.epoch tk a.fl s) s { a.fl s with kept := (Mod.sendTo a.epoch s (a.fl s) tk (j + 1)).1 } } r kv hv ∧ x.ownsRow w.heap.size 9 1 u3 n2 (txts (Mod.sendOut a.epoch tk a.fl s ++ (Mod.sendTo a.epoch s (a.fl s) tk j).2)) ∧ Far (RefU p kv hv) w x) ⟨unhide RR21, unhide OO21, unhide FF21⟩ ?_
                    clear hsent5 hfree5 RR21 OO21 FF21
                    rintro x6 ⟨R6, O6, F6⟩
                    have K6 := R6.keptAt s hlt (g := g) (o := o) (cap := kc) (j := j) (by simp only [Mod.upd_same, sendTo_len]; exact unhide HKA) (y := (bj, tk)) (by simp only [Mod.upd_same]; rw [unhide HS]; simp only; rw [List.getElem?_set_self (by rw [sendTo_len]; exact hin)])
                    simp only [Mod.upd_same, sendTo_len] at K6
                    obtain ⟨d0, d1, hbody, hsent, hfree, c0, c1, hgl, hpl⟩ := K6
                    have RR6 := hide R6
                    have FF6 := hide F6
                    have OO6 := hide O6
                    clear R6 O6 F6
                    obtain ⟨bts, hbts⟩ : ∃ bts, bts = Wire.bytes 3 a.epoch s ((a.fl s).base + 1 + j : Nat) bj.data.toList := ⟨_, rfl⟩
                    have HBT := hide hbts
                    have HBY := fun w => hide (refBytes_any 3 a.epoch s ((a.fl s).base + 1 + j : Nat) bj w (proper_data he hlt (by omega) (by have := (unhide HSUM) s hlt; omega) (unhide HX)))
                    rw [← hbts, show (((a.fl s).base + 1 + j : Nat) : Int) = ((a.fl s).base : Int) + 1 + j by omega] at HBY
                    clear hbts
                    have hw1 : IntKind.i64.wrap (((a.fl s).base : Int) + 1) = ((a.fl s).base : Int) + 1 := by rw [IntKind.wrap_i64]; omega
                    have hw2 : IntKind.i64.wrap (((a.fl s).base : Int) + 1 + j) = ((a.fl s).base : Int) + 1 + j := by rw [IntKind.wrap_i64]; omega
                    refine wp_region_frame (by kernel_rfl)
                      [fun v _ => v = .pointer (some ⟨p, 0, none⟩), fun v _ => v = .pointer (some ⟨p, 0, none⟩), fun v _ => v = .pointer (some ⟨p, 0, none⟩), fun v _ => v = .int .i64 a.epoch, fun v _ => v = .int .i64 s, fun v _ => v = .pointer (some ⟨p, 5 + s * 3, none⟩), fun v _ => v = .pointer (some ⟨p, 5 + s * 3, none⟩), fun v _ => v = .pointer (some ⟨p, 5 + s * 3, none⟩), fun v _ => v = .int .i64 (a.fl s).base, fun v _ => v = .int .i64 (((a.fl s).base : Int) + 1), fun v _ => v = .int .i64 j, fun v _ => v = .int .i64 (((a.fl s).base : Int) + 1 + j), fun v _ => v = .pointer (some ⟨p, 5 + s * 3, none⟩), fun v _ => v = .pointer (some ⟨p, 5 + s * 3, none⟩), fun v _ => v = .pointer (some ⟨p, 5 + s * 3 + 1, none⟩), fun v _ => v = .slice (some ⟨g, o, none⟩) (a.fl s).kept.length kc, fun v _ => v = .int .i64 j, fun v _ => v = .pointer (some ⟨g, o + j * 2, none⟩), fun v _ => v = .pointer (some ⟨g, o + j * 2, none⟩), fun v _ => v = .string bj, fun v _ => v = .agg #[.int .i64 3, .int .i64 a.epoch, .int .i64 s, .int .i64 (((a.fl s).base : Int) + 1 + j), .string bj], fun v _ => v = .string ⟨bts.toArray⟩, fun v _ => v = .string ⟨bts.toArray⟩]
                      [[(0, none)], [(107, some 0)], [(108, some 1)], [(109, some 2)], [(5, none)], [(6, none)], [(112, some 5)], [(113, some 6)], [(114, some 7)], [(115, some 8)], [(7, none)], [(116, some 9), (117, some 10)], [(6, none)], [(119, some 12)], [(120, some 13)], [(121, some 14)], [(7, none)], [(122, some 15), (123, some 16)], [(124, some 17)], [(125, some 18)], [(110, some 3), (111, some 4), (118, some 11), (126, some 19)], [(127, some 20)], [(128, some 21)]]
                      [some 107, some 108, some 109, some 110, some 111, some 112, some 113, some 114, some 115, some 116, some 117, some 118, some 119, some 120, some 121, some 122, some 123, some 124, some 125, some 126, some 127, some 128, some 10]
                      [false, false, false, false, false, false, false, false, false, false, true, false, false, false, false, false, false, false, false, false, false, false, false, false, false, false, false, false, false, false, false, false, false, false, false, false, false, false, false, false, false, false, false, false, false, false, false, false, false, false, false, false, false, false, false, false, false, false, false, false, false, false, false, false, false, false, false, false, false, false, false, false, false, false, false, false, false, false, false, false, false, false, false, false, false, false, false, false, false, false, false, false, false, false, false, false, false, false, false, false, false, false, false, false, false, false, false, true, true, true, true, true, true, true, true, true, true, true, true, true, true, true, true, true, true, true, true, true, true, false, false, false, false, false]
                      (by kernel_rfl) (by kernel_rfl) (by kernel_rfl) (by kernel_rfl) ?_ ?_ ?_
                    · repeat' (first | exact stable_eq _ | exact stable_true | exact trivial | apply And.intro)
                    · refine ⟨?_, ?_, ?_, ?_, ?_, ?_, ?_, ?_, ?_, ?_, ?_, ?_, ?_, ?_, ?_, ?_, ?_, ?_, ?_, ?_, ?_, ?_, ?_, trivial⟩
                      all_goals
                        intro b x hb hf
                        have y0 := (hb.cell (p := ⟨p, 5 + s * 3, none⟩) hpl).trans d0
                        have y1 := (hb.cell (p := ⟨p, 5 + s * 3 + 1, none⟩) hpl).trans d1
                        have y2 := (hb.cell (p := ⟨p, 0, none⟩) hpl).trans c0
                        have y3 := (hb.cell (p := ⟨g, o + j * 2, none⟩) hgl).trans hbody
                        clear hb d0 d1 hbody hsent c0 c1
                        simp only [PlanFacts, List.getD_cons_zero, List.getD_cons_succ, Array.getD_eq_getD_getElem?] at hf
                        try simp at hf
                        try go_simp
                        try exact Below.refl _ _
                      all_goals first
                        | exact ⟨rfl, Below.refl _ _⟩
                        | (rw [hw1]; exact ⟨rfl, Below.refl _ _⟩)
                        | (rw [hw2]; exact ⟨rfl, Below.refl _ _⟩)
                        | (refine (unhide (HBY _)).mono ?_; rintro y w1 ⟨rfl, hb1⟩; exact ⟨rfl, hb1⟩)
                    · intro f7 x7 hb hwd
                      simp only [AllWords] at hwd
                      obtain ⟨_, _, _, _, _, _, _, _, _, _, _, _, _, _, _, _, _, _, _, _, _, _, hf10, _⟩ := hwd
                      have HF7 : Far (fun _ => False) x6 x7 := far_below hb
                      have RR7 := hide ((unhide RR6).far HF7 (fun _ _ h => h))
                      have FF7 := hide ((unhide FF6).trans HF7 (fun _ _ h => h.elim))
                      have OO7 := hide (ownsRow_keep (w' := x7) (unhide OO6) (fun k hk => HF7.rest k (World.ownsRow.lt (unhide OO6) k hk).2 (fun h => h)))
                      clear hb HF7 RR6 FF6 OO6 d0 d1 hbody hsent hfree c0 c1 hgl hpl HBY hw1 hw2
                      simp only [mergeT, hf10]
                      clear hf10
                      go_wp2_with (at_builtin; refine wpList_append_own _ rfl (.tmp 129) (.tmp 131) 45 rfl w.heap.size 9 i0 (.string ⟨#[]⟩) 1 16 Tryz.underlying45 hi hz0 hz1 hz2 rfl (by decide) u3 n2 (txts (Mod.sendOut a.epoch tk a.fl s ++ (Mod.sendTo a.epoch s (a.fl s) tk j).2)) rfl ((unhide OO7).alloc _) ⟨x7.heap.size, 0, none⟩ 1 1 [.string ⟨bts.toArray⟩] rfl rfl cells_new (by intro u hu; simp at hu; subst hu; rfl) (by unfold maxLen; omega) (by omega) (by have := (unhide FF7).size; simp; omega) ?_; intro v' w8 hown' hgrow _; rw [← txts_snoc] at hown'; have hl8 := (fun g hg => (World.ownsRow.lt (unhide OO7) g hg).1); have hf8 := (far_below (E := fun k => u3.ownBlock = some k) ((Below.refl x7.heap.size x7).alloc (Nat.le_refl _) (.cells #[.string ⟨bts.toArray⟩] 9))).trans (far_grown hgrow) (fun _ _ h => h); have HO8 := hide hown'; have HF8 := hide hf8; have HL8 := hide hl8; clear hown' hgrow hf8 hl8)
                      go_roundw
                      case rel =>
                        have hno : ∀ k, RefU p kv hv k → ¬ u3.ownBlock = some k := fun k hk e => by
                          have h1 := (unhide HL8) k e
                          have h2 := (unhide RR0).lt k hk
                          omega
                        refine ⟨j + 1, n2 + 1, by omega, by omega, by go_num, by omega, ?_, (unhide RR7).far (unhide HF8) hno, (unhide FF7).trans (unhide HF8) (fun k hk e => by have h1 := (unhide HL8) k e; omega)⟩
                        rw [unhide HS, ← List.append_assoc, ← unhide HBT]
                        exact unhide HO8
                      case measure => simp [intOf]; omega
              · have HS := hide ((unhide HSD) (by rw [unhide HDUE]; simp; omega))
                clear hcon R66 F66
                go_upto_region 20 with (go_at_call 172; refine (unhide HHL).mono ?_; rintro y w1 ⟨rfl, q1, rfl⟩)
                refine wp_world (fun x => RefAt x p { a with ticks := tk, fl := Mod.upd (Mod.sendFl a.epoch tk a.fl s) s { a.fl s with kept := (Mod.sendTo a.epoch s (a.fl s) tk j).1 } } r kv hv ∧ x.ownsRow w.heap.size 9 1 u3 n2 (txts (Mod.sendOut a.epoch tk a.fl s ++ (Mod.sendTo a.epoch s (a.fl s) tk j).2)) ∧ Far (RefU p kv hv) w x)
                  ⟨(unhide RR).far (far_below (E := fun _ => False) (below_drewN (Below.refl _ _) _)) (fun _ _ h => h), unhide HO, (unhide FF).trans (far_below (E := fun _ => False) (below_drewN (Below.refl _ _) _)) (fun _ _ h => h.elim)⟩ ?_
                clear d0 d1 d2 c0 c1 hbody hsent RR HO FF HHL hrow
                rintro x20 ⟨R20, O20, F20⟩
                have K20 := R20.keptAt s hlt (g := g) (o := o) (cap := kc) (j := j) (by simp only [Mod.upd_same, sendTo_len]; exact unhide HKA) (y := (bj, sj)) (by simp only [Mod.upd_same]; exact unhide HGET)
                simp only [Mod.upd_same, sendTo_len] at K20
                obtain ⟨d0, d1, hbody, hsent, hfree, c0, c1, hgl, hpl⟩ := K20
                have RR20 := hide R20
                have FF20 := hide F20
                have OO20 := hide O20
                clear R20 O20 F20
                refine wp_region_last (by kernel_rfl)
                  [fun v _ => v = .pointer (some ⟨p, 5 + s * 3, none⟩), fun v _ => v = .pointer (some ⟨p, 5 + s * 3, none⟩), fun v _ => v = .pointer (some ⟨p, 5 + s * 3 + 1, none⟩), fun v _ => v = .slice (some ⟨g, o, none⟩) (a.fl s).kept.length kc, fun v _ => v = .int .i64 j, fun v _ => v = .pointer (some ⟨p, 0, none⟩), fun v _ => v = .pointer (some ⟨p, 0, none⟩), fun v _ => v = .pointer (some ⟨p, 1, none⟩), fun v _ => v = .int .i64 tk, fun v _ => v = .pointer (some ⟨g, o + j * 2, none⟩), fun v _ => v = .pointer (some ⟨g, o + j * 2 + 1, none⟩), fun _ _ => True]
                  [[(6, none)], [(96, some 0)], [(97, some 1)], [(98, some 2)], [(7, none)], [(0, none)], [(101, some 5)], [(102, some 6)], [(103, some 7)], [(99, some 3), (100, some 4)], [(105, some 9)], [(106, some 10), (104, some 8)]]
                  [some 96, some 97, some 98, some 99, some 100, some 101, some 102, some 103, some 104, some 105, some 106, none]
                  [false, false, false, false, false, false, false, false, false, false, false, false, false, false, false, false, false, false, false, false, false, false, false, false, false, false, false, false, false, false, false, false, false, false, false, false, false, false, false, false, false, false, false, false, false, false, false, false, false, false, false, false, false, false, false, false, false, false, false, false, false, false, false, false, false, false, false, false, false, false, false, false, false, false, false, false, false, false, false, false, false, false, false, false, false, false, false, false, false, false, false, false, false, false, false, false, true, true, true, true, true, true, true, true, true, true, true, false, false, false, false, false, false, false, false, false, false, false, false, false, false, false, false, false, false, false, false, false, false, false, false, false, false, false]
                  11 _ rfl rfl (by kernel_rfl) (by kernel_rfl) (by kernel_rfl) (by kernel_rfl) (by kernel_rfl) (by kernel_rfl) ?_ ?_ ?_
                · repeat' (first | exact stable_eq _ | exact stable_true | exact trivial | apply And.intro)
                · refine ⟨?_, ?_, ?_, ?_, ?_, ?_, ?_, ?_, ?_, ?_, ?_, trivial⟩
                  all_goals
                    intro b x hb hf
                    have y1 := (hb.cell (p := ⟨p, 5 + s * 3 + 1, none⟩) hpl).trans d1
                    have y2 := (hb.cell (p := ⟨p, 1, none⟩) hpl).trans c1
                    clear hb d0 d1 hbody hsent c0 c1
                    simp only [PlanFacts, List.getD_cons_zero, List.getD_cons_succ, Array.getD_eq_getD_getElem?] at hf
                    try simp at hf
                    try go_simp
                    try exact Below.refl _ _
                  all_goals exact ⟨rfl, Below.refl _ _⟩
                · intro f5 x5 hb hwd
                  simp only [AllWords, List.take] at hwd
                  obtain ⟨_, _, _, _, _, _, _, _, hf104, _, hf106, _⟩ := hwd
                  have hsent5 := (hb.cell (p := ⟨g, o + j * 2 + 1, none⟩) hgl).trans hsent
                  have hfree5 := (hb.frozen (p := ⟨g, o + j * 2 + 1, none⟩) hgl).trans hfree
                  have HF5 : Far (fun _ => False) x20 x5 := far_below hb
                  have R5 := (unhide RR20).far HF5 (fun _ _ h => h)
                  have hstep := R5.sentStep s hlt (g := g) (o := o) (cap := kc) (i := j) (by simp only [Mod.upd_same, sendTo_len]; exact unhide HKA) (by simp only [Mod.upd_same, sendTo_len]; exact hin) tk
                  simp only [Mod.upd_same, upd_upd] at hstep
                  obtain ⟨R21, _⟩ := hstep
                  have hgj : (Mod.sendTo a.epoch s (a.fl s) tk j).1[j]'(by rw [sendTo_len]; exact hin) = (bj, sj) := by
                    have := unhide HGET
                    rw [List.getElem?_eq_getElem (by rw [sendTo_len]; exact hin)] at this
                    exact Option.some.inj this
                  rw [hgj] at R21
                  have e1 : (Mod.sendTo a.epoch s (a.fl s) tk j).1.set j (bj, tk) = (Mod.sendTo a.epoch s (a.fl s) tk (j + 1)).1 := by rw [unhide HS]
                  rw [e1] at R21
                  have hgu : RefU p kv hv g := .inr ⟨s, hlt, .inl (by rw [unhide HKA]; rfl)⟩
                  have F21 := ((unhide FF20).trans HF5 (fun _ _ h => h.elim)).trans (far_set x5 g (o + (j * 2 + 1)) (.int .i64 tk)) (fun k _ e => by rw [e]; exact hgu)
                  have HLO := hide (fun k hk => (World.ownsRow.lt (unhide OO20) k hk).1)
                  have O21 := ownsRow_keep (w' := x5.setCell ⟨g, o + (j * 2 + 1), none⟩ (.int .i64 tk)) (ownsRow_keep (w' := x5) (unhide OO20) (fun k hk => HF5.rest k (World.ownsRow.lt (unhide OO20) k hk).2 (fun h => h))) (fun k hk => blk_set_ne (by
                    have h1 := (unhide HLO) k hk
                    have h2 := (unhide RR0).lt g hgu
                    omega))
                  have RR21 := hide R21
                  have FF21 := hide F21
                  have OO21 := hide O21
                  clear hb HF5 R5 R21 F21 O21 hgj hgu e1 d0 d1 hbody hsent hfree c0 c1 hgl hpl RR20 FF20 OO20
                  simp only [mergeT, hf104, hf106]
                  go_simp
                  go_upto_region 21 with fail
                  refine wp_world (fun x => RefAt x p { a with ticks := tk, fl := Mod.upd (Mod.sendFl a.epoch tk a.fl s) s { a.fl s with kept := (Mod.sendTo a.epoch s (a.fl s) tk (j + 1)).1 } } r kv hv ∧ x.ownsRow w.heap.size 9 1 u3 n2 (txts (Mod.sendOut a.epoch tk a.fl s ++ (Mod.sendTo a.epoch s (a.fl s) tk j).2)) ∧ Far (RefU p kv hv) w x) ⟨unhide RR21, unhide OO21, unhide FF21⟩ ?_
                  clear hsent5 hfree5 RR21 OO21 FF21
                  rintro x6 ⟨R6, O6, F6⟩
                  have K6 := R6.keptAt s hlt (g := g) (o := o) (cap := kc) (j := j) (by simp only [Mod.upd_same, sendTo_len]; exact unhide HKA) (y := (bj, tk)) (by simp only [Mod.upd_same]; rw [unhide HS]; simp only; rw [List.getElem?_set_self (by rw [sendTo_len]; exact hin)])
                  simp only [Mod.upd_same, sendTo_len] at K6
                  obtain ⟨d0, d1, hbody, hsent, hfree, c0, c1, hgl, hpl⟩ := K6
                  have RR6 := hide R6
                  have FF6 := hide F6
                  have OO6 := hide O6
                  clear R6 O6 F6
                  obtain ⟨bts, hbts⟩ : ∃ bts, bts = Wire.bytes 3 a.epoch s ((a.fl s).base + 1 + j : Nat) bj.data.toList := ⟨_, rfl⟩
                  have HBT := hide hbts
                  have HBY := fun w => hide (refBytes_any 3 a.epoch s ((a.fl s).base + 1 + j : Nat) bj w (proper_data he hlt (by omega) (by have := (unhide HSUM) s hlt; omega) (unhide HX)))
                  rw [← hbts, show (((a.fl s).base + 1 + j : Nat) : Int) = ((a.fl s).base : Int) + 1 + j by omega] at HBY
                  clear hbts
                  have hw1 : IntKind.i64.wrap (((a.fl s).base : Int) + 1) = ((a.fl s).base : Int) + 1 := by rw [IntKind.wrap_i64]; omega
                  have hw2 : IntKind.i64.wrap (((a.fl s).base : Int) + 1 + j) = ((a.fl s).base : Int) + 1 + j := by rw [IntKind.wrap_i64]; omega
                  refine wp_region_frame (by kernel_rfl)
                    [fun v _ => v = .pointer (some ⟨p, 0, none⟩), fun v _ => v = .pointer (some ⟨p, 0, none⟩), fun v _ => v = .pointer (some ⟨p, 0, none⟩), fun v _ => v = .int .i64 a.epoch, fun v _ => v = .int .i64 s, fun v _ => v = .pointer (some ⟨p, 5 + s * 3, none⟩), fun v _ => v = .pointer (some ⟨p, 5 + s * 3, none⟩), fun v _ => v = .pointer (some ⟨p, 5 + s * 3, none⟩), fun v _ => v = .int .i64 (a.fl s).base, fun v _ => v = .int .i64 (((a.fl s).base : Int) + 1), fun v _ => v = .int .i64 j, fun v _ => v = .int .i64 (((a.fl s).base : Int) + 1 + j), fun v _ => v = .pointer (some ⟨p, 5 + s * 3, none⟩), fun v _ => v = .pointer (some ⟨p, 5 + s * 3, none⟩), fun v _ => v = .pointer (some ⟨p, 5 + s * 3 + 1, none⟩), fun v _ => v = .slice (some ⟨g, o, none⟩) (a.fl s).kept.length kc, fun v _ => v = .int .i64 j, fun v _ => v = .pointer (some ⟨g, o + j * 2, none⟩), fun v _ => v = .pointer (some ⟨g, o + j * 2, none⟩), fun v _ => v = .string bj, fun v _ => v = .agg #[.int .i64 3, .int .i64 a.epoch, .int .i64 s, .int .i64 (((a.fl s).base : Int) + 1 + j), .string bj], fun v _ => v = .string ⟨bts.toArray⟩, fun v _ => v = .string ⟨bts.toArray⟩]
                    [[(0, none)], [(107, some 0)], [(108, some 1)], [(109, some 2)], [(5, none)], [(6, none)], [(112, some 5)], [(113, some 6)], [(114, some 7)], [(115, some 8)], [(7, none)], [(116, some 9), (117, some 10)], [(6, none)], [(119, some 12)], [(120, some 13)], [(121, some 14)], [(7, none)], [(122, some 15), (123, some 16)], [(124, some 17)], [(125, some 18)], [(110, some 3), (111, some 4), (118, some 11), (126, some 19)], [(127, some 20)], [(128, some 21)]]
                    [some 107, some 108, some 109, some 110, some 111, some 112, some 113, some 114, some 115, some 116, some 117, some 118, some 119, some 120, some 121, some 122, some 123, some 124, some 125, some 126, some 127, some 128, some 10]
                    [false, false, false, false, false, false, false, false, false, false, true, false, false, false, false, false, false, false, false, false, false, false, false, false, false, false, false, false, false, false, false, false, false, false, false, false, false, false, false, false, false, false, false, false, false, false, false, false, false, false, false, false, false, false, false, false, false, false, false, false, false, false, false, false, false, false, false, false, false, false, false, false, false, false, false, false, false, false, false, false, false, false, false, false, false, false, false, false, false, false, false, false, false, false, false, false, false, false, false, false, false, false, false, false, false, false, false, true, true, true, true, true, true, true, true, true, true, true, true, true, true, true, true, true, true, true, true, true, true, false, false, false, false, false]
                    (by kernel_rfl) (by kernel_rfl) (by kernel_rfl) (by kernel_rfl) ?_ ?_ ?_
                  · repeat' (first | exact stable_eq _ | exact stable_true | exact trivial | apply And.intro)
                  · refine ⟨?_, ?_, ?_, ?_, ?_, ?_, ?_, ?_, ?_, ?_, ?_, ?_, ?_, ?_, ?_, ?_, ?_, ?_, ?_, ?_, ?_, ?_, ?_, trivial⟩
                    all_goals
                      intro b x hb hf
                      have y0 := (hb.cell (p := ⟨p, 5 + s * 3, none⟩) hpl).trans d0
                      have y1 := (hb.cell (p := ⟨p, 5 + s * 3 + 1, none⟩) hpl).trans d1
                      have y2 := (hb.cell (p := ⟨p, 0, none⟩) hpl).trans c0
                      have y3 := (hb.cell (p := ⟨g, o + j * 2, none⟩) hgl).trans hbody
                      clear hb d0 d1 hbody hsent c0 c1
                      simp only [PlanFacts, List.getD_cons_zero, List.getD_cons_succ, Array.getD_eq_getD_getElem?] at hf
                      try simp at hf
                      try go_simp
                      try exact Below.refl _ _
                    all_goals first
                      | exact ⟨rfl, Below.refl _ _⟩
                      | (rw [hw1]; exact ⟨rfl, Below.refl _ _⟩)
                      | (rw [hw2]; exact ⟨rfl, Below.refl _ _⟩)
                      | (refine (unhide (HBY _)).mono ?_; rintro y w1 ⟨rfl, hb1⟩; exact ⟨rfl, hb1⟩)
                  · intro f7 x7 hb hwd
                    simp only [AllWords] at hwd
                    obtain ⟨_, _, _, _, _, _, _, _, _, _, _, _, _, _, _, _, _, _, _, _, _, _, hf10, _⟩ := hwd
                    have HF7 : Far (fun _ => False) x6 x7 := far_below hb
                    have RR7 := hide ((unhide RR6).far HF7 (fun _ _ h => h))
                    have FF7 := hide ((unhide FF6).trans HF7 (fun _ _ h => h.elim))
                    have OO7 := hide (ownsRow_keep (w' := x7) (unhide OO6) (fun k hk => HF7.rest k (World.ownsRow.lt (unhide OO6) k hk).2 (fun h => h)))
                    clear hb HF7 RR6 FF6 OO6 d0 d1 hbody hsent hfree c0 c1 hgl hpl HBY hw1 hw2
                    simp only [mergeT, hf10]
                    clear hf10
                    go_wp2_with (at_builtin; refine wpList_append_own _ rfl (.tmp 129) (.tmp 131) 45 rfl w.heap.size 9 i0 (.string ⟨#[]⟩) 1 16 Tryz.underlying45 hi hz0 hz1 hz2 rfl (by decide) u3 n2 (txts (Mod.sendOut a.epoch tk a.fl s ++ (Mod.sendTo a.epoch s (a.fl s) tk j).2)) rfl ((unhide OO7).alloc _) ⟨x7.heap.size, 0, none⟩ 1 1 [.string ⟨bts.toArray⟩] rfl rfl cells_new (by intro u hu; simp at hu; subst hu; rfl) (by unfold maxLen; omega) (by omega) (by have := (unhide FF7).size; simp; omega) ?_; intro v' w8 hown' hgrow _; rw [← txts_snoc] at hown'; have hl8 := (fun g hg => (World.ownsRow.lt (unhide OO7) g hg).1); have hf8 := (far_below (E := fun k => u3.ownBlock = some k) ((Below.refl x7.heap.size x7).alloc (Nat.le_refl _) (.cells #[.string ⟨bts.toArray⟩] 9))).trans (far_grown hgrow) (fun _ _ h => h); have HO8 := hide hown'; have HF8 := hide hf8; have HL8 := hide hl8; clear hown' hgrow hf8 hl8)
                    go_roundw
                    case rel =>
                      have hno : ∀ k, RefU p kv hv k → ¬ u3.ownBlock = some k := fun k hk e => by
                        have h1 := (unhide HL8) k e
                        have h2 := (unhide RR0).lt k hk
                        omega
                      refine ⟨j + 1, n2 + 1, by omega, by omega, by go_num, by omega, ?_, (unhide RR7).far (unhide HF8) hno, (unhide FF7).trans (unhide HF8) (fun k hk e => by have h1 := (unhide HL8) k e; omega)⟩
                      rw [unhide HS, ← List.append_assoc, ← unhide HBT]
                      exact unhide HO8
                    case measure => simp [intOf]; omega
            · rw [hcon] at HHL HDUE
              have HS := hide ((unhide HSK) (by rw [unhide HDUE]; simp))
              clear hcon hbody R66
              go_wp2_with (go_at_call 172; refine (unhide HHL).mono ?_; rintro y w1 ⟨rfl, q1, rfl⟩)
              go_roundw
              case rel =>
                refine ⟨j + 1, n2, by omega, by omega, by go_num, by omega, ?_, ?_, (unhide FF).trans (far_below (E := fun _ => False) (below_drewN (Below.refl _ _) _)) (fun _ _ h => h.elim)⟩
                · rw [unhide HS]; exact unhide HO
                · rw [unhide HS]; exact (unhide RR).far (far_below (E := fun _ => False) (below_drewN (Below.refl _ _) _)) (fun _ _ h => h)
              case measure => simp [intOf]; omega
          · have h4e : j = 4 := by omega
            have HS := hide (sendTo_four (e := a.epoch) (s := s) (f := a.fl s) (t := tk) (.inr h4e) (by omega))
            have RR9 := RR
            have FF9 := FF
            have HO9 := HO
            rw [← unhide HS] at RR9 HO9
            rw [← sendFl_succ] at RR9
            clear RR FF HO HHL hk3 hrow
            go_wp2
            go_roundw
            case rel => exact ⟨s + 1, n2, by omega, by go_num, by omega, unhide HO9, unhide RR9, unhide FF9⟩
            case measure => simp [intOf]; omega
        · have HS := hide (sendTo_four (e := a.epoch) (s := s) (f := a.fl s) (t := tk) (i := j) (.inl (by omega)) (by omega))
          have RR9 := RR
          have FF9 := FF
          have HO9 := HO
          rw [← unhide HS] at RR9 HO9
          rw [← sendFl_succ] at RR9
          clear RR FF HO HHL hk3 hrow
          go_wp2
          go_roundw
          case rel => exact ⟨s + 1, n2, by omega, by go_num, by omega, unhide HO9, unhide RR9, unhide FF9⟩
          case measure => simp [intOf]; omega
    · have hs3 : s = 3 := by omega
      subst hs3
      have RR2 := hide R
      have FF2 := hide hF
      have HO2 := hide ho
      clear R hF ho
      go_wp2
      go_ret
      rw [← unhide HTK]
      exact ⟨_, n, rfl, unhide HO2, refStep_of (unhide RR2) (unhide FF2)⟩
end Go.Proofs.YtamafdcnbcoegaaGreat
