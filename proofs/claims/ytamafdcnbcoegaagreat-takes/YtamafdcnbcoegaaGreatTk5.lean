/-
  Part 5 of a proof: Y10, Y11, T1, X15, G1, G2, G3, G4.
-/
import Derived.Test.YtamafdcnbcoegaaGreatTk4
namespace Go.Proofs.YtamafdcnbcoegaaGreat
open Go.RowKit

/-- The bytes of a Fence. -/
def fenceOf (n : Nat) : ByteArray := ⟨(Wire.bytes 5 n 0 0 []).toArray⟩
theorem fence_any (n : Nat) (hn : n ≤ 2147483647) (w : World) :
    Calls Tryz.prog 51 #[.agg #[.int .i64 5, .int .i64 n, .int .i64 0, .int .i64 0, .string ⟨#[]⟩]] w fun r w' => r = .returned (.string (fenceOf n)) ∧ Below w.heap.size w w' :=
  refBytes_any 5 n 0 0 ⟨#[]⟩ w (by simp [Wire.proper, Wire.isNum, ByteArray.size]; omega)

set_option maxRecDepth 100000 in
set_option maxHeartbeats 2000000 in
theorem skDeliver_old {w : World} {p : Nat} {a : Mod.Sk} {r : SRest} {lv : Nat → Value} {hv : Value} (R : SkAt w p a r lv hv) (k : Int) (e : Nat) (st q : Int) (b : ByteArray) (hk : k = 3) (he : e < a.epoch) :
    Calls Tryz.prog 179 #[.pointer (some ⟨p, 0, none⟩), .agg #[.int .i64 k, .int .i64 e, .int .i64 st, .int .i64 q, .string b]] w fun x w' =>
      ∃ v, x = .returned v ∧ w'.ownsRow w.heap.size 9 1 v 1 (strs [fenceOf a.epoch]) ∧ Below w.heap.size w w' := by
  have k1 : (k == 1) = false := by subst hk; rfl
  have k3 : (k == 3) = true := by subst hk; rfl
  have ee : ((e : Int) != (a.epoch : Int)) = true := by simp; omega
  have hepm := R.ep
  have DD := hide (slay_new R k e st q b)
  obtain ⟨i0, hi, hz0, hz1, hz2⟩ := info_parts2 infoStr
  clear R hk
  obtain ⟨ep, hep⟩ : ∃ ep, ep = a.epoch := ⟨_, rfl⟩
  have HEP := hide hep
  rw [← hep] at he hepm ⊢
  clear hep
  go_enter Tryz.func179, Tryz.ntmps179
  go_upto_region 1 with fail
  refine wp_world (fun x => SLay w x p a r lv hv k e st q b) (unhide DD) ?_
  clear DD
  intro x L
  have y0 := blk_cell (i := 0) L.box
  have y1 := blk_cell (i := 1) L.box
  have c0 := blk_cell (i := 0) L.ref.blk
  simp [skCells] at y0 y1 c0
  rw [← unhide HEP] at c0
  have LL := hide L
  clear L
  rw [← unhide HEP] at ee
  have hlt : (e : Int) < ep := by omega
  go_upto_region 14 with fail
  go_quiet (fail)
  go_upto_region 18 with fail
  refine wp_world (fun x => SLay w x p a r lv hv k e st q b) (by first | exact (unhide LL).drew _ | exact ((unhide LL).drew _).drew _ | exact unhide LL) ?_
  clear LL y0 y1 c0
  intro x2 L
  have c0 := blk_cell (i := 0) L.ref.blk
  simp [skCells] at c0
  rw [← unhide HEP] at c0
  have LL := hide L
  clear L
  go_upto_region 19 with (go_at_call 51; refine (fence_any ep (by omega) _).mono ?_; rintro y w5 ⟨rfl, hb5⟩; have L5 := hide ((unhide LL).below hb5); clear hb5)
  refine wp_world (fun x => SLay w x p a r lv hv k e st q b) (unhide L5) ?_
  clear L5 LL c0
  intro x6 L6
  have LL6 := hide L6
  have hz6 := L6.bel.size
  clear L6
  obtain ⟨RES, hRES⟩ : ∃ RES, RES = fenceOf ep := ⟨_, rfl⟩
  rw [← hRES]
  have HRES := hide hRES
  clear hRES
  go_wp2_with (at_builtin; refine wpList_append_own _ rfl (.tmp 106) (.tmp 108) 45 rfl w.heap.size 9 i0 (.string ⟨#[]⟩) 1 16 Tryz.underlying45 hi hz0 hz1 hz2 rfl (by decide) (.slice none 0 0) 0 [] rfl (World.ownsRow_nil _ _ _ _) ⟨x6.heap.size, 0, none⟩ 1 1 (strs [RES]) rfl rfl cells_new (by intro u hu; simp [strs] at hu; subst hu; rfl) (by unfold maxLen; omega) (by omega) (by simp; omega) ?_; intro v' w3 hown' hgrow _; have hb3 := (((Below.refl x6.heap.size x6).alloc (Nat.le_refl _) (.cells (strs [RES]).toArray 9)).trans (below_grown_new (B := x6.heap.size) hgrow (by simp) (fun g hg => by cases hg))); have HO := hide hown'; have BB3 := hide hb3; clear hown' hgrow hb3)
  go_ret
  rw [← unhide HRES]
  exact ⟨_, rfl, by simpa using unhide HO, (unhide LL6).bel.trans ((unhide BB3).mono hz6)⟩

set_option maxRecDepth 100000 in
set_option maxHeartbeats 2000000 in
theorem skDeliver_new {w : World} {p : Nat} {a : Mod.Sk} {r : SRest} {lv : Nat → Value} {hv : Value} (R : SkAt w p a r lv hv) (k : Int) (e : Nat) (st q : Int) (b : ByteArray) (hk : k = 3) (he : a.epoch < e) (hem : e ≤ 2147483647) :
    Calls Tryz.prog 179 #[.pointer (some ⟨p, 0, none⟩), .agg #[.int .i64 k, .int .i64 e, .int .i64 st, .int .i64 q, .string b]] w fun x w' =>
      ∃ v, x = .returned v ∧ w'.ownsRow w.heap.size 9 1 v 1 (strs [fenceOf e]) ∧ Below w.heap.size w w' := by
  have k1 : (k == 1) = false := by subst hk; rfl
  have k3 : (k == 3) = true := by subst hk; rfl
  have ee : ((e : Int) != (a.epoch : Int)) = true := by simp; omega
  have hepm := R.ep
  have DD := hide (slay_new R k e st q b)
  obtain ⟨i0, hi, hz0, hz1, hz2⟩ := info_parts2 infoStr
  clear R hk
  obtain ⟨ep, hep⟩ : ∃ ep, ep = a.epoch := ⟨_, rfl⟩
  have HEP := hide hep
  rw [← hep] at he hepm
  clear hep
  go_enter Tryz.func179, Tryz.ntmps179
  go_upto_region 1 with fail
  refine wp_world (fun x => SLay w x p a r lv hv k e st q b) (unhide DD) ?_
  clear DD
  intro x L
  have y0 := blk_cell (i := 0) L.box
  have y1 := blk_cell (i := 1) L.box
  have c0 := blk_cell (i := 0) L.ref.blk
  simp [skCells] at y0 y1 c0
  rw [← unhide HEP] at c0
  have LL := hide L
  clear L
  rw [← unhide HEP] at ee
  have hlt : ¬ (e : Int) < ep := by omega
  go_upto_region 14 with fail
  go_quiet (fail)
  go_upto_region 18 with fail
  refine wp_world (fun x => SLay w x p a r lv hv k e st q b) (by first | exact (unhide LL).drew _ | exact ((unhide LL).drew _).drew _ | exact unhide LL) ?_
  clear LL y0 y1 c0
  intro x2 L
  have c0 := blk_cell (i := 0) L.ref.blk
  simp [skCells] at c0
  rw [← unhide HEP] at c0
  have LL := hide L
  clear L
  go_upto_region 19 with (go_at_call 51; refine (fence_any e (by omega) _).mono ?_; rintro y w5 ⟨rfl, hb5⟩; have L5 := hide ((unhide LL).below hb5); clear hb5)
  refine wp_world (fun x => SLay w x p a r lv hv k e st q b) (unhide L5) ?_
  clear L5 LL c0
  intro x6 L6
  have LL6 := hide L6
  have hz6 := L6.bel.size
  clear L6
  obtain ⟨RES, hRES⟩ : ∃ RES, RES = fenceOf e := ⟨_, rfl⟩
  rw [← hRES]
  have HRES := hide hRES
  clear hRES
  go_wp2_with (at_builtin; refine wpList_append_own _ rfl (.tmp 106) (.tmp 108) 45 rfl w.heap.size 9 i0 (.string ⟨#[]⟩) 1 16 Tryz.underlying45 hi hz0 hz1 hz2 rfl (by decide) (.slice none 0 0) 0 [] rfl (World.ownsRow_nil _ _ _ _) ⟨x6.heap.size, 0, none⟩ 1 1 (strs [RES]) rfl rfl cells_new (by intro u hu; simp [strs] at hu; subst hu; rfl) (by unfold maxLen; omega) (by omega) (by simp; omega) ?_; intro v' w3 hown' hgrow _; have hb3 := (((Below.refl x6.heap.size x6).alloc (Nat.le_refl _) (.cells (strs [RES]).toArray 9)).trans (below_grown_new (B := x6.heap.size) hgrow (by simp) (fun g hg => by cases hg))); have HO := hide hown'; have BB3 := hide hb3; clear hown' hgrow hb3)
  go_ret
  rw [← unhide HRES]
  exact ⟨_, rfl, by simpa using unhide HO, (unhide LL6).bel.trans ((unhide BB3).mono hz6)⟩

set_option maxRecDepth 100000 in
set_option maxHeartbeats 2000000 in
theorem skDeliver_hello_old {w : World} {p : Nat} {a : Mod.Sk} {r : SRest} {lv : Nat → Value} {hv : Value} (R : SkAt w p a r lv hv) (k : Int) (e : Nat) (st q : Int) (b : ByteArray) (hk : k = 1) (he : e < a.epoch) :
    Calls Tryz.prog 179 #[.pointer (some ⟨p, 0, none⟩), .agg #[.int .i64 k, .int .i64 e, .int .i64 st, .int .i64 q, .string b]] w fun x w' =>
      ∃ v, x = .returned v ∧ w'.ownsRow w.heap.size 9 1 v 1 (strs [fenceOf a.epoch]) ∧ Below w.heap.size w w' := by
  have k1 : (k == 1) = true := by subst hk; rfl
  have hepm := R.ep
  have DD := hide (slay_new R k e st q b)
  obtain ⟨i0, hi, hz0, hz1, hz2⟩ := info_parts2 infoStr
  clear R hk
  obtain ⟨ep, hep⟩ : ∃ ep, ep = a.epoch := ⟨_, rfl⟩
  have HEP := hide hep
  rw [← hep] at he hepm ⊢
  clear hep
  go_enter Tryz.func179, Tryz.ntmps179
  go_upto_region 1 with fail
  refine wp_world (fun x => SLay w x p a r lv hv k e st q b) (unhide DD) ?_
  clear DD
  intro x L
  have y0 := blk_cell (i := 0) L.box
  have y1 := blk_cell (i := 1) L.box
  have c0 := blk_cell (i := 0) L.ref.blk
  simp [skCells] at y0 y1 c0
  rw [← unhide HEP] at c0
  have LL := hide L
  clear L
  have hlt : (e : Int) < ep := by omega
  go_upto_region 4 with fail
  go_quiet (fail)
  go_upto_region 5 with fail
  refine wp_world (fun x => SLay w x p a r lv hv k e st q b) (by first | exact (unhide LL).drew _ | exact ((unhide LL).drew _).drew _ | exact unhide LL) ?_
  clear LL y0 y1 c0
  intro x2 L
  have c0 := blk_cell (i := 0) L.ref.blk
  simp [skCells] at c0
  rw [← unhide HEP] at c0
  have LL := hide L
  clear L
  go_upto_region 6 with (go_at_call 51; refine (fence_any ep (by omega) _).mono ?_; rintro y w5 ⟨rfl, hb5⟩; have L5 := hide ((unhide LL).below hb5); clear hb5)
  refine wp_world (fun x => SLay w x p a r lv hv k e st q b) (unhide L5) ?_
  clear L5 LL c0
  intro x6 L6
  have LL6 := hide L6
  have hz6 := L6.bel.size
  clear L6
  obtain ⟨RES, hRES⟩ : ∃ RES, RES = fenceOf ep := ⟨_, rfl⟩
  rw [← hRES]
  have HRES := hide hRES
  clear hRES
  go_wp2_with (at_builtin; refine wpList_append_own _ rfl (.tmp 29) (.tmp 31) 45 rfl w.heap.size 9 i0 (.string ⟨#[]⟩) 1 16 Tryz.underlying45 hi hz0 hz1 hz2 rfl (by decide) (.slice none 0 0) 0 [] rfl (World.ownsRow_nil _ _ _ _) ⟨x6.heap.size, 0, none⟩ 1 1 (strs [RES]) rfl rfl cells_new (by intro u hu; simp [strs] at hu; subst hu; rfl) (by unfold maxLen; omega) (by omega) (by simp; omega) ?_; intro v' w3 hown' hgrow _; have hb3 := (((Below.refl x6.heap.size x6).alloc (Nat.le_refl _) (.cells (strs [RES]).toArray 9)).trans (below_grown_new (B := x6.heap.size) hgrow (by simp) (fun g hg => by cases hg))); have HO := hide hown'; have BB3 := hide hb3; clear hown' hgrow hb3)
  go_ret
  rw [← unhide HRES]
  exact ⟨_, rfl, by simpa using unhide HO, (unhide LL6).bel.trans ((unhide BB3).mono hz6)⟩
end Go.Proofs.YtamafdcnbcoegaaGreat
namespace Go.Proofs.YtamafdcnbcoegaaGreat
open Go.RowKit

def welB (a : Mod.Sk) : ByteArray := le4S (a.logs 0).length ++ le4S (a.logs 1).length ++ le4S (a.logs 2).length
def skWel (a : Mod.Sk) (e : Nat) : ByteArray := ⟨(Wire.bytes 2 e 0 0 (welB a).data.toList).toArray⟩
/-- What a sink is behind a Hello of no lesser Epoch. -/
def helloHeld (a : Mod.Sk) (e : Nat) : List (Nat × Nat × ByteArray) := if a.epoch < e then [] else a.held
def helloIt (a : Mod.Sk) (e : Nat) : Mod.Sk := { a with epoch := e, held := helloHeld a e }
theorem SkAt.epStep {w : World} {p : Nat} {a : Mod.Sk} {r : SRest} {lv : Nat → Value} {hv : Value} (R : SkAt w p a r lv hv) (e : Nat) (he : e ≤ 2147483647) :
    SkStep w (w.setCell ⟨p, 0, none⟩ (.int .i64 e)) p { a with epoch := e } r lv hv := by
  have hpl : ∀ t, t < 3 → (lv t).ownBlock ≠ some p := fun t ht => (R.logs t ht).ne R.blk (by decide)
  have hph : hv.ownBlock ≠ some p := R.held.ne R.blk (by decide)
  have hset := far_set w p 0 (.int .i64 e)
  refine ⟨lv, hv, ⟨?_, fun s hs => (R.logs s hs).far hset (fun g hg h => hpl s hs (by rw [hg, h])), R.held.far hset (fun g hg h => hph (by rw [hg, h])), R.apl, he, R.ll, R.hl, R.hb⟩, hset.mono (fun k _ h => .inl h), fun k hk => .inl hk⟩
  have := blk_set (j := 0) (v := .int .i64 e) R.blk
  simpa [skCells] using this

theorem wel_data (a b c : Int) : (le4S a ++ le4S b ++ le4S c).data.toList = Wire.le4 a ++ Wire.le4 b ++ Wire.le4 c := by
  simp [ByteArray.data_append, le4S_data]
theorem wel_proper {e n0 n1 n2 : Nat} (he : e ≤ 2147483647) (h0 : n0 ≤ 120) (h1 : n1 ≤ 120) (h2 : n2 ≤ 120) : Wire.proper 2 e 0 0 (le4S n0 ++ le4S n1 ++ le4S n2) = true := by
  have hs : (le4S n0 ++ le4S n1 ++ le4S n2).size = 12 := by simp [ByteArray.size_append, le4S_size]
  have a0 : n0 % 256 = n0 := by omega
  have a1 : n1 % 256 = n1 := by omega
  have a2 : n2 % 256 = n2 := by omega
  simp only [Wire.proper, Wire.welBody, wel_data, hs]
  simp [Wire.isNum, Wire.numAt, Wire.num4, Wire.le4]
  omega

set_option maxRecDepth 100000 in
set_option maxHeartbeats 2000000 in
theorem skDeliver_hello {w : World} {p : Nat} {a : Mod.Sk} {r : SRest} {lv : Nat → Value} {hv : Value} (R : SkAt w p a r lv hv) (k : Int) (e : Nat) (st q : Int) (b : ByteArray) (hk : k = 1) (he : a.epoch ≤ e) (hem : e ≤ 2147483647) :
    Calls Tryz.prog 179 #[.pointer (some ⟨p, 0, none⟩), .agg #[.int .i64 k, .int .i64 e, .int .i64 st, .int .i64 q, .string b]] w fun x w' =>
      ∃ v, x = .returned v ∧ w'.ownsRow w.heap.size 9 1 v 1 (strs [skWel a e]) ∧ SkStep w w' p (helloIt a e) r lv hv := by
  have k1 : (k == 1) = true := by subst hk; rfl
  have hlen := fun s hs => R.len s hs
  have DD := hide (tlay_of (slay_new R k e st q b) R.lt)
  obtain ⟨i0, hi, hz0, hz1, hz2⟩ := info_parts2 infoStr
  have hxz := (R.lt p (.inl rfl))
  clear R hk
  obtain ⟨ep, hep⟩ : ∃ ep, ep = a.epoch := ⟨_, rfl⟩
  have HEP := hide hep
  rw [← hep] at he
  clear hep
  go_enter Tryz.func179, Tryz.ntmps179
  go_upto_region 1 with fail
  refine wp_world (fun x => TLay w p lv hv r k e st q b a lv hv x) (unhide DD) ?_
  clear DD
  intro x L
  have y0 := blk_cell (i := 0) L.box
  have y1 := blk_cell (i := 1) L.box
  have c0 := blk_cell (i := 0) L.ref.blk
  simp [skCells] at y0 y1 c0
  rw [← unhide HEP] at c0
  have LL := hide L
  clear L
  have hlt : ¬ (e : Int) < ep := by omega
  go_upto_region 4 with fail
  go_quiet (fail)
  go_upto_region 7 with fail
  refine wp_world (fun x => TLay w p lv hv r k e st q b a lv hv x) (by first | exact (unhide LL).drew _ | exact ((unhide LL).drew _).drew _ | exact unhide LL) ?_
  clear LL y0 y1 c0
  intro x2 L
  have y1 := blk_cell (i := 1) L.box
  have c0 := blk_cell (i := 0) L.ref.blk
  simp [skCells] at y1 c0
  rw [← unhide HEP] at c0
  have LL := hide L
  clear L
  by_cases hgt : (ep : Int) < e
  focus
    go_quiet (fail)
    go_upto_region 8 with fail
    refine wp_world (fun x => TLay w p lv hv r k e st q b a lv hv x) (by first | exact (unhide LL).drew _ | exact ((unhide LL).drew _).drew _ | exact unhide LL) ?_
    clear LL y1 c0
    intro x3 L
    have c5 := blk_cell (i := 5) L.ref.blk
    have f5 := blk_free (i := 5) L.ref.blk
    simp [skCells] at c5
    have LL := hide L
    clear L
    go_upto_region 9 with fail
    refine wp_world (fun x => ∃ lv1 hv1, TLay w p lv hv r k e st q b { a with held := helloHeld a e } lv1 hv1 x) ?_ ?_
    · rw [helloHeld, if_pos (by rw [← unhide HEP]; omega)]
      exact (unhide LL).step ((unhide LL).ref.heldStep (Far.refl _ x3) (v' := .slice none 0 0) (x := []) (fun g hg => by cases hg) (rowO_nil _ _ _) (by simp) (by simp)).2
    clear LL c5 f5
  rotate_left
  focus
    go_quiet (fail)
    go_upto_region 9 with fail
    refine wp_world (fun x => ∃ lv1 hv1, TLay w p lv hv r k e st q b { a with held := helloHeld a e } lv1 hv1 x) ?_ ?_
    · rw [helloHeld, if_neg (by rw [← unhide HEP]; omega)]
      exact ⟨lv, hv, by first | exact (unhide LL).drew _ | exact ((unhide LL).drew _).drew _ | exact unhide LL⟩
    clear LL y1 c0
  all_goals
    rintro x4 ⟨lv1, hv1, L⟩
    have y1 := blk_cell (i := 1) L.box
    have c0 := blk_cell (i := 0) L.ref.blk
    have f0 := blk_free (i := 0) L.ref.blk
    simp [skCells] at y1 c0
    have LL := hide L
    clear L
    go_upto_region 10 with fail
    refine wp_world (fun x => ∃ lv1 hv1, TLay w p lv hv r k e st q b (helloIt a e) lv1 hv1 x) ((unhide LL).step ((unhide LL).ref.epStep e hem)) ?_
    clear LL y1 c0 f0
    rintro x5 ⟨lv1, hv1, L⟩
    obtain ⟨ad0, cap0, e0, _⟩ := (L.ref.logs 0 (by omega)).shape
    obtain ⟨ad1, cap1, e1, _⟩ := (L.ref.logs 1 (by omega)).shape
    obtain ⟨ad2, cap2, e2, _⟩ := (L.ref.logs 2 (by omega)).shape
    have c2 := blk_cell (i := 2) L.ref.blk
    have c3 := blk_cell (i := 3) L.ref.blk
    have c4 := blk_cell (i := 4) L.ref.blk
    have hpx := lt_of_block L.ref.blk
    have g0 := hlen 0 (by omega)
    have g1 := hlen 1 (by omega)
    have g2 := hlen 2 (by omega)
    simp [skCells] at c2 c3 c4
    rw [e0] at c2
    rw [e1] at c3
    rw [e2] at c4
    have HW : Hid (skWel a e = ⟨(Wire.bytes 2 e 0 0 (le4S (a.logs 0).length ++ le4S (a.logs 1).length ++ le4S (a.logs 2).length).data.toList).toArray⟩) := rfl
    have LL := hide L
    clear L e0 e1 e2
    have E0 : (helloIt a e).logs = a.logs := rfl
    simp only [E0] at c2 c3 c4
    generalize (a.logs 0).length = n0 at *
    generalize (a.logs 1).length = n1 at *
    generalize (a.logs 2).length = n2 at *
    refine wp_region_frame (by kernel_rfl)
      [fun v _ => v = .pointer (some ⟨p, 0, none⟩), fun v _ => v = .pointer (some ⟨p, 0, none⟩), fun v _ => v = .pointer (some ⟨p, 2, none⟩), fun v _ => v = .pointer (some ⟨p, 2, none⟩), fun v _ => v = .slice ad0 n0 cap0, fun v _ => v = .int .i64 n0, fun v _ => v = .string (le4S n0), fun v _ => v = .pointer (some ⟨p, 0, none⟩), fun v _ => v = .pointer (some ⟨p, 0, none⟩), fun v _ => v = .pointer (some ⟨p, 2, none⟩), fun v _ => v = .pointer (some ⟨p, 3, none⟩), fun v _ => v = .slice ad1 n1 cap1, fun v _ => v = .int .i64 n1, fun v _ => v = .string (le4S n1), fun v _ => v = .string (le4S n0 ++ le4S n1), fun v _ => v = .pointer (some ⟨p, 0, none⟩), fun v _ => v = .pointer (some ⟨p, 0, none⟩), fun v _ => v = .pointer (some ⟨p, 2, none⟩), fun v _ => v = .pointer (some ⟨p, 4, none⟩), fun v _ => v = .slice ad2 n2 cap2, fun v _ => v = .int .i64 n2, fun v _ => v = .string (le4S n2), fun v _ => v = .string (le4S n0 ++ le4S n1 ++ le4S n2), fun v _ => v = .string (le4S n0 ++ le4S n1 ++ le4S n2)]
      [[(0, none)], [(48, some 0)], [(49, some 1)], [(50, some 2)], [(51, some 3)], [(52, some 4)], [(53, some 5)], [(0, none)], [(55, some 7)], [(56, some 8)], [(57, some 9)], [(58, some 10)], [(59, some 11)], [(60, some 12)], [(54, some 6), (61, some 13)], [(0, none)], [(63, some 15)], [(64, some 16)], [(65, some 17)], [(66, some 18)], [(67, some 19)], [(68, some 20)], [(62, some 14), (69, some 21)], [(70, some 22)]]
      [some 48, some 49, some 50, some 51, some 52, some 53, some 54, some 55, some 56, some 57, some 58, some 59, some 60, some 61, some 62, some 63, some 64, some 65, some 66, some 67, some 68, some 69, some 70, some 7]
      [false, false, false, false, false, false, false, true, false, false, false, false, false, false, false, false, false, false, false, false, false, false, false, false, false, false, false, false, false, false, false, false, false, false, false, false, false, false, false, false, false, false, false, false, false, false, false, false, true, true, true, true, true, true, true, true, true, true, true, true, true, true, true, true, true, true, true, true, true, true, true, false, false, false, false, false, false, false, false, false, false, false, false, false, false, false, false, false, false, false, false, false, false, false, false, false, false, false, false, false, false, false, false, false, false, false, false, false, false, false, false, false, false, false, false, false, false, false]
      (by kernel_rfl) (by kernel_rfl) (by kernel_rfl) (by kernel_rfl) ?_ ?_ ?_
    · repeat' (first | exact stable_eq _ | exact trivial | apply And.intro)
    · refine ⟨?_, ?_, ?_, ?_, ?_, ?_, ?_, ?_, ?_, ?_, ?_, ?_, ?_, ?_, ?_, ?_, ?_, ?_, ?_, ?_, ?_, ?_, ?_, ?_, trivial⟩
      all_goals
        intro a' x hb hf
        have d2 := (hb.cell (p := ⟨p, 2, none⟩) hpx).trans c2
        have d3 := (hb.cell (p := ⟨p, 3, none⟩) hpx).trans c3
        have d4 := (hb.cell (p := ⟨p, 4, none⟩) hpx).trans c4
        clear hb c2 c3 c4
        simp only [PlanFacts, List.getD_cons_zero, List.getD_cons_succ, Array.getD_eq_getD_getElem?] at hf
        simp at hf
        try go_simp
        try exact Below.refl _ _
      all_goals first
        | (refine (four_any _ _ ?_).mono ?_; (focus omega); rintro r' w1' ⟨rfl, hb1⟩; exact ⟨rfl, hb1⟩)
        | (rw [if_neg (by simp only [le4S_size]; omega)]; go_simp; exact Below.refl _ _)
        | (rw [if_neg (by simp only [ByteArray.size_append, le4S_size]; omega)]; go_simp; exact Below.refl _ _)
    · intro f w2 hb hwd
      simp only [AllWords] at hwd
      have hf7 := hwd.2.2.2.2.2.2.2.2.2.2.2.2.2.2.2.2.2.2.2.2.2.2.2.1
      have L2 := hide ((unhide LL).below hb)
      clear hwd hb LL c2 c3 c4
      simp only [mergeT, hf7]
      clear hf7
      have HP := hide (wel_proper (n0 := n0) (n1 := n1) (n2 := n2) hem g0 g1 g2)
      generalize le4S n0 ++ le4S n1 ++ le4S n2 = S at *
      go_upto_region 11 with fail
      refine wp_world (fun x => TLay w p lv hv r k e st q b (helloIt a e) lv1 hv1 x) (unhide L2) ?_
      clear L2
      intro x6 L6
      have c0 := blk_cell (i := 0) L6.ref.blk
      simp [skCells, helloIt] at c0
      have LL := hide L6
      clear L6
      go_upto_region 12 with (go_at_call 51; refine (refBytes_any 2 e 0 0 S _ (unhide HP)).mono ?_; rintro y w5 ⟨rfl, hb5⟩; have L5 := hide ((unhide LL).below hb5); clear hb5)
      refine wp_world (fun x => TLay w p lv hv r k e st q b (helloIt a e) lv1 hv1 x) (unhide L5) ?_
      clear L5 LL c0
      intro x6 L6
      have LL6 := hide L6
      have hz6 := L6.far.size
      clear L6
      obtain ⟨RES, hRES⟩ : ∃ RES : ByteArray, RES = ⟨(Wire.bytes 2 e 0 0 S.data.toList).toArray⟩ := ⟨_, rfl⟩
      rw [← hRES] at HW ⊢
      have HRES := hide hRES
      clear hRES
      go_wp2_with (at_builtin; refine wpList_append_own _ rfl (.tmp 78) (.tmp 80) 45 rfl w.heap.size 9 i0 (.string ⟨#[]⟩) 1 16 Tryz.underlying45 hi hz0 hz1 hz2 rfl (by decide) (.slice none 0 0) 0 [] rfl (World.ownsRow_nil _ _ _ _) ⟨x6.heap.size, 0, none⟩ 1 1 (strs [RES]) rfl rfl cells_new (by intro u hu; simp [strs] at hu; subst hu; rfl) (by unfold maxLen; omega) (by omega) (by simp; omega) ?_; intro v' w3 hown' hgrow _; have hb3 := (((Below.refl x6.heap.size x6).alloc (Nat.le_refl _) (.cells (strs [RES]).toArray 9)).trans (below_grown_new (B := x6.heap.size) hgrow (by simp) (fun g hg => by cases hg))); have HO := hide hown'; have BB3 := hide hb3; clear hown' hgrow hb3)
      go_ret
      rw [unhide HW]
      exact ⟨_, rfl, by simpa using unhide HO, ((unhide LL6).below (unhide BB3)).done⟩
end Go.Proofs.YtamafdcnbcoegaaGreat
namespace Go.Proofs.YtamafdcnbcoegaaGreat
open Go.RowKit

/-- What a frame does to a sink, and what is answered. -/
def skReply (a : Mod.Sk) (k e : Int) (s q : Nat) (b : ByteArray) : Mod.Sk × List ByteArray :=
  if k = 1 then (if e < a.epoch then (a, [fenceOf a.epoch]) else (helloIt a e.toNat, [skWel a e.toNat]))
  else if k = 3 then (if e = a.epoch then (skAfter a k e s q b, [skAck a k e s q b]) else (a, [fenceOf (max e.toNat a.epoch)]))
  else (a, [])

/-- What is always so of a sink. -/
structure SkGood (a : Mod.Sk) : Prop where
  held : ∀ h ∈ a.held, h.1 < 3 ∧ (a.logs h.1).length + 1 ≤ h.2.1 ∧ h.2.1 ≤ (a.logs h.1).length + 4
  once : (a.held.map fun h => (h.1, h.2.1)).Nodup
  room : a.count ≤ 120
  ep : a.epoch ≤ 2147483647

theorem nodup_lt : ∀ (n : Nat) (l : List Nat), l.Nodup → (∀ x ∈ l, x < n) → l.length ≤ n
  | 0, [], _, _ => Nat.le_refl _
  | 0, x :: l, _, h => by have := h x (.head _); omega
  | n + 1, l, hn, h => by
    by_cases hm : n ∈ l
    · have h1 := List.length_erase_of_mem hm
      have h2 := nodup_lt n (l.erase n) (hn.erase n) (fun x hx => by
        have h3 := (hn.mem_erase_iff).1 hx
        have := h x h3.2
        have := h3.1
        omega)
      omega
    · have := nodup_lt n l hn (fun x hx => by
        have := h x hx
        have : x ≠ n := fun e => hm (e ▸ hx)
        omega)
      omega
theorem count_len {a : Mod.Sk} {s : Nat} (hs : s < 3) : (a.logs s).length ≤ a.count := by
  obtain rfl | rfl | rfl : s = 0 ∨ s = 1 ∨ s = 2 := by omega
  all_goals
    unfold Mod.Sk.count
    omega
theorem SkGood.small {a : Mod.Sk} (G : SkGood a) : a.held.length ≤ 12 := by
  have h1 : (a.held.map fun h => h.1 * 4 + (h.2.1 - (a.logs h.1).length - 1)).Nodup := by
    have := G.once
    rw [List.Nodup, List.pairwise_map] at this ⊢
    refine this.imp_of_mem (fun {x y} hx hy hne e => hne ?_)
    have gx := G.held x hx
    have gy := G.held y hy
    have e1 : x.1 = y.1 := by omega
    rw [e1] at e gx
    exact Prod.ext e1 (by simp only; omega)
  have h2 := nodup_lt 12 _ h1 (fun n hn => by
    obtain ⟨h, hh, rfl⟩ := List.mem_map.1 hn
    have := G.held h hh
    omega)
  simpa using h2
theorem ixFrom_no {st q : Nat} : ∀ {l : List (Nat × Nat × ByteArray)} {i : Nat}, Mod.ixFrom st q i l = none → ∀ h ∈ l, ¬ (h.1 = st ∧ h.2.1 = q)
  | [], _, _, h, hh => by cases hh
  | x :: l, i, hn, h, hh => by
    rw [Mod.ixFrom] at hn
    split at hn
    · cases hn
    · rename_i hx
      cases hh with
      | head => exact hx
      | tail _ hh => exact ixFrom_no hn h hh
theorem skGood_new : SkGood { epoch := 0, logs := fun _ => [], held := [] } := ⟨by simp, by simp, by simp [Mod.Sk.count], by simp⟩
theorem skGood_hold {a : Mod.Sk} (G : SkGood a) (s q : Nat) (b : ByteArray) (hs : s < 3) : SkGood (holdIt a s q b) := by
  unfold holdIt
  split
  · rename_i h
    obtain ⟨h1, h2, h3⟩ := h
    refine ⟨fun x hx => ?_, ?_, G.room, G.ep⟩
    · simp only [List.mem_append, List.mem_singleton] at hx
      rcases hx with hx | rfl
      · exact G.held x hx
      · exact ⟨hs, by show (a.logs s).length + 1 ≤ q; omega, h2⟩
    · simp only [List.map_append, List.map_cons, List.map_nil]
      rw [List.nodup_append]
      refine ⟨G.once, by simp, ?_⟩
      rintro x hx y hy rfl
      simp only [List.mem_singleton] at hy
      obtain ⟨h, hh, rfl⟩ := List.mem_map.1 hx
      exact ixFrom_no h3 h hh ⟨congrArg Prod.fst hy, congrArg Prod.snd hy⟩
  · exact G
theorem skGood_take {a : Mod.Sk} (G : SkGood a) (s : Nat) (got : List ByteArray) (hs : s < 3) (hr : a.count + got.length ≤ 120) : SkGood (takeIt a s got) := by
  have hlog : ∀ t, ((takeIt a s got).logs t).length = if t = s then (a.logs s).length + got.length else (a.logs t).length := by
    intro t
    show ((grown a s got).logs t).length = _
    unfold grown
    by_cases h : t = s
    · simp [h]
    · simp [h]
  refine ⟨fun h hh => ?_, ?_, ?_, G.ep⟩
  · have hh' : h ∈ a.held.filter (Mod.keeps s (a.logs s ++ got).length) := hh
    obtain ⟨h1, h2⟩ := List.mem_filter.1 hh'
    obtain ⟨g1, g2, g3⟩ := G.held h h1
    rw [hlog]
    refine ⟨g1, ?_⟩
    by_cases e : h.1 = s
    · rw [if_pos e]
      unfold Mod.keeps at h2
      rw [e] at g2 g3
      simp [e] at h2
      omega
    · rw [if_neg e]
      exact ⟨g2, g3⟩
  · exact G.once.sublist ((List.filter_sublist (p := Mod.keeps s (a.logs s ++ got).length) (l := a.held)).map _)
  · have : (takeIt a s got).count = (grown a s got).count := rfl
    rw [this, grown_count a s hs got]
    exact hr
theorem skGood_hello {a : Mod.Sk} (G : SkGood a) (e : Nat) (he : e ≤ 2147483647) : SkGood (helloIt a e) := by
  unfold helloIt helloHeld
  split
  · exact ⟨by simp, by simp, G.room, he⟩
  · exact ⟨G.held, G.once, G.room, he⟩
theorem skGood_reply {a : Mod.Sk} (G : SkGood a) (k e : Int) (s q : Nat) (b : ByteArray) (hs : s < 3) (he : e ≤ 2147483647) : SkGood (skReply a k e s q b).1 := by
  unfold skReply
  split
  · split
    · exact G
    · exact skGood_hello G _ (by omega)
  · split
    · split
      · show SkGood (skAfter a k e s q b)
        unfold skAfter
        split
        · exact skGood_hold G s q b hs
        · exact skGood_take G s _ hs (commits_room k e s q b G.room)
      · exact G
    · exact G

/-- The document's sink, at any frame. -/
theorem skDeliver_any {w : World} {p : Nat} {a : Mod.Sk} {r : SRest} {lv : Nat → Value} {hv : Value} (R : SkAt w p a r lv hv) (G : SkGood a) (k e : Int) (s q : Nat) (b : ByteArray) (he0 : 0 ≤ e) (he : e ≤ 2147483647) (hs : s < 3) (hq : q ≤ 2147483647) :
    Calls Tryz.prog 179 #[.pointer (some ⟨p, 0, none⟩), .agg #[.int .i64 k, .int .i64 e, .int .i64 s, .int .i64 q, .string b]] w fun x w' =>
      ∃ v, x = .returned v ∧ w'.ownsRow w.heap.size 9 1 v (skReply a k e s q b).2.length (strs (skReply a k e s q b).2) ∧ SkStep w w' p (skReply a k e s q b).1 r lv hv := by
  have hroom : a.held.length < 1000 := by have := G.small; omega
  obtain ⟨en, rfl⟩ := Int.eq_ofNat_of_zero_le he0
  have hstep : ∀ {w' : World}, Below w.heap.size w w' → SkStep w w' p a r lv hv := fun {w'} hb =>
    ⟨lv, hv, R.far (far_below (E := fun _ => False) hb) (fun _ _ h => h), far_below hb, fun k hk => .inl hk⟩
  have hen : ((en : Int)).toNat = en := by omega
  unfold skReply
  by_cases k1 : k = 1
  · rw [if_pos k1]
    by_cases h : (en : Int) < a.epoch
    · rw [if_pos h]
      refine (skDeliver_hello_old R k en s q b k1 (by omega)).mono ?_
      rintro x w' ⟨v, rfl, ho, hb⟩
      exact ⟨v, rfl, ho, hstep hb⟩
    · rw [if_neg h]
      exact skDeliver_hello R k en s q b k1 (by omega) (by omega)
  · rw [if_neg k1]
    by_cases k3 : k = 3
    · rw [if_pos k3]
      by_cases h : (en : Int) = a.epoch
      · rw [if_pos h]
        exact skDeliver_data R k _ s q b k3 h hs hq hroom
      · rw [if_neg h]
        have hne : en ≠ a.epoch := fun e => h (by rw [e])
        by_cases hlt : en < a.epoch
        · refine (skDeliver_old R k en s q b k3 hlt).mono ?_
          rintro x w' ⟨v, rfl, ho, hb⟩
          have e1 : max (en : Int).toNat a.epoch = a.epoch := by rw [hen]; omega
          exact ⟨v, rfl, by rw [e1]; exact ho, hstep hb⟩
        · refine (skDeliver_new R k en s q b k3 (by omega) (by omega)).mono ?_
          rintro x w' ⟨v, rfl, ho, hb⟩
          have e1 : max (en : Int).toNat a.epoch = en := by rw [hen]; omega
          exact ⟨v, rfl, by rw [e1]; exact ho, hstep hb⟩
    · rw [if_neg k3]
      refine (skDeliver_other R k _ s q b k1 k3).mono ?_
      rintro x w' ⟨rfl, hb⟩
      exact ⟨_, rfl, World.ownsRow_nil _ _ _ _, hstep hb⟩
end Go.Proofs.YtamafdcnbcoegaaGreat
namespace Go.Proofs.YtamafdcnbcoegaaGreat
open Go.RowKit

/-- A list of bytes as a list of texts. -/
def txts (l : List (List UInt8)) : List Value := l.map fun x => .string ⟨x.toArray⟩
theorem txts_length (l : List (List UInt8)) : (txts l).length = l.length := by simp [txts]

end Go.Proofs.YtamafdcnbcoegaaGreat
namespace Go.Proofs.YtamafdcnbcoegaaGreat
open Go.RowKit

theorem stable_nb (B : Nat) (l : List UInt8) : Stable (fun v w => NewBytes B w v l) := by
  intro v w w' h hb
  exact h.keep (fun g O hg _ _ => (hb.block g (lt_of_block hg)).trans hg)
/-- The first k places are marked. -/
def mkL (k : Nat) (xs : List Value) (u : Value) : List Value := List.replicate k u ++ xs.drop k
theorem mkL_zero (xs : List Value) (u : Value) : mkL 0 xs u = xs := by simp [mkL]
theorem mkL_all (xs : List Value) (u : Value) : mkL xs.length xs u = List.replicate xs.length u := by simp [mkL]
theorem mkL_set {k : Nat} {xs : List Value} (u : Value) (h : k < xs.length) : (mkL k xs u).set k u = mkL (k + 1) xs u := by
  unfold mkL
  rw [List.set_append_right _ _ (by simp), List.length_replicate, Nat.sub_self, List.drop_eq_getElem_cons h, List.set_cons_zero, List.replicate_succ', List.append_assoc]
  rfl
theorem mkL_get {k : Nat} {xs : List Value} (u : Value) (h : k < xs.length) : (mkL k xs u)[k]? = some xs[k] := by
  unfold mkL
  rw [List.getElem?_append_right (by simp), List.length_replicate, Nat.sub_self, List.getElem?_drop, Nat.add_zero, List.getElem?_eq_getElem h]
/-- A store into a row of the call's own. -/
theorem own_stored {w : World} {e : TypeId} {g n cap i : Nat} {xs : List Value} (h : w.ownsRow 0 e 1 (.slice (some ⟨g, 0, none⟩) n cap) n xs) (u : Value) :
    (w.setCell ⟨g, i, none⟩ u).ownsRow 0 e 1 (.slice (some ⟨g, 0, none⟩) n cap) n (xs.set i u) ∧ Far (fun k => (Value.slice (some ⟨g, 0, none⟩) n cap).ownBlock = some k) w (w.setCell ⟨g, i, none⟩ u) := by
  obtain ⟨h1, h2⟩ := World.ownsRow.stored h i u
  exact ⟨h1, far_grown h2⟩

set_option maxRecDepth 100000 in
set_option maxHeartbeats 4000000 in
theorem marksAll_any (p : Nat) (w : World) (tv bk fv : Value) (ts fs : List Value) (l : List UInt8) (m : Int) (t want : ByteArray)
    (hblk : w.heap[p]? = some (.cells #[tv, bk, fv, .int .i64 m, .string t, .string want] 110 (0, 0)))
    (ht : w.ownsRow 0 9 1 tv ts.length ts) (hbb : w.ownsRow 0 5 1 bk l.length (bv l)) (hff : w.ownsRow 0 44 1 fv fs.length fs)
    (z1 : ts.length ≤ 140737488354000) (z2 : l.length ≤ 140737488354000) (z3 : fs.length ≤ 140737488354000) (z4 : t.size ≤ 3) :
    Calls Tryz.prog 115 #[.pointer (some ⟨p, 0, none⟩)] w fun r w' => r = .returned (.tuple #[]) ∧ ∃ (l2 : List UInt8) (fs2 : List Value), l2.length = l.length ∧ fs2.length = fs.length ∧
      w'.ownsRow 0 9 1 tv ts.length (List.replicate ts.length (.string t)) ∧ w'.ownsRow 0 5 1 bk l.length (bv l2) ∧ w'.ownsRow 0 44 1 fv fs.length fs2 ∧ (∀ f ∈ fs2, NewBytes w.heap.size w' f t.data.toList) ∧
      Far (fun k => tv.ownBlock = some k ∨ bk.ownBlock = some k ∨ fv.ownBlock = some k) w w' := by
  have hpt : tv.ownBlock ≠ some p := own_ne ht hblk (by decide)
  have hpb : bk.ownBlock ≠ some p := own_ne hbb hblk (by decide)
  have hpf : fv.ownBlock ≠ some p := own_ne hff hblk (by decide)
  obtain ⟨ta, tc, htv, ht1, ht2, ht3⟩ := Row.shape (A := fun _ => True) ⟨ht, fun _ _ => trivial⟩
  obtain ⟨nt, hnt⟩ : ∃ nt, nt = ts.length := ⟨_, rfl⟩
  obtain ⟨nf, hnf⟩ : ∃ nf, nf = fs.length := ⟨_, rfl⟩
  rw [← hnt] at htv ht ht1 z1 ⊢
  rw [← hnf] at hff z3 ⊢
  subst htv
  have c0 := blk_cell (i := 0) hblk
  simp at c0
  have hpl := lt_of_block hblk
  have HB := hide hblk
  have HT := hide ht
  have HBB := hide hbb
  have HFF := hide hff
  have HT3 := hide ht3
  have HNT := hide hnt
  have HNF := hide hnf
  have HPT := hide hpt
  have HPB := hide hpb
  have HPF := hide hpf
  have n1 : nt ≤ 9223372036854775807 := by omega
  clear hblk ht hbb hff ht3 hnt hnf hpt hpb hpf c0
  go_enter Tryz.func115, Tryz.ntmps115
  go_wp2
  go_loopw [2] (fun i wr => ∃ k : Nat, k ≤ nt ∧ i = .int .i64 k ∧ wr.ownsRow 0 9 1 (.slice ta nt tc) nt (mkL k ts (.string t)) ∧ Far (fun k => (Value.slice ta nt tc).ownBlock = some k) w wr) (fun i _ => nt - (intOf i).toNat)
  case atStart => exact ⟨0, by omega, rfl, by rw [mkL_zero]; exact unhide HT, Far.refl _ _⟩
  case round =>
    obtain ⟨k, hk, rfl, ho, hF⟩ := hrel
    have hbp := hF.blk (unhide HB) (unhide HPT)
    have c0 := blk_cell (i := 0) hbp
    have c4 := blk_cell (i := 4) hbp
    simp at c0 c4
    have hpl2 := lt_of_block hbp
    have HBP := hide hbp
    clear hbp
    by_cases hlt : k < nt
    · have hlk : k < ts.length := by have := unhide HNT; omega
      obtain ⟨g, rfl, _, _⟩ := (unhide HT3) (by have := unhide HNT; omega)
      have hz0 := World.ownsRow.cellAt ho k (by omega)
      rw [mkL_get _ hlk] at hz0
      have hf0 := World.ownsRow.frozenAt ho k
      have hgl := (World.ownsRow.lt ho g rfl).2
      have HO := hide ho
      have HF := hide hF
      clear ho hF
      generalize ts[k] = old at hz0
      go_wp2
      refine wp_region_last (by kernel_rfl)
        [fun v _ => v = .pointer (some ⟨p, 0, none⟩), fun v _ => v = .pointer (some ⟨p, 0, none⟩), fun v _ => v = .pointer (some ⟨p, 0, none⟩), fun v _ => v = .slice (some ⟨g, 0, none⟩) nt tc, fun v _ => v = .int .i64 k, fun v _ => v = .pointer (some ⟨p, 0, none⟩), fun v _ => v = .pointer (some ⟨p, 0, none⟩), fun v _ => v = .pointer (some ⟨p, 4, none⟩), fun v _ => v = .string t, fun v _ => v = .pointer (some ⟨g, k, none⟩), fun _ _ => True]
        [[(0, none)], [(14, some 0)], [(15, some 1)], [(16, some 2)], [(2, none)], [(0, none)], [(19, some 5)], [(20, some 6)], [(21, some 7)], [(17, some 3), (18, some 4)], [(23, some 9), (22, some 8)]]
        [some 14, some 15, some 16, some 17, some 18, some 19, some 20, some 21, some 22, some 23, none]
        [false, false, false, false, false, false, false, false, false, false, false, false, false, false, true, true, true, true, true, true, true, true, true, true, false, false, false, false, false, false, false, false, false, false, false, false, false, false, false, false, false, false, false, false, false, false, false, false, false, false, false, false, false, false, false, false, false, false, false, false, false, false, false, false, false]
        10 _ rfl rfl (by kernel_rfl) (by kernel_rfl) (by kernel_rfl) (by kernel_rfl) (by kernel_rfl) (by kernel_rfl) ?_ ?_ ?_
      · repeat' (first | exact stable_eq _ | exact stable_nb _ _ | exact stable_true | exact trivial | apply And.intro)
      · refine ⟨?_, ?_, ?_, ?_, ?_, ?_, ?_, ?_, ?_, ?_, trivial⟩
        all_goals
          intro b x hb hf
          have y0 := (hb.cell (p := ⟨p, 0, none⟩) hpl2).trans c0
          have y4 := (hb.cell (p := ⟨p, 4, none⟩) hpl2).trans c4
          have hzx := hb.size
          clear hb
          simp only [PlanFacts, List.getD_cons_zero, List.getD_cons_succ, Array.getD_eq_getD_getElem?] at hf
          try simp at hf
          try go_simp
          try exact Below.refl _ _
        all_goals first
          | exact ⟨rfl, Below.refl _ _⟩

      · intro f5 x5 hb hwd
        simp only [AllWords, List.take] at hwd
        obtain ⟨_, _, _, _, _, _, _, _, hf22, hf23, _⟩ := hwd
        have y0 := (hb.cell (p := ⟨g, k, none⟩) hgl).trans hz0
        have yf := (hb.frozen (p := ⟨g, k, none⟩) hgl).trans hf0
        have HF5 : Far (fun k => (Value.slice (some ⟨g, 0, none⟩) nt tc).ownBlock = some k) wr x5 := far_below hb
        have O5 := ownsRow_keep (w' := x5) (unhide HO) (fun g' hg' => hb.block g' (World.ownsRow.lt (unhide HO) g' hg').2)
        obtain ⟨O6, F6⟩ := own_stored (i := k) O5 (.string t)
        rw [mkL_set _ hlk] at O6
        have HO6 := hide O6
        have HF6 := hide (((unhide HF).trans HF5 (fun _ _ h => h)).trans F6 (fun _ _ h => h))
        clear hb HF5 O5 O6 F6 c0 c4 hz0 hf0
        simp only [mergeT, hf22, hf23]
        go_simp
        go_wp2
        go_roundw
        case rel => exact ⟨k + 1, by omega, by go_num, unhide HO6, unhide HF6⟩
        case measure => simp [intOf]; omega
    · have hkn : nt = k := by omega
      subst hkn
      rw [unhide HNT, mkL_all, ← unhide HNT] at ho
      have HO := hide ho
      have HF := hide hF
      have hbl := hF.own (unhide HBB) (fun g hg e => own_ty (unhide HBB) (unhide HT) (by decide) hg e)
      have HBL := hide hbl
      clear ho hF hbl
      obtain ⟨ba, bc, hbv, hb1, hb2, hb3⟩ := Row.shape (A := fun _ => True) ⟨by have := unhide HBB; rw [← bv_length l] at this; exact this, fun _ _ => trivial⟩
      rw [bv_length] at hbv hb1
      have HB3 := hide hb3
      have HBV := hide hbv
      have n2 : l.length ≤ 9223372036854775807 := by omega
      clear hb3 hbv
      rw [unhide HBV] at HBL HPB HBB
      go_wp2
      go_loopw [3] (fun i wr => ∃ (k : Nat) (l2 : List UInt8), k ≤ l.length ∧ i = .int .i64 k ∧ l2.length = l.length ∧ wr.ownsRow 0 5 1 (.slice ba l.length bc) l.length (bv l2) ∧ wr.ownsRow 0 9 1 (.slice ta nt tc) nt (List.replicate nt (.string t)) ∧ Far (fun k => (Value.slice ta nt tc).ownBlock = some k ∨ (Value.slice ba l.length bc).ownBlock = some k) w wr) (fun i _ => l.length - (intOf i).toNat)
      case atStart => exact ⟨0, l, by omega, rfl, rfl, unhide HBL, unhide HO, (unhide HF).mono (fun _ _ h => .inl h)⟩
      case round =>
        obtain ⟨k, l2, hk, rfl, hl2, ho, hot, hF⟩ := hrel
        clear HBL HO HF HBP
        have hbp := hF.blk (unhide HB) (fun e => e.elim (unhide HPT) (unhide HPB))
        rw [unhide HBV] at hbp
        have c1 := blk_cell (i := 1) hbp
        have c3 := blk_cell (i := 3) hbp
        simp at c1 c3
        have hpl2 := lt_of_block hbp
        have HBP := hide hbp
        have HL2 := hide hl2
        clear hbp hl2
        by_cases hlt : k < l.length
        · obtain ⟨g, rfl, _, _⟩ := (unhide HB3) (by rw [bv_length]; omega)
          have hz0 := World.ownsRow.cellAt ho k (by omega)
          rw [bv_get (by have := unhide HL2; omega)] at hz0
          have hf0 := World.ownsRow.frozenAt ho k
          have hgl := (World.ownsRow.lt ho g rfl).2
          have hgt : Hid (∀ g', (Value.slice ta nt tc).ownBlock = some g' → ¬ (Value.slice (some ⟨g, 0, none⟩) l.length bc).ownBlock = some g') := fun g' hg' e => own_ty hot ho (by decide) hg' e
          have HO := hide ho
          have HOT := hide hot
          have HF := hide hF
          clear ho hF hot
          generalize ((l2.getD k 0).toNat : Int) = old at hz0
          have hsb := signV_range m k
          have hkk : (k : Int) < 9223372036854775808 := by omega
          go_wp2
          refine wp_region_last (by kernel_rfl)
            [fun v _ => v = .pointer (some ⟨p, 0, none⟩), fun v _ => v = .pointer (some ⟨p, 0, none⟩), fun v _ => v = .pointer (some ⟨p, 1, none⟩), fun v _ => v = .slice (some ⟨g, 0, none⟩) l.length bc, fun v _ => v = .int .i64 k, fun v _ => v = .pointer (some ⟨p, 0, none⟩), fun v _ => v = .pointer (some ⟨p, 0, none⟩), fun v _ => v = .pointer (some ⟨p, 3, none⟩), fun v _ => v = .int .i64 m, fun v _ => v = .int .i64 k, fun v _ => v = .int .u8 (signV m k), fun v _ => v = .pointer (some ⟨g, k, none⟩), fun _ _ => True]
            [[(0, none)], [(33, some 0)], [(34, some 1)], [(35, some 2)], [(3, none)], [(0, none)], [(38, some 5)], [(39, some 6)], [(40, some 7)], [(3, none)], [(41, some 8), (42, some 9)], [(36, some 3), (37, some 4)], [(44, some 11), (43, some 10)]]
            [some 33, some 34, some 35, some 36, some 37, some 38, some 39, some 40, some 41, some 42, some 43, some 44, none]
            [false, false, false, false, false, false, false, false, false, false, false, false, false, false, false, false, false, false, false, false, false, false, false, false, false, false, false, false, false, false, false, false, false, true, true, true, true, true, true, true, true, true, true, true, true, false, false, false, false, false, false, false, false, false, false, false, false, false, false, false, false, false, false, false, false]
            12 _ rfl rfl (by kernel_rfl) (by kernel_rfl) (by kernel_rfl) (by kernel_rfl) (by kernel_rfl) (by kernel_rfl) ?_ ?_ ?_
          · repeat' (first | exact stable_eq _ | exact stable_nb _ _ | exact stable_true | exact trivial | apply And.intro)
          · refine ⟨?_, ?_, ?_, ?_, ?_, ?_, ?_, ?_, ?_, ?_, ?_, ?_, trivial⟩
            all_goals
              intro b x hb hf
              have y1 := (hb.cell (p := ⟨p, 1, none⟩) hpl2).trans c1
              have y3 := (hb.cell (p := ⟨p, 3, none⟩) hpl2).trans c3
              have hzx := hb.size
              clear hb
              simp only [PlanFacts, List.getD_cons_zero, List.getD_cons_succ, Array.getD_eq_getD_getElem?] at hf
              try simp at hf
              try go_simp
              try exact Below.refl _ _
            all_goals first
              | exact ⟨rfl, Below.refl _ _⟩
              | (refine (sign_any _ _ _).mono ?_; rintro r w1 ⟨rfl, rfl⟩; exact ⟨rfl, Below.refl _ _⟩)
          · intro f5 x5 hb hwd
            simp only [AllWords, List.take] at hwd
            obtain ⟨_, _, _, _, _, _, _, _, _, _, hf43, hf44, _⟩ := hwd
            have y0 := (hb.cell (p := ⟨g, k, none⟩) hgl).trans hz0
            have yf := (hb.frozen (p := ⟨g, k, none⟩) hgl).trans hf0
            have HF5 : Far (fun _ => False) wr x5 := far_below hb
            have O5 := ownsRow_keep (w' := x5) (unhide HO) (fun g' hg' => hb.block g' (World.ownsRow.lt (unhide HO) g' hg').2)
            have T5 := ownsRow_keep (w' := x5) (unhide HOT) (fun g' hg' => hb.block g' (World.ownsRow.lt (unhide HOT) g' hg').2)
            obtain ⟨O6, F6⟩ := own_stored (i := k) O5 (.int .u8 (signV m k))
            rw [← bv_set _ _ _ hsb.1 hsb.2] at O6
            have T6 := F6.own T5 (fun g' hg' => (unhide hgt) g' hg')
            have HO6 := hide O6
            have HT6 := hide T6
            have HF6 := hide (((unhide HF).trans HF5 (fun _ _ h => h.elim)).trans F6 (fun _ _ h => .inr h))
            clear hb HF5 O5 T5 O6 T6 F6 c1 c3 hz0 hf0
            simp only [mergeT, hf43, hf44]
            go_simp
            go_wp2
            go_roundw
            case rel => exact ⟨k + 1, _, by omega, by go_num, by have := unhide HL2; simp; omega, unhide HO6, unhide HT6, unhide HF6⟩
            case measure => simp [intOf]; omega
        · have HO := hide ho
          have HOT := hide hot
          have HF := hide hF
          have hfl := hF.own (unhide HFF) (fun g hg e => e.elim (fun e => own_ty (unhide HFF) (unhide HT) (by decide) hg e) (fun e => own_ty (unhide HFF) (unhide HBB) (by decide) hg e))
          have HFL := hide hfl
          clear ho hF hot hfl
          obtain ⟨fa, fc, hfv, hf1, hf2, hf3⟩ := Row.shape (A := fun _ => True) (show Row (fun _ => True) w 44 fv fs from ⟨by have := unhide HFF; rw [unhide HNF] at this; exact this, fun _ _ => trivial⟩)
          rw [← unhide HNF] at hfv hf1 hf3
          have HF3 := hide hf3
          have HFV := hide hfv
          have n3 : nf ≤ 9223372036854775807 := by omega
          clear hf3 hfv
          rw [unhide HFV] at HFL HPF HFF
          go_wp2
          go_loopw [4] (fun i wr => ∃ (k : Nat) (fs2 : List Value), k ≤ nf ∧ i = .int .i64 k ∧ fs2.length = nf ∧ (∀ j (hj : j < fs2.length), j < k → NewBytes w.heap.size wr fs2[j] t.data.toList) ∧ wr.ownsRow 0 44 1 (.slice fa nf fc) nf fs2 ∧ (∃ l2 : List UInt8, l2.length = l.length ∧ wr.ownsRow 0 5 1 (.slice ba l.length bc) l.length (bv l2)) ∧ wr.ownsRow 0 9 1 (.slice ta nt tc) nt (List.replicate nt (.string t)) ∧ Far (fun k => (Value.slice ta nt tc).ownBlock = some k ∨ (Value.slice ba l.length bc).ownBlock = some k ∨ (Value.slice fa nf fc).ownBlock = some k) w wr) (fun i _ => nf - (intOf i).toNat)
          case atStart => exact ⟨0, fs, by omega, rfl, (unhide HNF).symm, fun j hj h => absurd h (by omega), unhide HFL, ⟨l2, unhide HL2, unhide HO⟩, unhide HOT, (unhide HF).mono (fun _ _ h => h.elim .inl (fun h => .inr (.inl h)))⟩
          case round =>
            obtain ⟨k, fs2, hk, rfl, hfs2, hnb, ho, hob, hot, hF⟩ := hrel
            clear HFL HO HOT HF HBP
            have hbp := hF.blk (unhide HB) (fun e => e.elim (unhide HPT) (fun e => e.elim (unhide HPB) (unhide HPF)))
            rw [unhide HFV] at hbp
            have c2 := blk_cell (i := 2) hbp
            have c4 := blk_cell (i := 4) hbp
            simp at c2 c4
            have hpl2 := lt_of_block hbp
            have HFS := hide hfs2
            have HNB := hide hnb
            clear hbp hfs2 hnb
            by_cases hlt : k < nf
            · obtain ⟨g, rfl, _, _⟩ := (unhide HF3) (by omega)
              have hlk : k < fs2.length := by have := unhide HFS; omega
              have hz0 := World.ownsRow.cellAt ho k (by omega)
              rw [List.getElem?_eq_getElem hlk] at hz0
              have hf0 := World.ownsRow.frozenAt ho k
              have hgl := (World.ownsRow.lt ho g rfl).2
              have hgw : Hid (g < w.heap.size) := (World.ownsRow.lt (unhide HFF) g rfl).2
              have HO := hide ho
              have HOB := hide hob
              have HOT := hide hot
              have HF := hide hF
              clear ho hF hot hob
              generalize fs2[k] = old at hz0
              go_wp2
              refine wp_region_last (by kernel_rfl)
                [fun v _ => v = .pointer (some ⟨p, 0, none⟩), fun v _ => v = .pointer (some ⟨p, 0, none⟩), fun v _ => v = .pointer (some ⟨p, 2, none⟩), fun v _ => v = .slice (some ⟨g, 0, none⟩) nf fc, fun v _ => v = .int .i64 k, fun v _ => v = .pointer (some ⟨p, 0, none⟩), fun v _ => v = .pointer (some ⟨p, 0, none⟩), fun v _ => v = .pointer (some ⟨p, 4, none⟩), fun v _ => v = .string t, fun v x => NewBytes wr.heap.size x v t.data.toList, fun v _ => v = .pointer (some ⟨g, k, none⟩), fun _ _ => True]
                [[(0, none)], [(54, some 0)], [(55, some 1)], [(56, some 2)], [(4, none)], [(0, none)], [(59, some 5)], [(60, some 6)], [(61, some 7)], [(62, some 8)], [(57, some 3), (58, some 4)], [(64, some 10), (63, some 9)]]
                [some 54, some 55, some 56, some 57, some 58, some 59, some 60, some 61, some 62, some 63, some 64, none]
                [false, false, false, false, false, false, false, false, false, false, false, false, false, false, false, false, false, false, false, false, false, false, false, false, false, false, false, false, false, false, false, false, false, false, false, false, false, false, false, false, false, false, false, false, false, false, false, false, false, false, false, false, false, false, true, true, true, true, true, true, true, true, true, true, true]
                11 _ rfl rfl (by kernel_rfl) (by kernel_rfl) (by kernel_rfl) (by kernel_rfl) (by kernel_rfl) (by kernel_rfl) ?_ ?_ ?_
              · repeat' (first | exact stable_eq _ | exact stable_nb _ _ | exact stable_true | exact trivial | apply And.intro)
              · refine ⟨?_, ?_, ?_, ?_, ?_, ?_, ?_, ?_, ?_, ?_, ?_, trivial⟩
                all_goals
                  intro b x hb hf
                  have y2 := (hb.cell (p := ⟨p, 2, none⟩) hpl2).trans c2
                  have y4 := (hb.cell (p := ⟨p, 4, none⟩) hpl2).trans c4
                  obtain ⟨g9, c9, x9, hr9, hnb9, hb9⟩ := conv_new_bytes x t (by omega)
                  have hzx := hb.size
                  clear hb
                  simp only [PlanFacts, List.getD_cons_zero, List.getD_cons_succ, Array.getD_eq_getD_getElem?] at hf
                  try simp at hf
                  try go_simp
                  try exact Below.refl _ _
                all_goals first
                  | exact ⟨rfl, Below.refl _ _⟩
                  | exact ⟨_, rfl, hnb9.mono hzx⟩
                  | exact ⟨⟨_, rfl, hnb9.mono hzx⟩, hb9⟩
                  | exact hb9
              · intro f5 x5 hb hwd
                simp only [AllWords, List.take] at hwd
                obtain ⟨_, _, _, _, _, _, _, _, _, hf63, hf64, _⟩ := hwd
                obtain ⟨g6, c6, C6, fr6, hv6, _⟩ := id hf63
                have y0 := (hb.cell (p := ⟨g, k, none⟩) hgl).trans hz0
                have yf := (hb.frozen (p := ⟨g, k, none⟩) hgl).trans hf0
                have HF5 : Far (fun _ => False) wr x5 := far_below hb
                have O5 := ownsRow_keep (w' := x5) (unhide HO) (fun g' hg' => hb.block g' (World.ownsRow.lt (unhide HO) g' hg').2)
                have T5 := ownsRow_keep (w' := x5) (unhide HOT) (fun g' hg' => hb.block g' (World.ownsRow.lt (unhide HOT) g' hg').2)
                obtain ⟨l9, hl9, B9⟩ := unhide HOB
                have B5 := ownsRow_keep (w' := x5) B9 (fun g' hg' => hb.block g' (World.ownsRow.lt B9 g' hg').2)
                obtain ⟨O6, F6⟩ := own_stored (i := k) O5 (f5 63)
                have T6 := F6.own T5 (fun g' hg' e => own_ty T5 O5 (by decide) hg' e)
                have B6 := F6.own B5 (fun g' hg' e => own_ty B5 O5 (by decide) hg' e)
                have hws := (unhide HF).size
                have NB6 : Hid (∀ j (hj : j < (fs2.set k (f5 63)).length), j < k + 1 → NewBytes w.heap.size (x5.setCell ⟨g, k, none⟩ (f5 63)) (fs2.set k (f5 63))[j] t.data.toList) := by
                  intro j hj hjk
                  have hset : ∀ g' O, x5.heap[g']? = some O → w.heap.size ≤ g' → (∃ C fr, O = .cells C 5 fr) → (x5.setCell ⟨g, k, none⟩ (f5 63)).heap[g']? = some O := fun g' O h1 h2 _ => (blk_set_ne (by have := unhide hgw; omega)).trans h1
                  by_cases hjk2 : j = k
                  · subst hjk2
                    rw [List.getElem_set_self]
                    exact (hf63.mono hws).keep hset
                  · rw [List.getElem_set_ne (by omega)]
                    exact (((unhide HNB) j (by simpa using hj) (by omega)).keep (fun g' O h1 _ _ => (hb.block g' (lt_of_block h1)).trans h1)).keep hset
                have HO6 := hide O6
                have HT6 := hide T6
                have HB6 := hide B6
                have HL9 := hide hl9
                have HF6 := hide (((unhide HF).trans HF5 (fun _ _ h => h.elim)).trans F6 (fun _ _ h => .inr (.inr h)))
                rw [hv6] at HO6 HT6 HB6 HF6 NB6 hf63
                clear hb HF5 O5 T5 B9 B5 O6 T6 B6 F6 c2 c4 hz0 hf0 hl9
                simp only [mergeT, hv6, hf64]
                go_simp
                go_wp2
                go_roundw
                case rel => exact ⟨k + 1, _, by omega, by go_num, by have := unhide HFS; rw [List.length_set]; exact this, unhide NB6, unhide HO6, ⟨l9, unhide HL9, unhide HB6⟩, unhide HT6, unhide HF6⟩
                case measure => simp [intOf]; omega
            · have hkn : nf = k := by omega
              subst hkn
              have HO := hide ho
              have HOB := hide hob
              have HOT := hide hot
              have HF := hide hF
              clear ho hF hot hob
              go_wp2
              refine bodyPost_end (results_none rfl _ _ _) rfl ?_
              obtain ⟨l9, hl9, B9⟩ := unhide HOB
              rw [unhide HBV, unhide HFV]
              refine ⟨rfl, l9, fs2, hl9, unhide HFS, unhide HOT, B9, unhide HO, fun f hf => ?_, unhide HF⟩
              obtain ⟨j, hj, rfl⟩ := List.mem_iff_getElem.1 hf
              exact (unhide HNB) j hj (by have := unhide HFS; omega)
end Go.Proofs.YtamafdcnbcoegaaGreat
namespace Go.Proofs.YtamafdcnbcoegaaGreat
open Go.RowKit

/-- What stands at the head of keep's loop, of any hold: k texts. -/
structure TurnG (Ok : Nat → Nat → Prop) (E : Nat → Prop) (w x : World) (wb pk : Nat) (as_ ss hv0 t0 b0 f0 hv tv bk fv : Value) (hs : List Nat) (m : Int) (t : ByteArray) (l : List UInt8) (fs : List Value) (k : Nat) : Prop where
  wbk : x.heap[wb]? = some (.cells #[as_, ss, hv] 83 (0, 0))
  row : x.ownsRow 0 108 1 hv hs.length (hs.map ptrTo)
  pb : x.heap[pk]? = some (.cells #[tv, bk, fv, .int .i64 m, .string t, .string ⟨l.toArray⟩] 110 (0, 0))
  rt : x.ownsRow 0 9 1 tv k (List.replicate k (.string t))
  rb : x.ownsRow 0 5 1 bk l.length (bv l)
  rf : x.ownsRow 0 44 1 fv fs.length fs
  holds : ∀ q ∈ hs, HoldAt (fun b o => Calm x.heap.size (Us wb hv) tv k bk l.length fv fs.length b o ∧ Ok b o) x q
  frames : ∀ f ∈ fs, BAt (fun b o => Calm x.heap.size (Us wb hv) tv k bk l.length fv fs.length b o ∧ Ok b o) x f t.data.toList
  far : Far E w x
  lh : Loc w hv0 hv
  lt : Loc w t0 tv
  lb : Loc w b0 bk
  lf : Loc w f0 fv

/-- The new hold reads as its owner wrote it, in cells of any kind that fits. -/
theorem Mid.hold2 {w X : World} {p q : Nat} {cp : Array Value} {tv bv' fv tv2 bv2 fv2 : Value} {ts fs fs2 : List Value} {l l2 : List UInt8} {m : Int} {t : ByteArray} {nt : Nat}
    (M : Mid w X p q cp #[tv2, bv2, fv2, .int .i64 m, .string t, .string ⟨l2.toArray⟩] tv ts bv' l fv fs tv2 (List.replicate nt (.string t)) bv2 l2 fv2 fs2) (Q : Nat → Nat → Prop) (hq : ∀ i, Q q i)
    (h1 : ∀ g, tv2.ownBlock = some g → ∀ i, i < nt → Q g i) (h2 : ∀ g, bv2.ownBlock = some g → ∀ i, i < l2.length → Q g i) (h3 : ∀ g, fv2.ownBlock = some g → ∀ i, i < fs2.length → Q g i) (hfs : ∀ f ∈ fs2, BAt Q X f t.data.toList) : HoldAt Q X q :=
  ⟨tv2, bv2, fv2, nt, l2, fs2, m, t, fun i _ => hq i, fun i _ => blk_cell M.qb, rd_of_row M.t2 fun g hg i hi => h1 g hg i (by simpa using hi), bat_of_row M.b2 h2, rd_of_row M.f2 h3, hfs⟩
theorem nb_bat {B : Nat} {X : World} {v : Value} {l : List UInt8} (Q : Nat → Nat → Prop) (h : NewBytes B X v l) (hQ : ∀ g C fr, B ≤ g → X.heap[g]? = some (.cells C 5 fr) → ∀ i, Q g i) : BAt Q X v l := by
  obtain ⟨g, cap, C, fr, rfl, h1, h2, h3, h4, h5⟩ := h
  refine ⟨_, cap, rfl, h2, h3, fun _ => ⟨g, 0, rfl, fun i _ => hQ g C fr h1 h4 _, fun i hi => ?_⟩⟩
  rw [Nat.zero_add, blk_cell h4]
  exact h5 i hi

set_option maxRecDepth 10000 in
theorem TurnG.next {Ok : Nat → Nat → Prop} {E : Nat → Prop} {w x X Z : World} {wb pk q : Nat} {as_ ss hv0 t0 b0 f0 hv hv3 tv bk fv tv2 bk2 fv2 v6 : Value} {hs : List Nat} {m : Int} {t : ByteArray} {l : List UInt8} {b : UInt8} {fs : List Value} {k : Nat}
    (T : TurnG Ok E w x wb pk as_ ss hv0 t0 b0 f0 hv tv bk fv hs m t l fs k)
    (M : Mid x X pk q #[tv, bk, fv, .int .i64 m, .string t, .string ⟨l.toArray⟩] #[tv2, bk2, fv2, .int .i64 m, .string t, .string ⟨(l ++ [b]).toArray⟩] tv (List.replicate k (.string t)) bk l fv fs tv2 (List.replicate k (.string t) ++ [.string t]) bk2 (l ++ [b]) fv2 (fs ++ [v6]))
    (N : ∃ B, x.heap.size ≤ B ∧ (∀ g, bk2.ownBlock = some g → g < B) ∧ NewBytes B X v6 t.data.toList)
    (A : X.heap[wb]? = some (.cells #[as_, ss, hv] 83 (0, 0)) → X.ownsRow 0 108 1 hv (hs.map ptrTo).length (hs.map ptrTo) → Add X Z wb as_ ss hv hv3 (hs.map ptrTo ++ [ptrTo q]))
    (hE : ∀ k, k < w.heap.size → (Us wb hv0 k ∨ t0.ownBlock = some k ∨ b0.ownBlock = some k ∨ f0.ownBlock = some k) → E k)
    (hOk : ∀ b o, (w.heap.size ≤ b ∨ t0.ownBlock = some b ∨ b0.ownBlock = some b ∨ f0.ownBlock = some b) → Ok b o) : TurnG Ok E w Z wb q as_ ss hv0 t0 b0 f0 hv3 tv2 bk2 fv2 (hs ++ [q]) m t (l ++ [b]) (fs ++ [v6]) (k + 1) := by
  have hT : x.ownsRow 0 9 1 tv (List.replicate k (Value.string t)).length (List.replicate k (Value.string t)) := by rw [List.length_replicate]; exact T.rt
  have hB : x.ownsRow 0 5 1 bk (bv l).length (bv l) := by rw [bv_length]; exact T.rb
  have M' := M
  rw [replicate_snoc] at M'
  have hwt : tv.ownBlock ≠ some wb := own_ne T.rt T.wbk (by decide)
  have hwb : bk.ownBlock ≠ some wb := own_ne T.rb T.wbk (by decide)
  have hwf : fv.ownBlock ≠ some wb := own_ne T.rf T.wbk (by decide)
  have hht : ∀ g, hv.ownBlock = some g → tv.ownBlock ≠ some g := fun g hg => own_ty T.row T.rt (by decide) hg
  have hhb : ∀ g, hv.ownBlock = some g → bk.ownBlock ≠ some g := fun g hg => own_ty T.row T.rb (by decide) hg
  have hhf : ∀ g, hv.ownBlock = some g → fv.ownBlock ≠ some g := fun g hg => own_ty T.row T.rf (by decide) hg
  have hXw := (M.rest wb (lt_of_block T.wbk) hwt hwb hwf).trans T.wbk
  have hXr : X.ownsRow 0 108 1 hv hs.length (hs.map ptrTo) := ownsRow_keep T.row (fun g hg => M.rest g (World.ownsRow.lt T.row g hg).2 (hht g hg) (hhb g hg) (hhf g hg))
  have A' := A hXw (by rw [List.length_map]; exact hXr)
  have hU : ∀ g, Us wb hv g → g < x.heap.size := fun g hg => hg.elim (fun e => e ▸ lt_of_block T.wbk) (fun e => (World.ownsRow.lt T.row g e).2)
  have u1 : ∀ g, Us wb hv g → tv.ownBlock ≠ some g := fun g hg => hg.elim (fun e => e ▸ hwt) (hht g)
  have u2 : ∀ g, Us wb hv g → bk.ownBlock ≠ some g := fun g hg => hg.elim (fun e => e ▸ hwb) (hhb g)
  have u3 : ∀ g, Us wb hv g → fv.ownBlock ≠ some g := fun g hg => hg.elim (fun e => e ▸ hwf) (hhf g)
  -- from x to X
  have calm1 := M.calm (Us wb hv) hT hB T.rf
  have more1 := M.more (Us wb hv) (by simp) (by simp) (by simp)
  simp only [List.length_append, List.length_replicate, List.length_cons, List.length_nil, Nat.zero_add] at calm1 more1
  have calm1' : ∀ b o, (Calm x.heap.size (Us wb hv) tv k bk l.length fv fs.length b o ∧ Ok b o) → X.cell? ⟨b, o, none⟩ = x.cell? ⟨b, o, none⟩ := fun b o h => calm1 b o h.1
  have more1' : ∀ b o, (Calm x.heap.size (Us wb hv) tv k bk l.length fv fs.length b o ∧ Ok b o) → (Calm X.heap.size (Us wb hv) tv2 (k + 1) bk2 (l.length + 1) fv2 (fs.length + 1) b o ∧ Ok b o) := fun b o h => ⟨more1 b o h.1, h.2⟩
  have okx : ∀ b o, x.heap.size ≤ b → Ok b o := fun b o h => hOk b o (.inl (Nat.le_trans T.far.size h))
  have okl : ∀ {u0 u u2 : Value}, Loc w u0 u → Loc x u u2 → (∀ b, u0.ownBlock = some b → ∀ o, Ok b o) → ∀ b, u2.ownBlock = some b → ∀ o, Ok b o := by
    intro u0 u u2 h1 h2 h0 b hb o
    rcases loc_trans h1 h2 T.far.size with h | h | ⟨g, h, hg⟩
    · rw [h] at hb; cases hb
    · exact h0 b (h ▸ hb) o
    · rw [h] at hb; injection hb with hb; exact hOk b o (.inl (by omega))
  have holds1 : ∀ p ∈ hs, HoldAt (fun b o => Calm X.heap.size (Us wb hv) tv2 (k + 1) bk2 (l.length + 1) fv2 (fs.length + 1) b o ∧ Ok b o) X p := fun p hp => ((T.holds p hp).keep calm1').mono more1'
  have hqU : ¬ Us wb hv q := fun e => by have := hU q e; have := M.qnew; omega
  have frames1 : ∀ f ∈ fs ++ [v6], BAt (fun b o => Calm X.heap.size (Us wb hv) tv2 (k + 1) bk2 (l.length + 1) fv2 (fs.length + 1) b o ∧ Ok b o) X f t.data.toList := by
    intro f hf
    rcases List.mem_append.1 hf with hf | hf
    · exact ((T.frames f hf).keep calm1').mono more1'
    · rw [List.mem_singleton] at hf
      subst hf
      obtain ⟨B, hB1, hB2, hN⟩ := N
      exact nb_bat _ hN (fun g C fr hg hb i => ⟨⟨lt_of_block hb, fun hu => by have := hU g hu; omega, fun e => absurd e (own_ne M.t2 hb (by decide)), fun e => by have := hB2 g e; omega, fun e => absurd e (own_ne M.f2 hb (by decide))⟩, okx g i (by omega)⟩)
  have holdq : HoldAt (fun b o => Calm X.heap.size (Us wb hv) tv2 (k + 1) bk2 (l.length + 1) fv2 (fs.length + 1) b o ∧ Ok b o) X q := by
    refine Mid.hold2 M' _ (fun i => ⟨⟨lt_of_block M.qb, hqU, fun e => absurd e (own_ne M.t2 M.qb (by decide)), fun e => absurd e (own_ne M.b2 M.qb (by decide)), fun e => absurd e (own_ne M.f2 M.qb (by decide))⟩, okx q i M.qnew⟩) ?_ ?_ ?_ (by simpa using frames1)
    · intro g hg i hi
      exact ⟨⟨(World.ownsRow.lt M.t2 g hg).2, fun hu => loc_out M.lt hU u1 g hu hg, fun _ => hi, fun e => absurd e (own_ty M.t2 M.b2 (by decide) hg), fun e => absurd e (own_ty M.t2 M.f2 (by decide) hg)⟩, okl T.lt M.lt (fun b hb o => hOk b o (.inr (.inl hb))) g hg i⟩
    · intro g hg i hi
      exact ⟨⟨(World.ownsRow.lt M.b2 g hg).2, fun hu => loc_out M.lb hU u2 g hu hg, fun e => absurd e (own_ty M.b2 M.t2 (by decide) hg), fun _ => by simpa using hi, fun e => absurd e (own_ty M.b2 M.f2 (by decide) hg)⟩, okl T.lb M.lb (fun b hb o => hOk b o (.inr (.inr (.inl hb)))) g hg i⟩
    · intro g hg i hi
      exact ⟨⟨(World.ownsRow.lt M.f2 g hg).2, fun hu => loc_out M.lf hU u3 g hu hg, fun e => absurd e (own_ty M.f2 M.t2 (by decide) hg), fun e => absurd e (own_ty M.f2 M.b2 (by decide) hg), fun _ => by simpa using hi⟩, okl T.lf M.lf (fun b hb o => hOk b o (.inr (.inr (.inr hb)))) g hg i⟩
  have hq := M.qnew
  have hqne : ¬ Us wb hv q := fun e => by have := hU q e; omega
  have hX2 : ∀ {e : TypeId} {v : Value} {n : Nat} {xs : List Value}, X.ownsRow 0 e 1 v n xs → e ≠ 108 → e ≠ 83 → Z.ownsRow 0 e 1 v n xs := by
    intro e v n xs hv1 e1 e2
    refine A'.far.own hv1 (fun g hg hu => ?_)
    rcases hu with rfl | hu
    · exact own_ne hv1 hXw e2 hg
    · exact own_ty hv1 hXr e1 hg hu
  refine ⟨A'.blk, ?_, A'.far.blk M.qb hqne, ?_, ?_, hX2 M.f2 (by decide) (by decide), ?_, ?_, ?_, ?_, ?_, ?_, ?_⟩
  · have := A'.row
    simpa using this
  · have := hX2 M'.t2 (by decide) (by decide)
    simpa using this
  · have := hX2 M.b2 (by decide) (by decide)
    rw [bv_length] at this
    exact this
  · intro p hp
    have hp1 : HoldAt (fun b o => Calm X.heap.size (Us wb hv) tv2 (k + 1) bk2 (l.length + 1) fv2 (fs.length + 1) b o ∧ Ok b o) X p := by
      rcases List.mem_append.1 hp with hp | hp
      · exact holds1 p hp
      · rw [List.mem_singleton] at hp
        exact hp ▸ holdq
    have := (hp1.keep (fun b o h => calm_kept A'.far b o h.1)).mono (fun b o h => (⟨calm_add A'.far.size A'.loc b o h.1, h.2⟩ : Calm Z.heap.size (Us wb hv3) tv2 (k + 1) bk2 (l.length + 1) fv2 (fs.length + 1) b o ∧ Ok b o))
    simpa using this
  · intro f hf
    have := ((frames1 f hf).keep (fun b o h => calm_kept A'.far b o h.1)).mono (fun b o h => (⟨calm_add A'.far.size A'.loc b o h.1, h.2⟩ : Calm Z.heap.size (Us wb hv3) tv2 (k + 1) bk2 (l.length + 1) fv2 (fs.length + 1) b o ∧ Ok b o))
    simpa using this
  · have hxX : Far E w X := by
      refine T.far.trans (E' := fun g => tv.ownBlock = some g ∨ bk.ownBlock = some g ∨ fv.ownBlock = some g) ⟨M.os, M.tape, M.output, M.size, fun g hg he => M.rest g hg (fun e => he (.inl e)) (fun e => he (.inr (.inl e))) (fun e => he (.inr (.inr e)))⟩ ?_
      intro g hg he
      rcases he with he | he | he
      · rcases T.lt with h | h | ⟨g', h, hg'⟩
        · rw [h] at he; cases he
        · exact hE g hg (.inr (.inl (h ▸ he)))
        · rw [h] at he; injection he with he; omega
      · rcases T.lb with h | h | ⟨g', h, hg'⟩
        · rw [h] at he; cases he
        · exact hE g hg (.inr (.inr (.inl (h ▸ he))))
        · rw [h] at he; injection he with he; omega
      · rcases T.lf with h | h | ⟨g', h, hg'⟩
        · rw [h] at he; cases he
        · exact hE g hg (.inr (.inr (.inr (h ▸ he))))
        · rw [h] at he; injection he with he; omega
    refine hxX.trans A'.far ?_
    intro g hg he
    rcases he with he | he
    · exact hE g hg (.inl (.inl he))
    · rcases T.lh with h | h | ⟨g', h, hg'⟩
      · rw [h] at he; cases he
      · exact hE g hg (.inl (.inr (h ▸ he)))
      · rw [h] at he; injection he with he; omega
  · exact loc_trans T.lh A'.loc (Nat.le_trans T.far.size M.size)
  · exact loc_trans T.lt M.lt T.far.size
  · exact loc_trans T.lb M.lb T.far.size
  · exact loc_trans T.lf M.lf T.far.size

/-- The world's own things behind longer. -/
theorem TurnG.mid {Ok : Nat → Nat → Prop} {E : Nat → Prop} {w x X : World} {wb pk q : Nat} {as_ ss hv0 t0 b0 f0 hv tv bk fv tv2 bk2 fv2 : Value} {hs : List Nat} {m : Int} {t : ByteArray} {l l2 : List UInt8} {ts2 fs fs2 : List Value} {k : Nat} {cp cq : Array Value}
    (T : TurnG Ok E w x wb pk as_ ss hv0 t0 b0 f0 hv tv bk fv hs m t l fs k) (M : Mid x X pk q cp cq tv (List.replicate k (.string t)) bk l fv fs tv2 ts2 bk2 l2 fv2 fs2) :
    X.heap[wb]? = some (.cells #[as_, ss, hv] 83 (0, 0)) ∧ X.ownsRow 0 108 1 hv (hs.map ptrTo).length (hs.map ptrTo) := by
  refine ⟨(M.rest wb (lt_of_block T.wbk) (own_ne T.rt T.wbk (by decide)) (own_ne T.rb T.wbk (by decide)) (own_ne T.rf T.wbk (by decide))).trans T.wbk, ?_⟩
  rw [List.length_map]
  exact ownsRow_keep T.row (fun g hg => M.rest g (World.ownsRow.lt T.row g hg).2 (own_ty T.row T.rt (by decide) hg) (own_ty T.row T.rb (by decide) hg) (own_ty T.row T.rf (by decide) hg))

/-- Ahead of the first append: the hold's own block and its lists alone have been written. -/
structure FrontG (w x : World) (p wb : Nat) (cp : Array Value) (as_ ss hv : Value) (hs : List Nat) (tv : Value) (ts : List Value) (bk : Value) (l : List UInt8) (fv : Value) (fs : List Value) : Prop where
  pb : x.heap[p]? = some (.cells cp 110 (0, 0))
  wbk : x.heap[wb]? = some (.cells #[as_, ss, hv] 83 (0, 0))
  row : x.ownsRow 0 108 1 hv hs.length (hs.map ptrTo)
  rt : x.ownsRow 0 9 1 tv ts.length ts
  rb : x.ownsRow 0 5 1 bk l.length (bv l)
  rf : x.ownsRow 0 44 1 fv fs.length fs
  far : Far (fun k => k = p ∨ tv.ownBlock = some k ∨ bk.ownBlock = some k ∨ fv.ownBlock = some k) w x
section
variable {w x y : World} {p wb : Nat} {cp : Array Value} {as_ ss hv tv bk fv : Value} {hs : List Nat} {ts fs : List Value} {l : List UInt8}
theorem FrontG.set (F : FrontG w x p wb cp as_ ss hv hs tv ts bk l fv fs) (j : Nat) (v : Value) : FrontG w (x.setCell ⟨p, j, none⟩ v) p wb (cp.setIfInBounds j v) as_ ss hv hs tv ts bk l fv fs :=
  ⟨blk_set F.pb, (blk_set_ne (blk_ne F.wbk F.pb (by decide))).trans F.wbk, own_set F.row F.pb (by decide), own_set F.rt F.pb (by decide), own_set F.rb F.pb (by decide), own_set F.rf F.pb (by decide), F.far.trans (far_set x p j v) (fun _ _ h => .inl h)⟩
theorem FrontG.below (F : FrontG w x p wb cp as_ ss hv hs tv ts bk l fv fs) (h : Below x.heap.size x y) : FrontG w y p wb cp as_ ss hv hs tv ts bk l fv fs := by
  have hf : Far (fun _ => False) x y := far_below h
  exact ⟨hf.blk F.pb id, hf.blk F.wbk id, hf.own F.row (fun _ _ => id), hf.own F.rt (fun _ _ => id), hf.own F.rb (fun _ _ => id), hf.own F.rf (fun _ _ => id), F.far.trans hf (fun _ _ h => h.elim)⟩
theorem FrontG.lists {ts2 fs2 : List Value} {l2 : List UInt8} (F : FrontG w x p wb cp as_ ss hv hs tv ts bk l fv fs) (h : Far (fun k => tv.ownBlock = some k ∨ bk.ownBlock = some k ∨ fv.ownBlock = some k) x y)
    (ht : y.ownsRow 0 9 1 tv ts2.length ts2) (hb : y.ownsRow 0 5 1 bk l2.length (bv l2)) (hf : y.ownsRow 0 44 1 fv fs2.length fs2) : FrontG w y p wb cp as_ ss hv hs tv ts2 bk l2 fv fs2 :=
  ⟨h.blk F.pb (fun e => e.elim (own_ne F.rt F.pb (by decide)) (fun e => e.elim (own_ne F.rb F.pb (by decide)) (own_ne F.rf F.pb (by decide)))),
    h.blk F.wbk (fun e => e.elim (own_ne F.rt F.wbk (by decide)) (fun e => e.elim (own_ne F.rb F.wbk (by decide)) (own_ne F.rf F.wbk (by decide)))),
    h.own F.row (fun g hg e => e.elim (own_ty F.row F.rt (by decide) hg) (fun e => e.elim (own_ty F.row F.rb (by decide) hg) (own_ty F.row F.rf (by decide) hg))), ht, hb, hf, F.far.trans h (fun _ _ h => .inr h)⟩
end
/-- What all of keep may write. -/
def KeepG (p wb : Nat) (hv tv bk fv : Value) (k : Nat) : Prop := k = p ∨ (tv.ownBlock = some k ∨ bk.ownBlock = some k ∨ fv.ownBlock = some k) ∨ Us wb hv k
theorem FrontG.start {A : Nat → Nat → Prop} {w x Z : World} {p wb nt B : Nat} {as_ ss hv hv3 tv bk fv : Value} {hs : List Nat} {l : List UInt8} {fs : List Value} {m : Int} {t : ByteArray}
    (F : FrontG w x p wb #[tv, bk, fv, .int .i64 m, .string t, .string ⟨l.toArray⟩] as_ ss hv hs tv (List.replicate nt (.string t)) bk l fv fs) (D : Add x Z wb as_ ss hv hv3 (hs.map ptrTo ++ [ptrTo p]))
    (hA : ∀ b o, A b o → b < w.heap.size ∧ ¬ KeepG p wb hv tv bk fv b) (hall : ∀ q ∈ hs, HoldAt A w q) (hB : ∀ g, (hv.ownBlock = some g ∨ bk.ownBlock = some g) → g < B) (hwb : wb < B) (hwB : w.heap.size ≤ B) (hfs : ∀ f ∈ fs, NewBytes B x f t.data.toList) :
    TurnG (fun b o => A b o ∨ b = p ∨ (tv.ownBlock = some b ∨ bk.ownBlock = some b ∨ fv.ownBlock = some b) ∨ w.heap.size ≤ b) (KeepG p wb hv tv bk fv) w Z wb p as_ ss hv tv bk fv hv3 tv bk fv (hs ++ [p]) m t l fs nt := by
  have hpw : p ≠ wb := fun e => blk_ne F.wbk F.pb (by decide) e.symm
  have hhp : hv.ownBlock ≠ some p := own_ne F.row F.pb (by decide)
  have htp : tv.ownBlock ≠ some p := own_ne F.rt F.pb (by decide)
  have hbp : bk.ownBlock ≠ some p := own_ne F.rb F.pb (by decide)
  have hfp : fv.ownBlock ≠ some p := own_ne F.rf F.pb (by decide)
  have hup : ¬ Us wb hv p := fun e => e.elim hpw hhp
  have hut : ∀ g, tv.ownBlock = some g → ¬ Us wb hv g := fun g hg e => e.elim (fun e => own_ne F.rt F.wbk (by decide) (e ▸ hg)) (fun e => own_ty F.rt F.row (by decide) hg e)
  have hub : ∀ g, bk.ownBlock = some g → ¬ Us wb hv g := fun g hg e => e.elim (fun e => own_ne F.rb F.wbk (by decide) (e ▸ hg)) (fun e => own_ty F.rb F.row (by decide) hg e)
  have huf : ∀ g, fv.ownBlock = some g → ¬ Us wb hv g := fun g hg e => e.elim (fun e => own_ne F.rf F.wbk (by decide) (e ▸ hg)) (fun e => own_ty F.rf F.row (by decide) hg e)
  have hpb := D.far.blk F.pb hup
  have hrt := D.far.own F.rt hut
  have hrb := D.far.own F.rb hub
  have hrf := D.far.own F.rf huf
  have hnew : ∀ b, b < x.heap.size → ¬ Us wb hv b → ¬ Us wb hv3 b := by
    intro b hb hu e
    rcases e with e | e
    · exact hu (.inl e)
    · rcases D.loc with h | h | ⟨g, h, hg⟩
      · rw [h] at e; cases e
      · exact hu (.inr (h ▸ e))
      · rw [h] at e; injection e with e; omega
  have hpx := lt_of_block F.pb
  have hfar : Far (KeepG p wb hv tv bk fv) w Z := (F.far.mono (E' := KeepG p wb hv tv bk fv) (fun k _ h => h.elim .inl (fun h => .inr (.inl h)))).trans D.far (fun k _ h => .inr (.inr h))
  have hrt2 : Z.ownsRow 0 9 1 tv nt (List.replicate nt (.string t)) := by rw [List.length_replicate] at hrt; exact hrt
  have hfr : ∀ f ∈ fs, BAt (fun b o => Calm Z.heap.size (Us wb hv3) tv nt bk l.length fv fs.length b o ∧ (A b o ∨ b = p ∨ (tv.ownBlock = some b ∨ bk.ownBlock = some b ∨ fv.ownBlock = some b) ∨ w.heap.size ≤ b)) Z f t.data.toList := by
    intro f hf
    obtain ⟨g, cap, C, fr, rfl, h1, h2, h3, h4, h5⟩ := hfs f hf
    have hug : ¬ Us wb hv g := fun e => e.elim (fun e => by omega) (fun e => by have := hB g (.inl e); omega)
    have h4' := D.far.blk h4 hug
    refine ⟨_, cap, rfl, h2, h3, fun _ => ⟨g, 0, rfl, fun i hi => ⟨⟨lt_of_block h4', hnew g (lt_of_block h4) hug, fun e => absurd e (own_ne hrt h4' (by decide)), fun e => by have := hB g (.inr e); omega, fun e => absurd e (own_ne hrf h4' (by decide))⟩, .inr (.inr (.inr (by omega)))⟩, fun i hi => ?_⟩⟩
    rw [Nat.zero_add, blk_cell h4']
    exact h5 i hi
  refine ⟨D.blk, by simpa using D.row, hpb, hrt2, hrb, hrf, ?_, hfr, hfar, D.loc.mono F.far.size, .inr (.inl rfl), .inr (.inl rfl), .inr (.inl rfl)⟩
  intro q hq
  rcases List.mem_append.1 hq with hq | hq
  · refine ((hall q hq).keep (fun b o h => ?_)).mono (fun b o h => ?_)
    · obtain ⟨h1, h2⟩ := hA b o h
      exact World.cell?_of_block (hfar.rest b h1 h2)
    · obtain ⟨h1, h2⟩ := hA b o h
      exact ⟨⟨Nat.lt_of_lt_of_le h1 hfar.size, hnew b (Nat.lt_of_lt_of_le h1 F.far.size) (fun e => h2 (.inr (.inr e))), fun e => absurd (.inr (.inl (.inl e))) h2, fun e => absurd (.inr (.inl (.inr (.inl e)))) h2, fun e => absurd (.inr (.inl (.inr (.inr e)))) h2⟩, .inl h⟩
  · rw [List.mem_singleton] at hq
    subst hq
    refine ⟨tv, bk, fv, nt, l, fs, m, t, fun i _ => ⟨⟨lt_of_block hpb, hnew q hpx hup, fun e => absurd e htp, fun e => absurd e hbp, fun e => absurd e hfp⟩, .inr (.inl rfl)⟩, fun i _ => blk_cell hpb, ?_, ?_, ?_, hfr⟩
    · exact rd_of_row hrt fun g hg i hi => ⟨⟨(World.ownsRow.lt hrt g hg).2, hnew g (World.ownsRow.lt F.rt g hg).2 (hut g hg), fun _ => by simpa using hi, fun e => absurd e (own_ty hrt hrb (by decide) hg), fun e => absurd e (own_ty hrt hrf (by decide) hg)⟩, .inr (.inr (.inl (.inl hg)))⟩
    · have hrb' : Z.ownsRow 0 5 1 bk (bv l).length (bv l) := by rw [bv_length]; exact hrb
      exact bat_of_row hrb' fun g hg i hi => ⟨⟨(World.ownsRow.lt hrb g hg).2, hnew g (World.ownsRow.lt F.rb g hg).2 (hub g hg), fun e => absurd e (own_ty hrb hrt (by decide) hg), fun _ => hi, fun e => absurd e (own_ty hrb hrf (by decide) hg)⟩, .inr (.inr (.inl (.inr (.inl hg))))⟩
    · exact rd_of_row hrf fun g hg i hi => ⟨⟨(World.ownsRow.lt hrf g hg).2, hnew g (World.ownsRow.lt F.rf g hg).2 (huf g hg), fun e => absurd e (own_ty hrf hrt (by decide) hg), fun e => absurd e (own_ty hrf hrb (by decide) hg), fun _ => hi⟩, .inr (.inr (.inl (.inr (.inr hg))))⟩
end Go.Proofs.YtamafdcnbcoegaaGreat
namespace Go.Proofs.YtamafdcnbcoegaaGreat
open Go.RowKit

set_option maxRecDepth 100000 in
set_option maxHeartbeats 4000000 in
theorem keepAll_any (A : Nat → Nat → Prop) (w : World) (wb p : Nat) (as_ ss hv tv bk fv : Value) (hs : List Nat) (ts fs : List Value) (l : List UInt8) (H : WorldAt A w wb as_ ss hv hs)
    (hp : w.heap[p]? = some (.cells #[tv, bk, fv, .int .i64 0, .string ⟨#[]⟩, .string ⟨#[]⟩] 110 (0, 0))) (ht : w.ownsRow 0 9 1 tv ts.length ts) (hbk : w.ownsRow 0 5 1 bk l.length (bv l)) (hff : w.ownsRow 0 44 1 fv fs.length fs)
    (hA : ∀ b o, A b o → b < w.heap.size ∧ ¬ KeepG p wb hv tv bk fv b) (z1 : hs.length + 4 ≤ 17592186044416) (z2 : l.length ≤ 140737488353990) (z3 : ts.length ≤ 900) (z4 : fs.length ≤ 900) :
    Calls Tryz.prog 76 #[ptrTo wb, ptrTo p] w fun r w' => r = .returned (.tuple #[]) ∧ ∃ hv2 hs2, hs2.length = hs.length + 4 ∧ WorldAt (fun b o => (b < w'.heap.size ∧ ¬ Us wb hv2 b) ∧ (A b o ∨ b = p ∨ (tv.ownBlock = some b ∨ bk.ownBlock = some b ∨ fv.ownBlock = some b) ∨ w.heap.size ≤ b)) w' wb as_ ss hv2 hs2 ∧
      Far (KeepG p wb hv tv bk fv) w w' ∧ Loc w hv hv2 := by
  obtain ⟨hblk, hrow, hall⟩ := H
  have F0 : FrontG w w p wb _ as_ ss hv hs tv ts bk l fv fs := ⟨hp, hblk, hrow, ht, hbk, hff, Far.refl _ _⟩
  have hrow' : Row (fun _ => True) w 108 hv (hs.map ptrTo) := ⟨by rw [List.length_map]; exact hrow, fun _ _ => trivial⟩
  obtain ⟨ha, hcap, hhv, h1, h2, h3⟩ := hrow'.shape
  rw [List.length_map] at hhv
  have HWB := hide (lt_of_block hblk)
  have HHV := hide (fun g hg => (World.ownsRow.lt hrow g hg).2)
  have HBK := hide (fun g hg => (World.ownsRow.lt hbk g hg).2)
  subst hhv
  have HA := hide hA
  have HALL := hide hall
  have c2 := blk_cell (i := 2) hblk
  have p3 := blk_cell (i := 3) hp
  have f3 := blk_free (i := 3) hp
  simp at c2 p3
  have FF0 := hide F0
  have n1 : (hs.length : Int) + 1 ≤ 9223372036854775807 := by omega
  clear hblk hrow hall hrow' h1 h2 h3 hA hp hbk ht hff F0
  unfold ptrTo
  go_enter Tryz.func76, Tryz.ntmps76
  go_upto_region 1 with fail
  refine wp_world (fun x => FrontG w x p wb #[tv, bk, fv, .int .i64 (hs.length + 1), .string ⟨#[]⟩, .string ⟨#[]⟩] as_ ss (.slice ha hs.length hcap) hs tv ts bk l fv fs) (by simpa using (unhide FF0).set 3 (.int .i64 (hs.length + 1))) ?_
  clear f3 c2 p3 FF0 n1
  generalize (hs.length : Int) + 1 = m
  intro x1 F1
  have p3 := blk_cell (i := 3) F1.pb
  simp at p3
  have FF1 := hide F1
  clear F1
  go_upto_region 2 with (go_at_call 114; refine (text_any _ _).mono ?_; rintro r x2 ⟨t, rfl, ht3, hb2⟩; have F2 := (unhide FF1).below hb2; have p4 := blk_cell (i := 4) F2.pb; have f4 := blk_free (i := 4) F2.pb; simp at p4; have FF2 := hide F2; have HT3 := hide ht3; clear F2 hb2 ht3 p3)
  refine wp_world (fun x => FrontG w x p wb #[tv, bk, fv, .int .i64 m, .string t, .string ⟨#[]⟩] as_ ss (.slice ha hs.length hcap) hs tv ts bk l fv fs) (by simpa using (unhide FF2).set 4 (.string t)) ?_
  clear p4 f4 FF2 FF1
  intro x3 F3
  have FF3 := hide F3
  clear F3
  go_upto_region 3 with (go_at_call 115; refine (marksAll_any p _ tv bk fv ts fs l m t ⟨#[]⟩ (unhide FF3).pb (unhide FF3).rt (unhide FF3).rb (unhide FF3).rf (by omega) (by omega) (by omega) (by have := unhide HT3; omega)).mono ?_; rintro r x4 ⟨rfl, l2, fs2, hl2, hfs2, ht4, hb4, hf4, hnb4, hgr⟩; rw [← hl2] at hb4; rw [← hfs2] at hf4; have F4 := (unhide FF3).lists hgr (ts2 := List.replicate ts.length (.string t)) (by rw [List.length_replicate]; exact ht4) hb4 hf4; have FF4 := hide F4; have HL2 := hide hl2; have HFS2 := hide hfs2; have HNB4 := hide hnb4; clear F4 hgr ht4 hb4 hf4 hl2 hfs2 hnb4)
  have p1 := blk_cell (i := 1) (unhide FF4).pb
  have p5 := blk_cell (i := 5) (unhide FF4).pb
  have f5 := blk_free (i := 5) (unhide FF4).pb
  simp at p1 p5
  have hcs := (bat_of_row (A := fun _ _ => True) (by have := (unhide FF4).rb; rw [← bv_length l2] at this; exact this) (fun _ _ _ _ => trivial)).str
  go_upto_region 4 with fail
  refine wp_world (fun x => FrontG w x p wb #[tv, bk, fv, .int .i64 m, .string t, .string ⟨l2.toArray⟩] as_ ss (.slice ha hs.length hcap) hs tv (List.replicate ts.length (.string t)) bk l2 fv fs2 ∧ ∀ f ∈ fs2, NewBytes x3.heap.size x f t.data.toList) ⟨by simpa using (unhide FF4).set 5 (.string ⟨l2.toArray⟩), fun f hf => ((unhide HNB4) f hf).set (unhide FF4).pb⟩ ?_
  clear p1 p5 f5 hcs FF4 HNB4
  rintro x5 ⟨F5, N5⟩
  have c2 := blk_cell (i := 2) F5.wbk
  simp at c2
  have FF5 := hide F5
  have NN5 := hide N5
  clear F5 N5
  go_upto_region 5 with (at_builtin; (refine wpList_app1 rfl (.tmp 37) (.tmp 39) 81 rfl 108 (.pointer none) 8 Tryz.underlying81 info49 rfl (.slice ha hs.length hcap) (hs.map ptrTo) (World.ownsRow.alloc (by rw [List.length_map]; exact (unhide FF5).row) _) rfl ⟨x5.heap.size, 0, none⟩ (ptrTo p) rfl (by simp [ptrTo]) rfl (by rw [List.length_map]; omega) (by rw [List.length_map]; omega) ?_; intro v1 w1 hown1 hold1 happ1; obtain ⟨g1, cap1, hv1⟩ := own_shape hown1 (by simp); rw [show (hs.map ptrTo ++ [ptrTo p]).length = hs.length + 1 by simp] at hv1; subst hv1; have D := add_of (unhide FF5).wbk (by rw [List.length_map]; exact (unhide FF5).row) happ1 hown1; have hwb1 := app_blk happ1 (fun k hk => Below.heap_alloc x5 _ k hk) (by simp) (unhide FF5).wbk (own_ne (unhide FF5).row (unhide FF5).wbk (by decide)); have c21 := blk_cell (i := 2) hwb1; have f21 := blk_free (i := 2) hwb1; simp at c21; have DD := hide D; clear D hwb1 hown1 hold1 happ1))
  refine wp_world (fun x => TurnG (fun b o => A b o ∨ b = p ∨ (tv.ownBlock = some b ∨ bk.ownBlock = some b ∨ fv.ownBlock = some b) ∨ w.heap.size ≤ b) (KeepG p wb (.slice ha hs.length hcap) tv bk fv) w x wb p as_ ss (.slice ha hs.length hcap) tv bk fv (.slice (some ⟨g1, 0, none⟩) (hs.length + 1) cap1) tv bk fv (hs ++ [p]) m t l2 fs2 ts.length)
    ((unhide FF5).start (B := x3.heap.size) (unhide DD) (unhide HA) (unhide HALL) (fun g hg => Nat.lt_of_lt_of_le (hg.elim ((unhide HHV) g) ((unhide HBK) g)) (unhide FF3).far.size) (Nat.lt_of_lt_of_le (unhide HWB) (unhide FF3).far.size) (unhide FF3).far.size (unhide NN5)) ?_
  clear c2 c21 f21 DD FF5 HA HALL NN5 FF3 HWB HHV HBK
  intro x6 T6
  have TT6 := hide T6
  clear T6
  go_wp2
  go_loopw [4, 5] (fun g i wr => ∃ (k pk : Nat) (hv' tv' bk' fv' : Value) (hs' : List Nat) (l' : List UInt8) (fs' : List Value), k ≤ 3 ∧ g = .pointer (some ⟨pk, 0, none⟩) ∧ i = .int .i64 k ∧ hs'.length = hs.length + 1 + k ∧ l'.length = l.length + k ∧ fs'.length = fs.length + k ∧
    TurnG (fun b o => A b o ∨ b = p ∨ (tv.ownBlock = some b ∨ bk.ownBlock = some b ∨ fv.ownBlock = some b) ∨ w.heap.size ≤ b) (KeepG p wb (.slice ha hs.length hcap) tv bk fv) w wr wb pk as_ ss (.slice ha hs.length hcap) tv bk fv hv' tv' bk' fv' hs' m t l' fs' (ts.length + k)) (fun _ i _ => 3 - (intOf i).toNat)
  case atStart => exact ⟨0, p, _, _, _, _, hs ++ [p], l2, fs2, by omega, rfl, rfl, by simp, unhide HL2, unhide HFS2, unhide TT6⟩
  case round =>
    obtain ⟨k, pk, hv', tv', bk', fv', hs', l', fs', hk, rfl, rfl, hhs, hll, hfl, T⟩ := hrel
    have HHS := hide hhs
    have HLL := hide hll
    have HFL := hide hfl
    have ht3 := unhide HT3
    have hlz : l'.length ≤ 140737488354000 := by omega
    have hfz : fs'.length ≤ 1000 := by omega
    have htz : t.size ≤ 3 := by omega
    clear hhs hll hfl ht3 HT3 TT6
    by_cases hlt : k < 3
    · have HL := hide (longer_any pk wr tv' bk' fv' (ts.length + k) l' fs' m t T.pb T.rt T.rb T.rf (by omega) hlz hfz htz)
      have TT := hide T
      clear T hlz htz hfz
      go_upto_region 10 with (go_at_call 116; refine (unhide HL).mono ?_; rintro r X ⟨q, tv2, bk2, fv2, v6, b, rfl, M, N⟩; have hX := (unhide TT).mid M; have x2 := blk_cell (i := 2) hX.1; simp at x2; have HX := hide hX; have MM := hide M; have NN := hide N; clear hX M N)
      simp only [ptrTo]
      go_upto_region 8 with (at_builtin; (refine wpList_app1 rfl (.tmp 54) (.tmp 56) 81 rfl 108 (.pointer none) 8 Tryz.underlying81 info49 rfl hv' (hs'.map ptrTo) (World.ownsRow.alloc (unhide HX).2 _) rfl ⟨X.heap.size, 0, none⟩ (ptrTo q) rfl (by simp [ptrTo]) rfl (by rw [List.length_map]; have := unhide HHS; omega) (by rw [List.length_map]; have := unhide HHS; omega) ?_; intro v7 w7 hown7 hold7 happ7; obtain ⟨g7, cap7, hv7⟩ := own_shape hown7 (by simp); rw [show (hs'.map ptrTo ++ [ptrTo q]).length = hs'.length + 1 by simp] at hv7; subst hv7; have D := add_of (unhide HX).1 (unhide HX).2 happ7 hown7; have hwb7 := app_blk happ7 (fun k hk => Below.heap_alloc X _ k hk) (by simp) (unhide HX).1 (own_ne (unhide HX).2 (unhide HX).1 (by decide)); have c27 := blk_cell (i := 2) hwb7; have f27 := blk_free (i := 2) hwb7; simp at c27; have DD := hide D; clear D hwb7 hown7 hold7 happ7))
      have TN := hide ((unhide TT).next (unhide MM) (unhide NN) (fun _ _ => unhide DD) (fun g _ h => h.elim (fun h => .inr (.inr h)) (fun h => .inr (.inl h))) (fun b o h => h.elim (fun h => .inr (.inr (.inr h))) (fun h => .inr (.inr (.inl h)))))
      clear x2 c27 f27 DD
      go_wp2
      go_roundw
      case rel => exact ⟨k + 1, q, _, _, _, _, _, _, _, by omega, rfl, by go_num, by have := unhide HHS; simp; omega, by have := unhide HLL; simp; omega, by have := unhide HFL; simp; omega, unhide TN⟩
      case measure => simp [intOf]; omega
    · have hk3 : k = 3 := by omega
      subst hk3
      have TT := hide T
      clear T hlz htz
      go_wp2
      refine bodyPost_end (results_none rfl _ _ _) rfl ?_
      have T := unhide TT
      exact ⟨rfl, hv', hs', by have := unhide HHS; omega, ⟨T.wbk, T.row, fun q hq => (T.holds q hq).mono (fun b o h => ⟨⟨h.1.1, h.1.2.1⟩, h.2⟩)⟩, T.far, T.lh⟩
end Go.Proofs.YtamafdcnbcoegaaGreat
namespace Go.Proofs.YtamafdcnbcoegaaGreat
open Go.RowKit

theorem WorldAt.mono {A A' : Nat → Nat → Prop} {w : World} {wb : Nat} {as_ ss hv : Value} {hs : List Nat} (h : WorldAt A w wb as_ ss hv hs) (hA : ∀ b o, A b o → A' b o) : WorldAt A' w wb as_ ss hv hs :=
  ⟨h.blk, h.row, fun p hp => (h.all p hp).mono hA⟩
/-- A list that is there, wherever. -/
def ListAt (w : World) (v : Value) (xs : List Value) : Prop :=
  ∃ ad cap, v = .slice ad xs.length cap ∧ xs.length ≤ cap ∧ cap ≤ maxLen ∧ (0 < xs.length → ∃ g o, ad = some ⟨g, o, none⟩ ∧ g < w.heap.size ∧ ∀ i, i < xs.length → w.cell? ⟨g, o + i, none⟩ = xs[i]?)
theorem listAt_own {B : Nat} {w : World} {e : TypeId} {v : Value} {n : Nat} {xs : List Value} (h : w.ownsRow B e 1 v n xs) : ListAt w v xs := by
  have hn : xs.length = n := by have := h.1; omega
  subst hn
  have h0 := h
  obtain ⟨h1, h2⟩ := h
  rcases h2 with ⟨e1, h2⟩ | ⟨g, cap, cur, e1, hB, hh, hc1, hc2, _, ht⟩
  · exact ⟨none, 0, by rw [h2]; exact e1, by omega, by unfold maxLen; omega, fun h => by omega⟩
  · subst e1
    exact ⟨_, cap, rfl, hc1, hc2, fun _ => ⟨g, 0, rfl, lt_of_block hh, fun i hi => by rw [Nat.zero_add]; exact World.ownsRow.cellAt h0 i (by omega)⟩⟩
set_option maxRecDepth 100000 in
set_option maxHeartbeats 2000000 in
theorem told_yes (A : Nat → Nat → Prop) (w : World) (wb : Nat) (as_ ss hv lv wv : Value) (hs : List Nat) (L : List ByteArray) (H : WorldAt A w wb as_ ss hv hs)
    (hl : w.ownsRow 0 9 1 lv L.length (strs L)) (hm : ListAt w wv (strs L)) (hA : ∀ b o, A b o → b < w.heap.size ∧ ¬ (lv.ownBlock = some b ∨ Us wb hv b)) (z1 : hs.length + 4 ≤ 17592186044416) (z2 : L.length ≤ 900) :
    Calls Tryz.prog 123 #[ptrTo wb, lv, wv] w fun r w' => r = .returned (.bool true) ∧ ∃ hv2 hs2, hs2.length = hs.length + 4 ∧ WorldAt (fun b o => (b < w'.heap.size ∧ ¬ Us wb hv2 b) ∧ (A b o ∨ lv.ownBlock = some b ∨ w.heap.size ≤ b)) w' wb as_ ss hv2 hs2 ∧
      Far (fun k => lv.ownBlock = some k ∨ Us wb hv k) w w' ∧ Loc w hv hv2 := by
  obtain ⟨la, lc, hlv, hl1, hl2, hl3⟩ := listAt_own hl
  obtain ⟨ma, mc, hmv, hm1, hm2, hm3⟩ := hm
  rw [strs_length] at hlv hl1 hl3 hmv hm1 hm3
  subst hlv hmv
  have HL3 := hide hl3
  have HM3 := hide hm3
  have HL := hide hl
  have HH := hide H
  have HA := hide hA
  have n1 : L.length ≤ 9223372036854775807 := by omega
  clear hl3 hm3 hl H hA
  unfold ptrTo
  go_enter Tryz.func123, Tryz.ntmps123
  go_wp2
  go_loopw [7, 8] (fun ok i wr => ∃ k : Nat, k ≤ L.length ∧ i = .int .i64 k ∧ ok = .bool true ∧ ∃ q, wr = w.drewN q) (fun _ i _ => L.length - (intOf i).toNat)
  case atStart => exact ⟨0, by omega, rfl, rfl, 0, rfl⟩
  case round =>
    obtain ⟨k, hk, rfl, rfl, q, rfl⟩ := hrel
    by_cases hlt : k < L.length
    · obtain ⟨g, o, rfl, _, hc⟩ := (unhide HL3) (by omega)
      obtain ⟨g2, o2, rfl, _, hc2⟩ := (unhide HM3) (by omega)
      have hx : (strs L)[k]? = some (.string L[k]) := by simp [strs, hlt]
      have y1 := (hc k hlt).trans hx
      have y2 := (hc2 k hlt).trans hx
      clear hc hc2 hx
      generalize L[k] = bk at y1 y2
      go_wp2
      go_quiet (fail)
      go_wp2
      go_roundw
      case rel => exact ⟨k + 1, by omega, by go_num, rfl, q + nq, by simp⟩
      case measure => simp [intOf]; omega
    · clear hk
      have HK := hide (keepAll_any A ((w.drewN q).alloc (.cells #[.slice la L.length lc, .slice none 0 0, .slice none 0 0, .int .i64 0, .string ⟨#[]⟩, .string ⟨#[]⟩] 110)) wb w.heap.size as_ ss hv (.slice la L.length lc) (.slice none 0 0) (.slice none 0 0) hs (strs L) [] []
        ⟨(Below.heap_alloc _ _ _ (lt_of_block (unhide HH).blk)).trans (unhide HH).blk, World.ownsRow.alloc (w := w.drewN q) (unhide HH).row _, fun x hx => ((unhide HH).all x hx).keep (fun b o h => World.cell?_of_block (Below.heap_alloc (w.drewN q) _ b ((unhide HA) b o h).1))⟩
        (heap_alloc_new (w.drewN q) _) (by rw [strs_length]; exact World.ownsRow.alloc (w := w.drewN q) (unhide HL) _) (World.ownsRow_nil _ _ _ _) (World.ownsRow_nil _ _ _ _)
        (fun b o h => ⟨by have := ((unhide HA) b o h).1; simp; omega, fun e => by
          rcases e with e | (e | e | e) | e
          · have := ((unhide HA) b o h).1; omega
          · exact ((unhide HA) b o h).2 (.inl e)
          · cases e
          · cases e
          · exact ((unhide HA) b o h).2 (.inr e)⟩) z1 (by simp) (by rw [strs_length]; exact z2) (by simp))
      unfold ptrTo at HK
      go_wp2_with (go_at_call 76; refine (unhide HK).mono ?_; rintro r w1 ⟨rfl, hv2, hs2, hn2, W2, F2, L2⟩)
      go_ret
      have F0 : Far (fun k => (Value.slice la L.length lc).ownBlock = some k ∨ Us wb hv k) w ((w.drewN q).alloc (.cells #[.slice la L.length lc, .slice none 0 0, .slice none 0 0, .int .i64 0, .string ⟨#[]⟩, .string ⟨#[]⟩] 110)) := far_below ((below_drewN (Below.refl _ _) q).alloc (Nat.le_refl _) _)
      refine ⟨rfl, hv2, hs2, hn2, W2.mono (fun b o h => ⟨h.1, h.2.elim .inl (fun h => h.elim (fun h => .inr (.inr (by omega))) (fun h => h.elim (fun h => h.elim (fun h => .inr (.inl h)) (fun h => h.elim (fun h => by cases h) (fun h => by cases h))) (fun h => .inr (.inr (by simp at h; omega)))))⟩), F0.trans F2 (fun k hk e => ?_), L2.mono F0.size⟩
      rcases e with e | (e | e | e) | e
      · omega
      · exact .inl e
      · cases e
      · cases e
      · exact .inr e
end Go.Proofs.YtamafdcnbcoegaaGreat
