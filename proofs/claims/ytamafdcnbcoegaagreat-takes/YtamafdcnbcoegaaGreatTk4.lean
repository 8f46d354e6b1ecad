/-
  Part 4 of a proof: Y3, Y4, Y5, Y6, Y7, Y8, Y9.
-/
import Derived.Laws.OwnMore
import Derived.Deep.RegionLaw
import Derived.Test.YtamafdcnbcoegaaGreatTk3
namespace Go.Proofs.YtamafdcnbcoegaaGreat
open Go.RowKit

theorem own_shapeB {B : Nat} {w : World} {e : TypeId} {v : Value} {n : Nat} {xs : List Value} (h : w.ownsRow B e 1 v n xs) (hn : 0 < n) : ∃ g cap, v = .slice (some ⟨g, 0, none⟩) n cap := by
  obtain ⟨_, h2⟩ := h
  rcases h2 with ⟨_, h2⟩ | ⟨g, cap, cur, e, _⟩
  · omega
  · exact ⟨g, cap, e⟩
theorem own0 {B : Nat} {w : World} {e : TypeId} {v : Value} {n : Nat} {xs : List Value} (h : w.ownsRow B e 1 v n xs) : w.ownsRow 0 e 1 v n xs := by
  obtain ⟨h1, h2⟩ := h
  refine ⟨h1, ?_⟩
  rcases h2 with h2 | ⟨g, cap, cur, e, hB, r⟩
  · exact .inl h2
  · exact .inr ⟨g, cap, cur, e, Nat.zero_le _, r⟩
theorem strs_snoc (l : List ByteArray) (b : ByteArray) : strs (l ++ [b]) = strs l ++ [.string b] := by simp [strs]

set_option maxRecDepth 100000 in
set_option maxHeartbeats 4000000 in
theorem commits_full {w : World} {p : Nat} {a : Mod.Sk} {r : SRest} {lv : Nat → Value} {hv : Value} (R : SkAt w p a r lv hv) (k e : Int) (s qn : Nat) (b : ByteArray) (hk : k = 3) (he : e = a.epoch) (hs : s < 3) (hq : qn = (a.logs s).length + 1) (h120 : 120 ≤ a.count) :
    Calls Tryz.prog 178 #[.pointer (some ⟨p, 0, none⟩), .agg #[.int .i64 k, .int .i64 e, .int .i64 s, .int .i64 qn, .string b]] w fun x w' =>
      x = .returned (.slice none 0 0) ∧ Below w.heap.size w w' := by
  have k3 : (k != 3) = false := by subst hk; rfl
  have ee : (e != (a.epoch : Int)) = false := by simpa using he
  have qq : ((qn : Int) != ((a.logs s).length : Int) + 1) = false := by simp; omega
  have DD := hide (slay_new R k e s qn b)
  have hlen := R.len s hs
  have hcz := R.ll
  have hs3 : (s : Int) < 3 := by omega
  have hqm : qn ≤ 121 := by omega
  clear R hk he hq
  generalize hep : (a.epoch : Int) = ep at *
  obtain ⟨n, hn⟩ : ∃ n, n = a.count := ⟨_, rfl⟩
  have HN := hide hn
  rw [← hn] at hcz h120
  clear hn
  go_enter Tryz.func178, Tryz.ntmps178
  go_upto_region 2 with fail
  refine wp_world (fun x => SLay w x p a r lv hv k e s qn b) (unhide DD) ?_
  clear DD
  intro x L
  have y0 := blk_cell (i := 0) L.box
  have y1 := blk_cell (i := 1) L.box
  have y2 := blk_cell (i := 2) L.box
  have y3 := blk_cell (i := 3) L.box
  have c0 := blk_cell (i := 0) L.ref.blk
  have cs := sk_at L.ref s hs
  obtain ⟨la, lc, hla, _⟩ := (L.ref.logs s hs).shape
  simp [skCells] at y0 y1 y2 y3 c0
  rw [hep] at c0
  rw [hla] at cs
  have LL := hide L
  clear L hep hla
  go_quiet (fail)
  have HC := hide (count_any ((unhide LL).drew nq).ref)
  rw [← unhide HN] at HC
  clear y0 y1 y2 y3 c0 cs
  go_upto_region 5 with (go_at_call 212; refine (unhide HC).mono ?_; rintro y w1 ⟨rfl, q1, rfl⟩)
  refine wp_world (fun x => SLay w x p a r lv hv k e s qn b) ((unhide LL).drew _) ?_
  clear LL HC
  intro x2 L
  have LL := hide L
  have h120i : 120 ≤ (n : Int) := by omega
  clear L
  go_wp2
  go_ret
  exact ⟨rfl, (unhide LL).bel⟩

set_option maxRecDepth 100000 in
set_option maxHeartbeats 4000000 in
theorem commits_next {w : World} {p : Nat} {a : Mod.Sk} {r : SRest} {lv : Nat → Value} {hv : Value} (R : SkAt w p a r lv hv) (k e : Int) (s qn : Nat) (b : ByteArray) (hk : k = 3) (he : e = a.epoch) (hs : s < 3) (hq : qn = (a.logs s).length + 1) (h120 : a.count < 120) :
    Calls Tryz.prog 178 #[.pointer (some ⟨p, 0, none⟩), .agg #[.int .i64 k, .int .i64 e, .int .i64 s, .int .i64 qn, .string b]] w fun x w' =>
      ∃ v n, x = .returned v ∧ w'.ownsRow w.heap.size 9 1 v n (strs (a.commitFrom s qn a.count 120 [b])) ∧ Below w.heap.size w w' := by
  have k3 : (k != 3) = false := by subst hk; rfl
  have ee : (e != (a.epoch : Int)) = false := by simpa using he
  have qq : ((qn : Int) != ((a.logs s).length : Int) + 1) = false := by simp; omega
  have DD := hide (slay_new R k e s qn b)
  have hlen := R.len s hs
  have hcz := R.ll
  have hs3 : (s : Int) < 3 := by omega
  have hqm : qn ≤ 121 := by omega
  obtain ⟨i0, hi, hz0, hz1, hz2⟩ := info_parts2 infoStr
  have HUL := hide (fun k hk => R.lt k hk)
  clear R hk he hq
  generalize hep : (a.epoch : Int) = ep at *
  obtain ⟨n, hn⟩ : ∃ n, n = a.count := ⟨_, rfl⟩
  have HN := hide hn
  rw [← hn] at hcz h120 ⊢
  clear hn
  obtain ⟨Lx, hLx⟩ : ∃ Lx, Lx = a.commitFrom s qn n 120 [b] := ⟨_, rfl⟩
  rw [← hLx]
  have HLX := hide hLx
  clear hLx
  go_enter Tryz.func178, Tryz.ntmps178
  go_upto_region 2 with fail
  refine wp_world (fun x => SLay w x p a r lv hv k e s qn b) (unhide DD) ?_
  clear DD
  intro x L
  have y0 := blk_cell (i := 0) L.box
  have y1 := blk_cell (i := 1) L.box
  have y2 := blk_cell (i := 2) L.box
  have y3 := blk_cell (i := 3) L.box
  have c0 := blk_cell (i := 0) L.ref.blk
  have cs := sk_at L.ref s hs
  obtain ⟨la, lc, hla, _⟩ := (L.ref.logs s hs).shape
  simp [skCells] at y0 y1 y2 y3 c0
  rw [hep] at c0
  rw [hla] at cs
  have LL := hide L
  clear L hep hla
  go_quiet (fail)
  have HC := hide (count_any ((unhide LL).drew nq).ref)
  rw [← unhide HN] at HC
  clear y0 y1 y2 y3 c0 cs
  go_upto_region 5 with (go_at_call 212; refine (unhide HC).mono ?_; rintro y w1 ⟨rfl, q1, rfl⟩)
  refine wp_world (fun x => SLay w x p a r lv hv k e s qn b) ((unhide LL).drew _) ?_
  clear LL HC
  intro x2 L
  have h120i : ¬ 120 ≤ (n : Int) := by omega
  have y4 := blk_cell (i := 4) L.box
  simp at y4
  have LL := hide L
  clear L
  go_upto_region 8 with (at_builtin; refine wpList_append_own _ rfl (.tmp 40) (.tmp 43) 45 rfl w.heap.size 9 i0 (.string ⟨#[]⟩) 1 16 Tryz.underlying45 hi hz0 hz1 hz2 rfl (by decide) (.slice none 0 0) 0 [] rfl (World.ownsRow_nil _ _ _ _) ⟨x2.heap.size, 0, none⟩ 1 1 [.string b] rfl rfl cells_new (by intro u hu; simp at hu; subst hu; rfl) (by unfold maxLen; omega) (by omega) (by have := (unhide LL).bel.size; simp; omega) ?_; intro v' w3 hown' hgrow _; have hb3 := ((Below.refl x2.heap.size x2).alloc (Nat.le_refl _) (.cells #[.string b] 9)).trans (below_grown_new (B := x2.heap.size) hgrow (by simp) (fun g hg => by cases hg)); have HO := hide hown'; have BB3 := hide hb3; clear hown' hgrow hb3)
  refine wp_world (fun x => SLay w x p a r lv hv k e s qn b ∧ x.ownsRow w.heap.size 9 1 v' 1 (strs [b])) ⟨(unhide LL).below (unhide BB3), by simpa [strs] using unhide HO⟩ ?_
  clear y4 LL HO BB3
  rintro x4 ⟨L4, O4⟩
  have LL4 := hide L4
  have OO4 := hide O4
  clear L4 O4
  go_wp2
  go_loopw [5] (fun v wr => ∃ (out : List ByteArray) (f : Nat), 1 ≤ out.length ∧ n + out.length ≤ 120 ∧ a.commitFrom s qn n f out = Lx ∧ 120 ≤ f + n + out.length ∧ wr.ownsRow w.heap.size 9 1 v out.length (strs out) ∧ SLay w wr p a r lv hv k e s qn b) (fun v _ => 120 - lenOf v)
  case atStart => exact ⟨[b], 120, by simp, by simp; omega, (unhide HLX).symm, by simp; omega, unhide OO4, unhide LL4⟩
  case round =>
    obtain ⟨out, f, h1, h2, hcf, hfu, ho, L⟩ := hrel
    obtain ⟨g, cap, hv5⟩ := own_shapeB ho (by omega)
    clear LL4 OO4
    subst hv5
    have y2 := blk_cell (i := 2) L.box
    have y3 := blk_cell (i := 3) L.box
    have c5 := blk_cell (i := 5) L.ref.blk
    simp [skCells] at y2 y3 c5
    have HCF := hide hcf
    have HO := hide ho
    have HGB := hide (own_ne (own0 ho) L.box (by decide))
    by_cases hlt : n + out.length < 120
    · have hlti : (n : Int) + out.length < 120 := by omega
      have HH := skHeld_any L.ref s (qn + out.length)
      rw [show ((qn + out.length : Nat) : Int) = (qn : Int) + out.length by omega] at HH
      obtain ⟨ha, hcp, hhv, _, _, hc⟩ := L.ref.held.shape
      have hhl := L.ref.hl
      rw [hhv] at c5
      have HC := hide hc
      have LL := hide L
      have HLT := hide hlt
      cases hix : a.ix s (qn + out.length) with
      | none =>
        rw [hix] at HH
        have HHH := hide HH
        have HE := hide (Mod.Sk.commitFrom_none (f := f) hlt hix)
        clear hcf ho L hc HH hix hlt hhv
        go_wp2_with (go_at_call 213; refine (unhide HHH).mono ?_; rintro y w1 ⟨rfl, rfl⟩; simp only [Mod.ixInt])
        go_ret
        exact ⟨_, out.length, rfl, by rw [← unhide HCF, unhide HE]; exact unhide HO, (unhide LL).bel⟩
      | some i =>
        rw [hix] at HH
        have HHH := hide HH
        have hil : i < a.held.length := by
          have := (Mod.ixFrom_lt (show Mod.ixFrom s (qn + out.length) 0 a.held = some i from hix)).2
          omega
        obtain ⟨g2, o2, hha, hc3⟩ := (unhide HC) (show 0 < a.held.length from Nat.lt_of_le_of_lt (Nat.zero_le _) hil)
        rw [hha] at c5
        have yb : wr.cell? ⟨g2, o2 + i * 3 + 2, none⟩ = some (.string a.held[i].2.2) := (hc3 (i * 3 + 2) (by omega)).trans (heldCells_at a.held i hil).2.2
        obtain ⟨f', rfl⟩ : ∃ f', f = f' + 1 := ⟨f - 1, by omega⟩
        have HE := hide (Mod.Sk.commitFrom_some (f := f') hlt hix)
        have hgd : a.held.getD i (0, 0, ⟨#[]⟩) = a.held[i] := by rw [List.getD_eq_getElem?_getD, List.getElem?_eq_getElem hil]; rfl
        rw [hgd] at HE
        obtain ⟨bi, hbi⟩ : ∃ bi, bi = a.held[i].2.2 := ⟨_, rfl⟩
        rw [← hbi] at yb HE
        obtain ⟨hn5, hhn5⟩ : ∃ hn5, hn5 = a.held.length := ⟨_, rfl⟩
        rw [← hhn5] at c5 hhl hil
        have hil2 : (i : Int) < hn5 := by omega
        clear hcf ho L hc hc3 hha HH hix hlt hhv hgd hbi HC hhn5
        go_wp2_with (first | (go_at_call 213; refine (unhide HHH).mono ?_; rintro y w1 ⟨rfl, rfl⟩; simp only [Mod.ixInt]) | (at_builtin; refine wpList_append_own _ rfl (.tmp 62) (.tmp 71) 45 rfl w.heap.size 9 i0 (.string ⟨#[]⟩) 1 16 Tryz.underlying45 hi hz0 hz1 hz2 rfl (by decide) (.slice (some ⟨g, 0, none⟩) out.length cap) out.length (strs out) rfl ((unhide HO).alloc _) ⟨w1.heap.size, 0, none⟩ 1 1 [.string bi] rfl rfl cells_new (by intro u hu; simp at hu; subst hu; rfl) (by unfold maxLen; omega) (by omega) (by have := (unhide LL).bel.size; simp; omega) ?_; intro v9 w9 hown9 hgrow9 _; rw [← strs_snoc] at hown9; obtain ⟨g9, c9, hv9⟩ := own_shapeB hown9 (by omega); subst hv9; have hl9 := (fun g hg => (World.ownsRow.lt (unhide HO) g hg).1); have HO9 := hide hown9; have HG9 := hide hgrow9; have HL9 := hide hl9; clear hown9 hgrow9 hl9))
        go_roundw
        case rel =>
          have hb9 := ((Below.refl w1.heap.size w1).alloc (Nat.le_refl _) (.cells #[.string bi] 9))
          have L9 : SLay w w9 p a r lv hv k e s qn b := by
            have L1 := (unhide LL).below hb9
            have hF : Far (fun k => (Value.slice (some ⟨g, 0, none⟩) out.length cap).ownBlock = some k) (w1.alloc (.cells #[.string bi] 9)) w9 := far_grown (unhide HG9)
            have hgl := (unhide HL9) g rfl
            have hw0 := (unhide LL).bel.size
            have hbx := L1.bel
            refine ⟨hbx.trans (hF.below (by have := hbx.size; exact this) (fun k hk e => by injection e with e; change g = k at e; omega)), (hF.rest _ (lt_of_block L1.box) (fun e => by injection e with e; change g = _ at e; exact (unhide HGB) (congrArg some e))).trans L1.box, L1.ref.far hF (fun k hk e => by injection e with e; change g = k at e; have := (unhide HUL) k hk; omega)⟩
          exact ⟨out ++ [bi], f', by simp, by simp; omega, by rw [← unhide HE]; exact unhide HCF, by simp; omega, by simpa using unhide HO9, L9⟩
        case measure => simp [lenOf]; omega
    · have hlti : ¬ (n : Int) + out.length < 120 := by omega
      have HE := hide (Mod.Sk.commitFrom_stop (a := a) (st := s) (q := qn) (f := f) hlt)
      have LL := hide L
      clear hcf ho L hlt
      go_wp2
      go_ret
      first
        | exact ⟨_, out.length, rfl, by rw [← unhide HCF, unhide HE]; exact unhide HO, (unhide LL).bel⟩
        | exact ⟨_, rfl, ⟨out.length, by rw [← unhide HCF, unhide HE]; exact unhide HO⟩, (unhide LL).bel⟩
        | exact ⟨_, rfl, out.length, by rw [← unhide HCF, unhide HE]; exact unhide HO, (unhide LL).bel⟩
end Go.Proofs.YtamafdcnbcoegaaGreat
namespace Go.Proofs.YtamafdcnbcoegaaGreat
open Go.RowKit

theorem infoHeld : (Tryz.prog.info? 281).map (fun i => (i.zero, i.size, i.bytes)) = some (some (.agg #[.int .i64 0, .int .i64 0, .string ⟨#[]⟩]), 3, 32) := by kernel_rfl
theorem heldCells_snoc (l : List (Nat × Nat × ByteArray)) (h : Nat × Nat × ByteArray) : heldCells (l ++ [h]) = heldCells l ++ [.int .i64 (h.1 : Int), .int .i64 (h.2.1 : Int), .string h.2.2] := by simp [heldCells]
/-- What a call leaves of a sink's own memory. -/
def SkStep (w w' : World) (p : Nat) (a' : Mod.Sk) (r : SRest) (lv : Nat → Value) (hv : Value) : Prop :=
  ∃ lv' hv', SkAt w' p a' r lv' hv' ∧ Far (SkU p lv hv) w w' ∧ ∀ k, SkU p lv' hv' k → SkU p lv hv k ∨ w.heap.size ≤ k
/-- What is held has been laid anew, in its block or in a new one, and the sink's block says so. -/
theorem SkAt.heldStep {w w1 : World} {p : Nat} {a : Mod.Sk} {r : SRest} {lv : Nat → Value} {hv v' : Value} {x : List (Nat × Nat × ByteArray)} (R : SkAt w p a r lv hv) (hf : Far (fun k => hv.ownBlock = some k) w w1)
    (hl : ∀ g, v'.ownBlock = some g → hv.ownBlock = some g ∨ w.heap.size ≤ g) (hrow : RowO w1 281 3 v' x.length (heldCells x)) (hx : x.length ≤ 1000) (hb : ∀ h ∈ x, h.1 < 3 ∧ h.2.1 ≤ 2147483647) :
    (∃ C, w1.heap[p]? = some (.cells C 132 (0, 0)) ∧ C[5]? = some hv) ∧ SkStep w (w1.setCell ⟨p, 5, none⟩ v') p { a with held := x } r lv hv := by
  have hph : hv.ownBlock ≠ some p := R.held.ne R.blk (by decide)
  have hb1 := hf.blk R.blk hph
  have hset := far_set w1 p 5 v'
  refine ⟨⟨_, hb1, rfl⟩, lv, v', ⟨?_, ?_, ?_, R.apl, R.ep, R.ll, hx, hb⟩, ?_, ?_⟩
  · have := blk_set (j := 5) (v := v') hb1
    rw [this]
    rfl
  · intro s hs
    exact ((R.logs s hs).far hf (fun g hg hgs => (R.logs s hs).ty R.held (by decide) hg hgs)).far hset (fun g hg hgp => (R.logs s hs).ne R.blk (by decide) (by rw [hg, hgp]))
  · refine hrow.far hset (fun g hg hgp => ?_)
    rw [hgp] at hg
    exact (hl p hg).elim hph (fun h => by have := lt_of_block R.blk; omega)
  · exact (hf.mono (E' := SkU p lv hv) (fun k _ h => .inr (.inr h))).trans hset (fun k _ h => .inl h)
  · rintro k (rfl | ⟨s, hs, hk⟩ | hk)
    · exact .inl (.inl rfl)
    · exact .inl (.inr (.inl ⟨s, hs, hk⟩))
    · exact (hl k hk).elim (fun h => .inl (.inr (.inr h))) .inr
theorem filter_take {l : List (Nat × Nat × ByteArray)} {f : Nat × Nat × ByteArray → Bool} {k : Nat} (h : k < l.length) : (l.take (k + 1)).filter f = (l.take k).filter f ++ (if f l[k] = true then [l[k]] else []) := by
  rw [List.take_succ_eq_append_getElem h, List.filter_append, List.filter_cons]
  split <;> simp
theorem own_rowO {B : Nat} {w : World} {e : TypeId} {size n : Nat} {v : Value} {xs : List Value} (h : w.ownsRow B e size v n xs) : RowO w e size v n xs := by
  obtain ⟨h1, h2⟩ := h
  refine ⟨h1, ?_⟩
  rcases h2 with h2 | ⟨g, cap, cur, rfl, _, hh, hn, hc, hs, ht⟩
  · exact .inl h2
  · exact .inr ⟨g, 0, cap, cur, rfl, hh, hn, hc, by omega, by simpa using ht⟩

set_option maxRecDepth 100000 in
set_option maxHeartbeats 2000000 in
theorem skForget_any {w : World} {p : Nat} {a : Mod.Sk} {r : SRest} {lv : Nat → Value} {hv : Value} (R : SkAt w p a r lv hv) (st up : Nat) :
    Calls Tryz.prog 224 #[.pointer (some ⟨p, 0, none⟩), .int .i64 st, .int .i64 up] w fun e w' => e = .returned (.tuple #[]) ∧ SkStep w w' p (a.forget st up) r lv hv := by
  have c5 := blk_cell (i := 5) R.blk
  simp [skCells] at c5
  obtain ⟨ad, cap, e0, h1, h2, h3⟩ := R.held.shape
  rw [e0] at c5
  have hl := R.hl
  have hpl := lt_of_block R.blk
  have hgl := R.held.lt
  rw [e0] at hgl
  have RR := hide R
  obtain ⟨l, hll⟩ : ∃ l, l = a.held := ⟨_, rfl⟩
  have HLL := hide hll
  rw [← hll] at c5 h1 h3 hl
  obtain ⟨i0, hi, hz0, hz1, hz2⟩ := info_parts2 infoHeld
  have H3 := hide h3
  have HGL := hide hgl
  have C5 := hide c5
  clear R e0 h3 hll hgl c5
  go_enter Tryz.func224, Tryz.ntmps224
  go_wp2
  go_loopw [6, 7] (fun v i wr => ∃ (k n : Nat), k ≤ l.length ∧ i = .int .i64 k ∧ n ≤ k ∧ n = ((l.take k).filter (Mod.keeps st up)).length ∧ wr.ownsRow w.heap.size 281 3 v n (heldCells ((l.take k).filter (Mod.keeps st up))) ∧ Below w.heap.size w wr) (fun _ i _ => l.length - (intOf i).toNat)
  case atStart => exact ⟨0, 0, by omega, rfl, by omega, rfl, World.ownsRow_nil _ _ _ _, Below.refl _ _⟩
  case round =>
    obtain ⟨k, n, hk, rfl, hnk, hn, ho, hb⟩ := hrel
    have c5 := (hb.cell (p := ⟨p, 5, none⟩) hpl).trans (unhide C5)
    have HO := hide ho
    have HB := hide hb
    have HN := hide hn
    clear hn
    by_cases hlt : k < l.length
    · obtain ⟨g, o, rfl, hc⟩ := (unhide H3) (by omega)
      obtain ⟨e0, e1, e2⟩ := heldCells_at l k hlt
      have hg := (unhide HGL) g rfl
      have y0 := (hb.cell (p := ⟨g, o + k * 3, none⟩) hg).trans ((hc (k * 3) (by omega)).trans e0)
      have y1 : wr.cell? ⟨g, o + k * 3 + 1, none⟩ = some (.int .i64 (l[k].2.1 : Int)) := (hb.cell (p := ⟨g, o + (k * 3 + 1), none⟩) hg).trans ((hc (k * 3 + 1) (by omega)).trans e1)
      have y2 : wr.cell? ⟨g, o + k * 3 + 2, none⟩ = some (.string l[k].2.2) := (hb.cell (p := ⟨g, o + (k * 3 + 2), none⟩) hg).trans ((hc (k * 3 + 2) (by omega)).trans e2)
      have HF := hide (filter_take (f := Mod.keeps st up) hlt)
      have HKP : Hid (Mod.keeps st up l[k] = (!(decide (l[k].1 = st)) || decide (up < l[k].2.1))) := rfl
      clear ho hb hc e0 e1 e2
      generalize l[k] = hk9 at *
      obtain ⟨xs, xq, xb⟩ := hk9
      simp only at y0 y1 y2 HKP
      by_cases hx : xs = st
      · have hx2 : ((xs : Int) != (st : Int)) = false := by rw [hx]; simp
        by_cases hq : (up : Int) < xq
        · have HX := hide hx
          clear hx
          have HE := hide (show (List.filter (Mod.keeps st up) (List.take (k + 1) l)) = List.filter (Mod.keeps st up) (List.take k l) ++ [(xs, xq, xb)] by rw [unhide HF, if_pos (by rw [unhide HKP]; simp; omega)])
          go_upto_region 3 with (at_builtin; refine wpList_append_own _ rfl (.tmp 39) (.tmp 47) 130 rfl w.heap.size 281 i0 (.agg #[.int .i64 0, .int .i64 0, .string ⟨#[]⟩]) 3 32 Tryz.underlying130 hi hz0 hz1 hz2 rfl (by decide) u6 n (heldCells ((l.take k).filter (Mod.keeps st up))) rfl ((unhide HO).alloc _) ⟨wr.heap.size, 0, none⟩ 1 1 [.int .i64 xs, .int .i64 xq, .string xb] rfl rfl cells_new (by intro u hu; simp at hu; rcases hu with rfl | rfl | rfl <;> rfl) (by unfold maxLen; omega) (by omega) (by have := (unhide HB).size; simp; omega) ?_; intro v' w1 hown' hgrow _; have hb1 := ((unhide HB).trans (((Below.refl _ _).alloc (Nat.le_refl _) (.cells #[.int .i64 xs, .int .i64 xq, .string xb] 281)).mono (unhide HB).size)).trans (below_grown_new (B := w.heap.size) hgrow (by have := (unhide HB).size; simp; omega) (fun g hg => (World.ownsRow.lt (unhide HO) g hg).1)); have HO1 := hide hown'; have HB1 := hide hb1; clear hown' hgrow hb1)
          clear c5 y0 y1 y2
          go_wp2
          go_roundw
          case rel => exact ⟨k + 1, n + 1, by omega, by go_num, by omega, by rw [unhide HE, List.length_append, ← unhide HN]; rfl, by rw [unhide HE, heldCells_snoc]; exact unhide HO1, unhide HB1⟩
          case measure => simp [intOf]; omega
        · have hq2 : ¬ (up : Int) < xq := hq
          have HE0 : Hid (xs = st ∧ ¬ up < xq) := ⟨hx, by omega⟩
          clear hx
          have HE := hide (show (List.filter (Mod.keeps st up) (List.take (k + 1) l)) = List.filter (Mod.keeps st up) (List.take k l) by rw [unhide HF, if_neg (by rw [unhide HKP]; have := unhide HE0; simp [this.1]; omega), List.append_nil])
          go_wp2
          go_roundw
          case rel => exact ⟨k + 1, n, by omega, by go_num, by omega, by rw [unhide HE]; exact unhide HN, by rw [unhide HE]; exact unhide HO, unhide HB⟩
          case measure => simp [intOf]; omega
      · have hx2 : ((xs : Int) != (st : Int)) = true := by simp; omega
        have HX0 := hide hx
        clear hx
        have HE := hide (show (List.filter (Mod.keeps st up) (List.take (k + 1) l)) = List.filter (Mod.keeps st up) (List.take k l) ++ [(xs, xq, xb)] by rw [unhide HF, if_pos (by rw [unhide HKP]; simp [unhide HX0])])
        go_upto_region 3 with (at_builtin; refine wpList_append_own _ rfl (.tmp 39) (.tmp 47) 130 rfl w.heap.size 281 i0 (.agg #[.int .i64 0, .int .i64 0, .string ⟨#[]⟩]) 3 32 Tryz.underlying130 hi hz0 hz1 hz2 rfl (by decide) u6 n (heldCells ((l.take k).filter (Mod.keeps st up))) rfl ((unhide HO).alloc _) ⟨wr.heap.size, 0, none⟩ 1 1 [.int .i64 xs, .int .i64 xq, .string xb] rfl rfl cells_new (by intro u hu; simp at hu; rcases hu with rfl | rfl | rfl <;> rfl) (by unfold maxLen; omega) (by omega) (by have := (unhide HB).size; simp; omega) ?_; intro v' w1 hown' hgrow _; have hb1 := ((unhide HB).trans (((Below.refl _ _).alloc (Nat.le_refl _) (.cells #[.int .i64 xs, .int .i64 xq, .string xb] 281)).mono (unhide HB).size)).trans (below_grown_new (B := w.heap.size) hgrow (by have := (unhide HB).size; simp; omega) (fun g hg => (World.ownsRow.lt (unhide HO) g hg).1)); have HO1 := hide hown'; have HB1 := hide hb1; clear hown' hgrow hb1)
        clear c5 y0 y1 y2
        go_wp2
        go_roundw
        case rel => exact ⟨k + 1, n + 1, by omega, by go_num, by omega, by rw [unhide HE, List.length_append, ← unhide HN]; rfl, by rw [unhide HE, heldCells_snoc]; exact unhide HO1, unhide HB1⟩
        case measure => simp [intOf]; omega
    · have hkl : l.length = k := by omega
      rw [List.take_of_length_le (by omega)] at ho HN
      have HO2 := hide ho
      have hq := hide ((unhide RR).heldStep (far_below hb) (v' := u6) (x := l.filter (Mod.keeps st up)) (fun g hg => .inr (World.ownsRow.lt ho g hg).1) (by have := own_rowO ho; rw [unhide HN] at this; exact this) (by have := List.length_filter_le (Mod.keeps st up) l; omega) (fun h hh => (unhide RR).hb h (by rw [← unhide HLL]; exact (List.mem_filter.1 hh).1)))
      have hw5 := (unhide hq).1
      obtain ⟨C, hpC, hC⟩ := hw5
      have y1 := (blk_cell (i := 5) hpC).trans hC
      have f1 := blk_free (i := 5) hpC
      have c5 := (hb.cell (p := ⟨p, 5, none⟩) hpl).trans (unhide C5)
      have hs6 := (own_rowO ho).shape
      clear hkl ho hb hpC hC hk
      obtain ⟨va, vc, hva, _⟩ := hs6
      subst hva
      go_wp2
      refine bodyPost_end (results_none rfl _ _ _) rfl ?_
      refine ⟨rfl, ?_⟩
      have h9 := (unhide hq).2
      rw [unhide HLL] at h9
      exact h9
end Go.Proofs.YtamafdcnbcoegaaGreat
namespace Go.Proofs.YtamafdcnbcoegaaGreat
open Go.RowKit

theorem commits_any {w : World} {p : Nat} {a : Mod.Sk} {r : SRest} {lv : Nat → Value} {hv : Value} (R : SkAt w p a r lv hv) (k e : Int) (s qn : Nat) (b : ByteArray) (hs : s < 3) :
    Calls Tryz.prog 178 #[.pointer (some ⟨p, 0, none⟩), .agg #[.int .i64 k, .int .i64 e, .int .i64 s, .int .i64 qn, .string b]] w fun x w' =>
      ∃ v n, x = .returned v ∧ w'.ownsRow w.heap.size 9 1 v n (strs (a.commits k e s qn b)) ∧ Below w.heap.size w w' := by
  have none_ : ∀ {x : Ending} {w' : World}, a.commits k e s qn b = [] → x = .returned (.slice none 0 0) ∧ Below w.heap.size w w' → ∃ v n, x = .returned v ∧ w'.ownsRow w.heap.size 9 1 v n (strs (a.commits k e s qn b)) ∧ Below w.heap.size w w' := by
    rintro x w' h ⟨rfl, hb⟩
    rw [h]
    exact ⟨_, 0, rfl, World.ownsRow_nil _ _ _ _, hb⟩
  by_cases hk : k = 3
  · by_cases he : e = a.epoch
    · by_cases hq : qn = (a.logs s).length + 1
      · have h1 : ¬ (k ≠ 3 ∨ e ≠ a.epoch ∨ (qn : Int) ≠ (a.logs (s : Int).toNat).length + 1) := by simp [hk, he, hq]
        by_cases h2 : 120 ≤ a.count
        · exact (commits_full R k e s qn b hk he hs hq h2).mono fun _ _ h => none_ (by rw [Mod.Sk.commits, if_neg h1, if_pos h2]) h
        · have h3 : a.commits k e s qn b = a.commitFrom s qn a.count 120 [b] := by rw [Mod.Sk.commits, if_neg h1, if_neg h2]; rfl
          rw [h3]
          exact commits_next R k e s qn b hk he hs hq (by omega)
      · exact (commits_noq R k e s qn b hk he hs hq).mono fun _ _ h => none_ (by rw [Mod.Sk.commits, if_pos]; right; right; simp; omega) h
    · exact (commits_noe R k e s qn b hk he).mono fun _ _ h => none_ (by rw [Mod.Sk.commits, if_pos]; exact .inr (.inl he)) h
  · exact (commits_no3 R k e s qn b hk).mono fun _ _ h => none_ (by rw [Mod.Sk.commits, if_pos]; exact .inl hk) h

theorem commitFrom_ne {a : Mod.Sk} {st q n : Nat} : ∀ {f : Nat} {out : List ByteArray}, out ≠ [] → a.commitFrom st q n f out ≠ []
  | 0, _, h => h
  | f + 1, out, h => by
    rw [Mod.Sk.commitFrom]
    split
    · split
      · exact h
      · exact commitFrom_ne (by simp)
    · exact h
theorem commitFrom_len {a : Mod.Sk} {st q n : Nat} : ∀ {f : Nat} {out : List ByteArray}, n + out.length ≤ 120 → n + (a.commitFrom st q n f out).length ≤ 120
  | 0, _, h => h
  | f + 1, out, h => by
    rw [Mod.Sk.commitFrom]
    split
    · split
      · exact h
      · exact commitFrom_len (by simp; omega)
    · exact h
/-- Where nothing is committed, no list comes out. -/
theorem commits_nil {w : World} {p : Nat} {a : Mod.Sk} {r : SRest} {lv : Nat → Value} {hv : Value} (R : SkAt w p a r lv hv) (k e : Int) (s qn : Nat) (b : ByteArray) (hs : s < 3) (hn : a.commits k e s qn b = []) :
    Calls Tryz.prog 178 #[.pointer (some ⟨p, 0, none⟩), .agg #[.int .i64 k, .int .i64 e, .int .i64 s, .int .i64 qn, .string b]] w fun x w' => x = .returned (.slice none 0 0) ∧ Below w.heap.size w w' := by
  by_cases hk : k = 3
  · by_cases he : e = a.epoch
    · by_cases hq : qn = (a.logs s).length + 1
      · have h1 : ¬ (k ≠ 3 ∨ e ≠ a.epoch ∨ (qn : Int) ≠ (a.logs (s : Int).toNat).length + 1) := by simp [hk, he, hq]
        by_cases h2 : 120 ≤ a.count
        · exact commits_full R k e s qn b hk he hs hq h2
        · rw [Mod.Sk.commits, if_neg h1, if_neg h2] at hn
          exact (commitFrom_ne (by simp) hn).elim
      · exact commits_noq R k e s qn b hk he hs hq
    · exact commits_noe R k e s qn b hk he
  · exact commits_no3 R k e s qn b hk
theorem commits_room {a : Mod.Sk} (k e : Int) (s qn : Nat) (b : ByteArray) (h : a.count ≤ 120) : a.count + (a.commits k e s qn b).length ≤ 120 := by
  rw [Mod.Sk.commits]
  split
  · simpa using h
  · split
    · simpa using h
    · exact commitFrom_len (by simp; omega)

theorem skCells_log (a : Mod.Sk) (r : SRest) (lv : Nat → Value) (hv : Value) (s : Nat) (hs : s < 3) (v : Value) (x : List ByteArray) :
    (skCells a r lv hv).setIfInBounds (2 + s) v = skCells { a with logs := fun t => if t = s then x else a.logs t } r (updV lv s v) hv := by
  obtain rfl | rfl | rfl : s = 0 ∨ s = 1 ∨ s = 2 := by omega
  all_goals rfl
/-- A log has been laid anew, in its block or in a new one, and the sink's block says so. -/
theorem SkAt.logStep {w w1 : World} {p : Nat} {a : Mod.Sk} {r : SRest} {lv : Nat → Value} {hv : Value} (R : SkAt w p a r lv hv) (s : Nat) (hs : s < 3) {v' : Value} {x : List ByteArray} (hf : Far (fun k => (lv s).ownBlock = some k) w w1)
    (hl : ∀ g, v'.ownBlock = some g → (lv s).ownBlock = some g ∨ w.heap.size ≤ g) (hrow : RowO w1 9 1 v' x.length (strs x)) (hx : Mod.Sk.count { a with logs := fun t => if t = s then x else a.logs t } ≤ 120) :
    (∃ C, w1.heap[p]? = some (.cells C 132 (0, 0)) ∧ C[2 + s]? = some (lv s)) ∧ SkStep w (w1.setCell ⟨p, 2 + s, none⟩ v') p { a with logs := fun t => if t = s then x else a.logs t } r lv hv := by
  have hpl : ∀ t, t < 3 → (lv t).ownBlock ≠ some p := fun t ht => (R.logs t ht).ne R.blk (by decide)
  have hph : hv.ownBlock ≠ some p := R.held.ne R.blk (by decide)
  have hb1 := hf.blk R.blk (hpl s hs)
  have hnew : ∀ k, k < w.heap.size → v'.ownBlock = some k → (lv s).ownBlock = some k := fun k hk e => (hl k e).elim id (fun h => by omega)
  have hset := far_set w1 p (2 + s) v'
  refine ⟨⟨_, hb1, ?_⟩, updV lv s v', hv, ⟨?_, ?_, ?_, ?_, R.ep, hx, R.hl, R.hb⟩, ?_, ?_⟩
  · obtain rfl | rfl | rfl : s = 0 ∨ s = 1 ∨ s = 2 := by omega
    all_goals rfl
  · rw [← skCells_log a r lv hv s hs]
    exact blk_set hb1
  · intro t ht
    by_cases hts : t = s
    · subst hts
      rw [updV_same]
      simp only [if_true]
      refine hrow.far hset (fun g hg hgp => ?_)
      rw [hgp] at hg
      exact hpl t hs (hnew p (lt_of_block R.blk) hg)
    · rw [updV_other _ _ hts]
      simp only [if_neg hts]
      exact ((R.logs t ht).far hf (fun g hg hgs => R.apl t s ht hs hts g hg hgs)).far hset (fun g hg hgp => hpl t ht (by rw [hg, hgp]))
  · exact (R.held.far hf (fun g hg hgs => R.held.ty (R.logs s hs) (by decide) hg hgs)).far hset (fun g hg hgp => hph (by rw [hg, hgp]))
  · intro t u ht hu htu g hg
    by_cases hts : t = s
    · subst hts
      rw [updV_same] at hg
      rw [updV_other _ _ (fun e => htu e.symm)]
      intro hug
      have hlt := (R.logs u hu).lt g hug
      exact R.apl t u ht hu htu g (hnew g hlt hg) hug
    · rw [updV_other _ _ hts] at hg
      by_cases hus : u = s
      · subst hus
        rw [updV_same]
        intro hug
        exact R.apl t u ht hu htu g hg (hnew g ((R.logs t ht).lt g hg) hug)
      · rw [updV_other _ _ hus]
        exact R.apl t u ht hu htu g hg
  · exact (hf.mono (E' := SkU p lv hv) (fun k _ h => .inr (.inl ⟨s, hs, h⟩))).trans hset (fun k _ h => .inl h)
  · rintro k (rfl | ⟨t, ht, hk⟩ | hk)
    · exact .inl (.inl rfl)
    · by_cases hts : t = s
      · subst hts
        rw [updV_same] at hk
        rcases hl k hk with h | h
        · exact .inl (.inr (.inl ⟨t, ht, h⟩))
        · exact .inr h
      · rw [updV_other _ _ hts] at hk
        exact .inl (.inr (.inl ⟨t, ht, hk⟩))
    · exact .inl (.inr (.inr hk))
end Go.Proofs.YtamafdcnbcoegaaGreat
namespace Go.Proofs.YtamafdcnbcoegaaGreat
open Go.RowKit

theorem step_app_o_none {ops : Array Oper} {o : Oper} {a : Act} {K : Act → World → Prop} {Q : Exit → Act → World → Prop} {E : Prop} {w : World} (hgd : o.guard = none) (s x : Operand) (t : TypeId) (ho : o.op = .call { callee := .builtin .append, args := #[s, x], argTypes := #[t, t] })
    (e : TypeId) (i : TypeInfo) (size : Nat) (ht : Tryz.prog.underlying t = some (.slice e)) (hi : Tryz.prog.info? e = some i)
    (v : Value) (n : Nat) (xs : List Value) (hown : RowO w e size v n xs) (hs : a.eval s = v) (hx : a.eval x = .slice none 0 0)
    (h : K (a.put o.dst v) w) : if Region.wanted o (yielded ops a.tmps) = true then o.wp Tryz.prog a w K Q else E := by
  rw [if_pos (by simp [Region.wanted, hgd])]
  have hrun : (Builtin.append_ #[t, t] o.type #[v, .slice none 0 0]).run Tryz.prog w = .ok v w := by
    rcases hown.2 with ⟨rfl, rfl⟩ | ⟨g, o', cap, cur, rfl, _, hnc, _⟩
    · simp [Builtin.append_, run_underlying ht, sizeOf, typeInfo, hi, Builtin.lenOf, Builtin.firstCells]
    · simp [Builtin.append_, run_underlying ht, sizeOf, typeInfo, hi, Builtin.lenOf, Builtin.firstCells, hnc, storeCells]
  unfold Oper.wp
  simp [execOp, ho, resolve, invoke, builtin, hs, hx, hrun, Result.andThen]
  exact h
/-- append to a row that begins anywhere, in a region that draws its order. -/
theorem step_app_o {ops : Array Oper} {o : Oper} {a : Act} {K : Act → World → Prop} {Q : Exit → Act → World → Prop} {E : Prop} {w : World} (hgd : o.guard = none) (s x : Operand) (t : TypeId) (ho : o.op = .call { callee := .builtin .append, args := #[s, x], argTypes := #[t, t] })
    (e : TypeId) (z : Value) (size bytes : Nat) (ht : Tryz.prog.underlying t = some (.slice e)) (hinfo : (Tryz.prog.info? e).map (fun i => (i.zero, i.size, i.bytes)) = some (some z, size, bytes)) (hzs : z.cells.size = size)
    (v : Value) (n : Nat) (xs : List Value) (hown : RowO w e size v n xs) (hs : a.eval s = v) (ad : Addr) (m c : Nat) (news : List Value) (hx : a.eval x = .slice (some ad) m c) (hl : news.length = m * size) (hnews : ∀ j u, news[j]? = some u → w.cell? (ad.add j) = some u)
    (h1 : ∀ u ∈ news, u.oneCell' = true) (hm : 0 < m) (hb : (n + m) * bytes ≤ 140737488355328) (h63 : n + m ≤ 140737488355328)
    (h : ∀ v' w', RowO w' e size v' (n + m) (xs ++ news) → App w w' v v' → K (a.put o.dst v') w') : if Region.wanted o (yielded ops a.tmps) = true then o.wp Tryz.prog a w K Q else E := by
  rw [if_pos (by simp [Region.wanted, hgd])]
  obtain ⟨i0, hi, hz0, hz1, hz2⟩ := info_parts2 hinfo
  obtain ⟨v', w', hr, h2, h3⟩ := run_append_o (P := Tryz.prog) w t o.type e i0 z size bytes ht hi hz0 hz1 hz2 hzs v n xs hown ad m c news hl hnews h1 hm hb h63
  unfold Oper.wp execOp
  simp only [ho, resolve, invoke, builtin, Sem.run_bind, Sem.run_pure, Result.andThen_ok, List.map_toArray, List.map_cons, List.map_nil, hs, hx, hr]
  exact h v' w' h2 h3

theorem drew_set {w : World} {a : Addr} {v u : Value} (h : w.cell? a = some u) : (w.setCell a v).drew.cell? a = some v := by
  have := World.cell?_setCell_same w a v h
  exact this

/-- In the midst of take. -/
structure TLay (w : World) (p : Nat) (lv0 : Nat → Value) (hv0 : Value) (r : SRest) (k e st q : Int) (b : ByteArray) (a : Mod.Sk) (lv : Nat → Value) (hv : Value) (x : World) : Prop where
  far : Far (SkU p lv0 hv0) w x
  box : x.heap[w.heap.size]? = some (.cells #[.int .i64 k, .int .i64 e, .int .i64 st, .int .i64 q, .string b] 41 (0, 0))
  ref : SkAt x p a r lv hv
  loc : ∀ k, SkU p lv hv k → SkU p lv0 hv0 k ∨ w.heap.size < k
  old : ∀ k, SkU p lv0 hv0 k → k < w.heap.size
theorem tlay_of {w x : World} {p : Nat} {a : Mod.Sk} {r : SRest} {lv : Nat → Value} {hv : Value} {k e st q : Int} {b : ByteArray} (h : SLay w x p a r lv hv k e st q b) (ho : ∀ k, SkU p lv hv k → k < w.heap.size) : TLay w p lv hv r k e st q b a lv hv x :=
  ⟨far_below h.bel, h.box, h.ref, fun _ h => .inl h, ho⟩
theorem TLay.below {w x y : World} {p : Nat} {lv0 : Nat → Value} {hv0 : Value} {r : SRest} {k e st q : Int} {b : ByteArray} {a : Mod.Sk} {lv : Nat → Value} {hv : Value} (h : TLay w p lv0 hv0 r k e st q b a lv hv x) (hb : Below x.heap.size x y) : TLay w p lv0 hv0 r k e st q b a lv hv y :=
  ⟨h.far.trans (far_below (E := fun _ => False) hb) (fun _ _ h => h.elim), (hb.block _ (lt_of_block h.box)).trans h.box, h.ref.far (far_below (E := fun _ => False) hb) (fun _ _ h => h), h.loc, h.old⟩
theorem TLay.drew {w x : World} {p : Nat} {lv0 : Nat → Value} {hv0 : Value} {r : SRest} {k e st q : Int} {b : ByteArray} {a : Mod.Sk} {lv : Nat → Value} {hv : Value} (h : TLay w p lv0 hv0 r k e st q b a lv hv x) (n : Nat) : TLay w p lv0 hv0 r k e st q b a lv hv (x.drewN n) :=
  h.below (below_drewN (Below.refl _ _) n)
theorem TLay.step {w x y : World} {p : Nat} {lv0 : Nat → Value} {hv0 : Value} {r : SRest} {k e st q : Int} {b : ByteArray} {a a2 : Mod.Sk} {lv : Nat → Value} {hv : Value} (h : TLay w p lv0 hv0 r k e st q b a lv hv x) (hs : SkStep x y p a2 r lv hv) :
    ∃ lv2 hv2, TLay w p lv0 hv0 r k e st q b a2 lv2 hv2 y := by
  obtain ⟨lv2, hv2, h1, h2, h3⟩ := hs
  have hx := lt_of_block h.box
  refine ⟨lv2, hv2, h.far.trans h2 (fun j hj hu => (h.loc j hu).elim id (fun h => by omega)), (h2.rest _ hx (fun hu => ?_)).trans h.box, h1, fun j hj => (h3 j hj).elim (fun hu => h.loc j hu) (fun h => .inr (by omega)), h.old⟩
  rcases h.loc _ hu with hh | hh
  · exact absurd (h.old _ hh) (by omega)
  · omega
theorem TLay.done {w x : World} {p : Nat} {lv0 : Nat → Value} {hv0 : Value} {r : SRest} {k e st q : Int} {b : ByteArray} {a : Mod.Sk} {lv : Nat → Value} {hv : Value} (h : TLay w p lv0 hv0 r k e st q b a lv hv x) : SkStep w x p a r lv0 hv0 :=
  ⟨lv, hv, h.ref, h.far, fun j hj => (h.loc j hj).elim .inl (fun h => .inr (by omega))⟩

/-- The bits of an Ack: which of the records behind the next one are held. -/
def ackBits (a : Mod.Sk) (s up : Nat) : Nat → Nat
  | 0 => 0
  | i + 1 => ackBits a s up i + (if (a.ix s (up + 2 + i)).isSome then 2 ^ i else 0)
theorem ackBits_le (a : Mod.Sk) (s up : Nat) : ackBits a s up 3 ≤ 7 := by
  simp only [ackBits]
  split <;> split <;> split <;> omega
theorem ackBits_lt (a : Mod.Sk) (s up : Nat) : ∀ j, ackBits a s up j < 2 ^ j
  | 0 => by simp [ackBits]
  | j + 1 => by
    have := ackBits_lt a s up j
    rw [ackBits, Nat.pow_succ]
    split <;> omega
def ackBody (a : Mod.Sk) (s up : Nat) : ByteArray := ⟨#[UInt8.ofNat (ackBits a s up 3)]⟩
theorem ack_proper {a : Mod.Sk} {s up : Nat} (he : a.epoch ≤ 2147483647) (hs : s < 3) (hu : up ≤ 2147483647) : Wire.proper 4 a.epoch s up (ackBody a s up) = true := by
  have h7 := ackBits_le a s up
  have e1 : Wire.isNum (a.epoch : Int) = true := by simp [Wire.isNum]; omega
  have e2 : Wire.isNum (up : Int) = true := by simp [Wire.isNum]; omega
  have e3 : Wire.isStr (s : Int) = true := by simp [Wire.isStr]; omega
  have e4 : Wire.ackBody (ackBody a s up) = true := by
    have : (UInt8.ofNat (ackBits a s up 3)).toNat = ackBits a s up 3 := by simp [UInt8.toNat_ofNat']; omega
    simp [Wire.ackBody, ackBody, this, ByteArray.size]
    omega
  simp [Wire.proper, e1, e2, e3, e4]
theorem logs_same (a : Mod.Sk) (s : Nat) : ({ a with logs := fun t => if t = s then a.logs s else a.logs t } : Mod.Sk) = a := by
  have : (fun t => if t = s then a.logs s else a.logs t) = a.logs := by
    funext t
    by_cases h : t = s <;> simp [h]
  rw [this]
end Go.Proofs.YtamafdcnbcoegaaGreat
namespace Go.Proofs.YtamafdcnbcoegaaGreat
open Go.RowKit

/-- What is held behind a record that is not the next one. -/
def holdIt (a : Mod.Sk) (s q : Nat) (b : ByteArray) : Mod.Sk :=
  if (a.logs s).length + 2 ≤ q ∧ q ≤ (a.logs s).length + 4 ∧ a.ix s q = none then { a with held := a.held ++ [(s, q, b)] } else a
theorem holdIt_epoch (a : Mod.Sk) (s q : Nat) (b : ByteArray) : (holdIt a s q b).epoch = a.epoch := by
  unfold holdIt
  split <;> rfl
theorem heldCells_snoc' (l : List (Nat × Nat × ByteArray)) (s q : Nat) (b : ByteArray) : heldCells (l ++ [(s, q, b)]) = heldCells l ++ [.int .i64 s, .int .i64 q, .string b] := by simp [heldCells]

set_option maxRecDepth 100000 in
set_option maxHeartbeats 4000000 in
theorem skTake_none {w : World} {p : Nat} {a : Mod.Sk} {r : SRest} {lv : Nat → Value} {hv : Value} (R : SkAt w p a r lv hv) (k e : Int) (s qn : Nat) (b : ByteArray) (hs : s < 3) (hqm : qn ≤ 2147483647) (hn : a.commits k e s qn b = []) (hroom : a.held.length < 1000) :
    Calls Tryz.prog 214 #[.pointer (some ⟨p, 0, none⟩), .agg #[.int .i64 k, .int .i64 e, .int .i64 s, .int .i64 qn, .string b]] w fun x w' =>
      x = .returned (.string ⟨(Wire.bytes 4 a.epoch s (a.logs s).length (ackBody (holdIt a s qn b) s (a.logs s).length).data.toList).toArray⟩) ∧ SkStep w w' p (holdIt a s qn b) r lv hv := by
  have DD := hide (slay_new R k e s qn b)
  have OLD := hide R.lt
  have hs3 : (s : Int) < 3 := by omega
  have hlen := R.len s hs
  obtain ⟨i0, hi, _, _, _⟩ := info_parts2 infoStr
  have HN := hide hn
  have HR := hide hroom
  clear R hn hroom
  go_enter Tryz.func214, Tryz.ntmps214
  go_upto_region 2 with fail
  refine wp_world (fun x => SLay w x p a r lv hv k e s qn b) (unhide DD) ?_
  clear DD
  intro x L
  have y0 := blk_cell (i := 0) L.box
  have y1 := blk_cell (i := 1) L.box
  have y2 := blk_cell (i := 2) L.box
  have y3 := blk_cell (i := 3) L.box
  have y4 := blk_cell (i := 4) L.box
  simp at y0 y1 y2 y3 y4
  have HC := hide (commits_nil L.ref k e s qn b hs (unhide HN))
  have LL := hide L
  clear L
  go_upto_region 3 with (go_at_call 178; refine (unhide HC).mono ?_; rintro y w1 ⟨rfl, hb1⟩; have L1 := (unhide LL).below hb1; have LL1 := hide L1; clear hb1 L1)
  clear y0 y1 y2 y3 y4 LL HC
  have cs := sk_at (unhide LL1).ref s hs
  obtain ⟨la, lc, hla, _⟩ := ((unhide LL1).ref.logs s hs).shape
  have hq := (unhide LL1).ref.logStep s hs (w1 := w1) (v' := lv s) (x := a.logs s) (Far.refl _ _) (fun g hg => .inl hg) ((unhide LL1).ref.logs s hs) (by rw [logs_same]; exact (unhide LL1).ref.ll)
  rw [logs_same] at hq
  have T4 := hide ((tlay_of (unhide LL1) (unhide OLD)).step hq.2)
  have f1 := blk_free (i := 2 + s) (unhide LL1).ref.blk
  have HROW := hide ((unhide LL1).ref.logs s hs)
  rw [hla] at cs T4 HROW
  have HCS := hide cs
  clear hq hla LL1
  go_region_held3 (fun w' => w'.cell? ⟨p, 2 + s, none⟩ = some (.slice la (a.logs s).length lc))
    (first | exact drew_set (unhide HCS) | go_keep)
    ((refine step_app_o_none rfl (.tmp 25) (.tmp 26) 45 rfl 9 i0 1 Tryz.underlying45 hi (.slice la (a.logs s).length lc) (a.logs s).length (strs (a.logs s)) (unhide HROW) rfl rfl ?_))
  go_upto_region 4 with fail
  refine wp_world (fun x => ∃ lv2 hv2, TLay w p lv hv r k e s qn b a lv2 hv2 x) (by obtain ⟨_, _, T⟩ := unhide T4; exact ⟨_, _, T.below (Below.refl _ _).drew⟩) ?_
  clear T4 HROW cs f1
  rintro x4 ⟨lv4, hv4, T⟩
  have cs := sk_at T.ref s hs
  obtain ⟨la, lc, hla, _⟩ := (T.ref.logs s hs).shape
  rw [hla] at cs
  obtain ⟨up, hup⟩ : ∃ up, up = (a.logs s).length := ⟨_, rfl⟩
  rw [← hup] at cs hlen
  have y3 := blk_cell (i := 3) T.box
  have y4 := blk_cell (i := 4) T.box
  simp at y3 y4
  have HU := hide hup
  have TT := hide T
  clear T hla
  rw [← hup]
  clear hup
  go_upto_region 8 with (first | (go_at_call 213; (first | (refine (skHeld_any (unhide TT).ref s qn).mono ?_) | (refine (skHeld_any ((unhide TT).drew _).ref s qn).mono ?_)); rintro y w9 ⟨rfl, rfl⟩))
  have HCASE : Hid (holdIt a s qn b = if up + 2 ≤ qn ∧ qn ≤ up + 4 ∧ a.ix s qn = none then { a with held := a.held ++ [(s, qn, b)] } else a) := by rw [unhide HU]; rfl
  have HIX : Hid (Mod.ixInt (a.ix s qn) < 0 ↔ a.ix s qn = none) := by
    cases a.ix s qn with
    | none => simp [Mod.ixInt, Hid]
    | some i => simp [Mod.ixInt, Hid]
  obtain ⟨ai, hai⟩ : ∃ ai, ai = Mod.ixInt (a.ix s qn) := ⟨_, rfl⟩
  rw [← hai] at HIX ⊢
  clear hai
  by_cases hd2 : 2 ≤ (qn : Int) - up
  · by_cases hd4 : (qn : Int) - up ≤ 4
    · by_cases hneg : ai < 0
      · have HA := hide (show holdIt a s qn b = { a with held := a.held ++ [(s, qn, b)] } by rw [unhide HCASE, if_pos ⟨by omega, by omega, (unhide HIX).1 hneg⟩])
        have HROW := hide (unhide TT).ref.held
        obtain ⟨ha, hc, hha, _⟩ := (unhide TT).ref.held.shape
        have c5 := blk_cell (i := 5) (unhide TT).ref.blk
        have f5 := blk_free (i := 5) (unhide TT).ref.blk
        simp [skCells] at c5
        have HB := hide (unhide TT).ref.hb
        obtain ⟨hn5, hhn5⟩ : ∃ hn5, hn5 = a.held.length := ⟨_, rfl⟩
        have HN5 := hide hhn5
        rw [hha, ← hhn5] at c5
        rw [hha, ← hhn5] at HROW
        have hroom := unhide HR
        rw [← hhn5] at hroom
        have c5a : (w9.alloc (.cells #[.int .i64 s, .int .i64 qn, .string b] 281)).cell? ⟨p, 5, none⟩ = some (.slice ha hn5 hc) := (((Below.refl _ _).alloc (Nat.le_refl _) _).cell (p := ⟨p, 5, none⟩) (lt_of_block (unhide TT).ref.blk)).trans c5
        have HHA := hide hha
        clear hha hhn5
        go_upto_region 10 with fail
        go_region_law (refine step_app_o rfl (.tmp 73) (.tmp 80) 130 rfl 281 _ 3 32 Tryz.underlying130 infoHeld rfl (.slice ha hn5 hc) hn5 (heldCells a.held) ((unhide HROW).keep (fun g hg => Below.heap_alloc w9 _ g ((unhide HROW).lt g hg))) rfl ⟨w9.heap.size, 0, none⟩ 1 1 [.int .i64 s, .int .i64 qn, .string b] rfl rfl cells_new (by intro u hu; simp at hu; rcases hu with rfl | rfl | rfl <;> rfl) (by omega) (by omega) (by omega) ?_; intro v' w1 hrow happ; rw [← heldCells_snoc'] at hrow; have hq := (unhide TT).ref.heldStep (x := a.held ++ [(s, qn, b)]) (by have := far_app (w := w9) (by first | exact (Below.refl _ _).alloc (Nat.le_refl _) _ | exact ((Below.refl _ _).alloc (Nat.le_refl _) _).drew | exact ((Below.refl _ _).alloc (Nat.le_refl _) _).drew.drew | exact (Below.refl _ _).drew.alloc (Nat.le_refl _) _) happ; rw [unhide HN5, ← unhide HHA] at this; exact this) (by have := app_loc (w := w9) (by first | exact (Below.refl _ _).alloc (Nat.le_refl _) _ | exact ((Below.refl _ _).alloc (Nat.le_refl _) _).drew | exact ((Below.refl _ _).alloc (Nat.le_refl _) _).drew.drew | exact (Below.refl _ _).drew.alloc (Nat.le_refl _) _) happ; rw [unhide HN5, ← unhide HHA] at this; exact this) (by rw [unhide HN5] at hrow; simpa using hrow) (by have := unhide HN5; simp; omega) (by intro h hh; simp at hh; rcases hh with hh | hh; exact (unhide HB) h hh; subst hh; exact ⟨hs, hqm⟩); obtain ⟨⟨C, hpC, hC⟩, hst⟩ := hq; have y1 := (blk_cell (i := 5) hpC).trans hC; have f1 := blk_free (i := 5) hpC; obtain ⟨va, vc, hva, _⟩ := hrow.shape; have HST := hide hst; clear happ hst hpC hC hrow; subst hva)
        all_goals
          have HSUM : Hid (∃ lv2 hv2, TLay w p lv hv r k e s qn b (holdIt a s qn b) lv2 hv2 (w1.setCell ⟨p, 5, none⟩ (.slice va (hn5 + 1) vc))) := by
            rw [unhide HA]
            exact (unhide TT).step (unhide HST)
          clear HST HROW HB HHA HN5 TT c5 c5a f5 y1 f1
          go_upto_region 11 with fail
          refine wp_world (fun x => ∃ lv2 hv2, TLay w p lv hv r k e s qn b (holdIt a s qn b) lv2 hv2 x) (by first | exact unhide HSUM | (obtain ⟨_, _, T⟩ := unhide HSUM; exact ⟨_, _, T.drew _⟩)) ?_
          clear HSUM HA HCASE HIX cs y3 y4
          rintro x5 ⟨lv5, hv5, T5⟩
          obtain ⟨a2, ha2⟩ : ∃ a2, a2 = holdIt a s qn b := ⟨_, rfl⟩
          rw [← ha2] at T5
          have HA2 := hide ha2
          have TT5 := hide T5
          clear T5 ha2
          go_wp2
          go_loopw [10, 11] (fun v i wr => ∃ j : Nat, j ≤ 3 ∧ i = .int .i64 j ∧ v = .int .i64 (ackBits a2 s up j : Nat) ∧ TLay w p lv hv r k e s qn b a2 lv5 hv5 wr) (fun _ i _ => 3 - (intOf i).toNat)
          case atStart => exact ⟨0, by omega, rfl, rfl, unhide TT5⟩
          case round =>
            obtain ⟨j, hj, rfl, rfl, T⟩ := hrel
            clear TT5
            by_cases hlt : j < 3
            · have HH := skHeld_any T.ref s (up + 2 + j)
              rw [show ((up + 2 + j : Nat) : Int) = (up : Int) + 2 + j by omega] at HH
              have TT := hide T
              clear T
              have HB := hide (show ackBits a2 s up (j + 1) = ackBits a2 s up j + (if (a2.ix s (up + 2 + j)).isSome then 2 ^ j else 0) from rfl)
              have hbj : ackBits a2 s up j < 8 := by have := ackBits_lt a2 s up j; obtain rfl | rfl | rfl : j = 0 ∨ j = 1 ∨ j = 2 := by omega
                                                     all_goals omega
              cases hix : a2.ix s (up + 2 + j) with
              | none =>
                rw [hix] at HH HB
                have HHH := hide HH
                clear HH hix
                go_wp2_with (go_at_call 213; refine (unhide HHH).mono ?_; rintro y w9 ⟨rfl, rfl⟩; simp only [Mod.ixInt])
                go_roundw
                case rel => exact ⟨j + 1, by omega, by go_num, by rw [unhide HB]; rfl, unhide TT⟩
                case measure => simp [intOf]; omega
              | some i =>
                rw [hix] at HH HB
                have HHH := hide HH
                clear HH hix
                obtain ⟨t, ht⟩ : ∃ t, t = ackBits a2 s up j := ⟨_, rfl⟩
                rw [← ht] at hbj HB ⊢
                clear ht
                obtain rfl | rfl | rfl : j = 0 ∨ j = 1 ∨ j = 2 := by omega
                all_goals
                  go_wp2_with (go_at_call 213; refine (unhide HHH).mono ?_; rintro y w9 ⟨rfl, rfl⟩; simp only [Mod.ixInt])
                  go_roundw
                  case rel => first | exact ⟨0 + 1, by omega, rfl, by rw [unhide HB]; rfl, unhide TT⟩ | exact ⟨1 + 1, by omega, rfl, by rw [unhide HB]; rfl, unhide TT⟩ | exact ⟨2 + 1, by omega, rfl, by rw [unhide HB]; rfl, unhide TT⟩
                  case measure => simp [intOf]
            · have hj3 : j = 3 := by omega
              subst hj3
              have c0 := blk_cell (i := 0) T.ref.blk
              simp [skCells] at c0
              have h7 := ackBits_le a2 s up
              have hwb : IntKind.u8.wrap ((ackBits a2 s up 3 : Nat) : Int) = ackBits a2 s up 3 := by rw [IntKind.wrap_u8]; omega
              have HP := hide (ack_proper (a := a2) (s := s) (up := up) T.ref.ep hs (by omega))
              have hpl := lt_of_block T.ref.blk
              have TT := hide T
              clear T
              have HS1 := hide (show s1 ((ackBits a2 s up 3 : Nat) : Int) = ackBody a2 s up by simp [s1, ackBody, Nat.mod_eq_of_lt (show ackBits a2 s up 3 < 256 by omega)])
              have HBY := fun x => hide (refBytes_any 4 a2.epoch s up (ackBody a2 s up) x (unhide HP))
              obtain ⟨RES, hRES⟩ : ∃ RES : ByteArray, RES = ⟨(Wire.bytes 4 a2.epoch s up (ackBody a2 s up).data.toList).toArray⟩ := ⟨_, rfl⟩
              rw [← hRES] at HBY
              have HRES := hide hRES
              obtain ⟨B, hB⟩ : ∃ B, B = ackBody a2 s up := ⟨_, rfl⟩
              rw [← hB] at HBY HS1
              have HBB := hide hB
              obtain ⟨t, ht⟩ : ∃ t, t = ackBits a2 s up 3 := ⟨_, rfl⟩
              rw [← ht] at HS1 hwb h7 ⊢
              clear hRES hB ht
              have co := fun v w => conv_one (n := (t : Int)) (by omega) (by omega) (v := v) (w := w)
              rw [unhide HS1] at co
              go_upto_region 18 with fail
              refine wp_region_frame (by kernel_rfl)
                [fun v _ => v = .pointer (some ⟨p, 0, none⟩), fun v _ => v = .pointer (some ⟨p, 0, none⟩), fun v _ => v = .pointer (some ⟨p, 0, none⟩), fun v _ => v = .int .i64 a2.epoch, fun v _ => v = .int .i64 s, fun v _ => v = .int .i64 up, fun v _ => v = .int .i64 t, fun v _ => v = .int .u8 t, OneB t, fun v _ => v = .string B,
                 fun v _ => v = .agg #[.int .i64 4, .int .i64 a2.epoch, .int .i64 s, .int .i64 up, .string B], fun v _ => v = .string RES, fun v _ => v = .string RES]
                [[(0, none)], [(101, some 0)], [(102, some 1)], [(103, some 2)], [(5, none)], [(7, none)], [(10, none)], [(107, some 6)], [(108, some 7)], [(109, some 8)], [(104, some 3), (105, some 4), (106, some 5), (110, some 9)], [(111, some 10)], [(112, some 11)]]
                [some 101, some 102, some 103, some 104, some 105, some 106, some 107, some 108, some 109, some 110, some 111, some 112, some 4]
                [false, false, false, false, true, false, false, false, false, false, false, false, false, false, false, false, false, false, false, false, false, false, false, false, false, false, false, false, false, false, false, false, false, false, false, false, false, false, false, false, false, false, false, false, false, false, false, false, false, false, false, false, false, false, false, false, false, false, false, false, false, false, false, false, false, false, false, false, false, false, false, false, false, false, false, false, false, false, false, false, false, false, false, false, false, false, false, false, false, false, false, false, false, false, false, false, false, false, false, false, false, true, true, true, true, true, true, true, true, true, true, true, true]
                (by kernel_rfl) (by kernel_rfl) (by kernel_rfl) (by kernel_rfl) ?_ ?_ ?_
              · repeat' (first | exact stable_eq _ | exact stable_oneB _ | exact trivial | apply And.intro)
              · refine ⟨?_, ?_, ?_, ?_, ?_, ?_, ?_, ?_, ?_, ?_, ?_, ?_, ?_, trivial⟩
                all_goals
                  intro a x hb hf
                  have y0 := (hb.cell (p := ⟨p, 0, none⟩) hpl).trans c0
                  clear hb
                  simp only [PlanFacts, List.getD_cons_zero, List.getD_cons_succ, Array.getD_eq_getD_getElem?] at hf
                  try simp at hf
                  try go_simp
                  try exact Below.refl _ _
                all_goals first
                  | exact ⟨rfl, Below.refl _ _⟩
                  | exact ⟨_, rfl, (Below.refl _ _).alloc (Nat.le_refl _) _, _, rfl, by simp⟩
                  | (refine (unhide (HBY _)).mono ?_; rintro r w1 ⟨rfl, hb1⟩; exact ⟨rfl, hb1⟩)
              · intro f w2 hb hwd
                simp only [AllWords] at hwd
                have hf4 := hwd.2.2.2.2.2.2.2.2.2.2.2.2.1
                have T2 := hide ((unhide TT).below hb)
                clear hwd hb TT c0
                simp only [mergeT, hf4]
                go_wp2
                go_ret
                refine ⟨?_, ?_⟩
                · rw [unhide HRES, unhide HA2, holdIt_epoch, unhide HU]
                  rfl
                · rw [← unhide HA2]
                  exact (unhide T2).done
      · have HA := hide (show holdIt a s qn b = a by rw [unhide HCASE, if_neg (fun h => hneg ((unhide HIX).2 h.2.2))])
        have HSUM : Hid (∃ lv2 hv2, TLay w p lv hv r k e s qn b (holdIt a s qn b) lv2 hv2 w9) := by
          rw [unhide HA]
          exact ⟨_, _, unhide TT⟩
        clear TT
        go_upto_region 11 with fail
        refine wp_world (fun x => ∃ lv2 hv2, TLay w p lv hv r k e s qn b (holdIt a s qn b) lv2 hv2 x) (by first | exact unhide HSUM | (obtain ⟨_, _, T⟩ := unhide HSUM; exact ⟨_, _, T.drew _⟩)) ?_
        clear HSUM HA HCASE HIX cs y3 y4
        rintro x5 ⟨lv5, hv5, T5⟩
        obtain ⟨a2, ha2⟩ : ∃ a2, a2 = holdIt a s qn b := ⟨_, rfl⟩
        rw [← ha2] at T5
        have HA2 := hide ha2
        have TT5 := hide T5
        clear T5 ha2
        go_wp2
        go_loopw [10, 11] (fun v i wr => ∃ j : Nat, j ≤ 3 ∧ i = .int .i64 j ∧ v = .int .i64 (ackBits a2 s up j : Nat) ∧ TLay w p lv hv r k e s qn b a2 lv5 hv5 wr) (fun _ i _ => 3 - (intOf i).toNat)
        case atStart => exact ⟨0, by omega, rfl, rfl, unhide TT5⟩
        case round =>
          obtain ⟨j, hj, rfl, rfl, T⟩ := hrel
          clear TT5
          by_cases hlt : j < 3
          · have HH := skHeld_any T.ref s (up + 2 + j)
            rw [show ((up + 2 + j : Nat) : Int) = (up : Int) + 2 + j by omega] at HH
            have TT := hide T
            clear T
            have HB := hide (show ackBits a2 s up (j + 1) = ackBits a2 s up j + (if (a2.ix s (up + 2 + j)).isSome then 2 ^ j else 0) from rfl)
            have hbj : ackBits a2 s up j < 8 := by have := ackBits_lt a2 s up j; obtain rfl | rfl | rfl : j = 0 ∨ j = 1 ∨ j = 2 := by omega
                                                   all_goals omega
            cases hix : a2.ix s (up + 2 + j) with
            | none =>
              rw [hix] at HH HB
              have HHH := hide HH
              clear HH hix
              go_wp2_with (go_at_call 213; refine (unhide HHH).mono ?_; rintro y w9 ⟨rfl, rfl⟩; simp only [Mod.ixInt])
              go_roundw
              case rel => exact ⟨j + 1, by omega, by go_num, by rw [unhide HB]; rfl, unhide TT⟩
              case measure => simp [intOf]; omega
            | some i =>
              rw [hix] at HH HB
              have HHH := hide HH
              clear HH hix
              obtain ⟨t, ht⟩ : ∃ t, t = ackBits a2 s up j := ⟨_, rfl⟩
              rw [← ht] at hbj HB ⊢
              clear ht
              obtain rfl | rfl | rfl : j = 0 ∨ j = 1 ∨ j = 2 := by omega
              all_goals
                go_wp2_with (go_at_call 213; refine (unhide HHH).mono ?_; rintro y w9 ⟨rfl, rfl⟩; simp only [Mod.ixInt])
                go_roundw
                case rel => first | exact ⟨0 + 1, by omega, rfl, by rw [unhide HB]; rfl, unhide TT⟩ | exact ⟨1 + 1, by omega, rfl, by rw [unhide HB]; rfl, unhide TT⟩ | exact ⟨2 + 1, by omega, rfl, by rw [unhide HB]; rfl, unhide TT⟩
                case measure => simp [intOf]
          · have hj3 : j = 3 := by omega
            subst hj3
            have c0 := blk_cell (i := 0) T.ref.blk
            simp [skCells] at c0
            have h7 := ackBits_le a2 s up
            have hwb : IntKind.u8.wrap ((ackBits a2 s up 3 : Nat) : Int) = ackBits a2 s up 3 := by rw [IntKind.wrap_u8]; omega
            have HP := hide (ack_proper (a := a2) (s := s) (up := up) T.ref.ep hs (by omega))
            have hpl := lt_of_block T.ref.blk
            have TT := hide T
            clear T
            have HS1 := hide (show s1 ((ackBits a2 s up 3 : Nat) : Int) = ackBody a2 s up by simp [s1, ackBody, Nat.mod_eq_of_lt (show ackBits a2 s up 3 < 256 by omega)])
            have HBY := fun x => hide (refBytes_any 4 a2.epoch s up (ackBody a2 s up) x (unhide HP))
            obtain ⟨RES, hRES⟩ : ∃ RES : ByteArray, RES = ⟨(Wire.bytes 4 a2.epoch s up (ackBody a2 s up).data.toList).toArray⟩ := ⟨_, rfl⟩
            rw [← hRES] at HBY
            have HRES := hide hRES
            obtain ⟨B, hB⟩ : ∃ B, B = ackBody a2 s up := ⟨_, rfl⟩
            rw [← hB] at HBY HS1
            have HBB := hide hB
            obtain ⟨t, ht⟩ : ∃ t, t = ackBits a2 s up 3 := ⟨_, rfl⟩
            rw [← ht] at HS1 hwb h7 ⊢
            clear hRES hB ht
            have co := fun v w => conv_one (n := (t : Int)) (by omega) (by omega) (v := v) (w := w)
            rw [unhide HS1] at co
            go_upto_region 18 with fail
            refine wp_region_frame (by kernel_rfl)
              [fun v _ => v = .pointer (some ⟨p, 0, none⟩), fun v _ => v = .pointer (some ⟨p, 0, none⟩), fun v _ => v = .pointer (some ⟨p, 0, none⟩), fun v _ => v = .int .i64 a2.epoch, fun v _ => v = .int .i64 s, fun v _ => v = .int .i64 up, fun v _ => v = .int .i64 t, fun v _ => v = .int .u8 t, OneB t, fun v _ => v = .string B,
               fun v _ => v = .agg #[.int .i64 4, .int .i64 a2.epoch, .int .i64 s, .int .i64 up, .string B], fun v _ => v = .string RES, fun v _ => v = .string RES]
              [[(0, none)], [(101, some 0)], [(102, some 1)], [(103, some 2)], [(5, none)], [(7, none)], [(10, none)], [(107, some 6)], [(108, some 7)], [(109, some 8)], [(104, some 3), (105, some 4), (106, some 5), (110, some 9)], [(111, some 10)], [(112, some 11)]]
              [some 101, some 102, some 103, some 104, some 105, some 106, some 107, some 108, some 109, some 110, some 111, some 112, some 4]
              [false, false, false, false, true, false, false, false, false, false, false, false, false, false, false, false, false, false, false, false, false, false, false, false, false, false, false, false, false, false, false, false, false, false, false, false, false, false, false, false, false, false, false, false, false, false, false, false, false, false, false, false, false, false, false, false, false, false, false, false, false, false, false, false, false, false, false, false, false, false, false, false, false, false, false, false, false, false, false, false, false, false, false, false, false, false, false, false, false, false, false, false, false, false, false, false, false, false, false, false, false, true, true, true, true, true, true, true, true, true, true, true, true]
              (by kernel_rfl) (by kernel_rfl) (by kernel_rfl) (by kernel_rfl) ?_ ?_ ?_
            · repeat' (first | exact stable_eq _ | exact stable_oneB _ | exact trivial | apply And.intro)
            · refine ⟨?_, ?_, ?_, ?_, ?_, ?_, ?_, ?_, ?_, ?_, ?_, ?_, ?_, trivial⟩
              all_goals
                intro a x hb hf
                have y0 := (hb.cell (p := ⟨p, 0, none⟩) hpl).trans c0
                clear hb
                simp only [PlanFacts, List.getD_cons_zero, List.getD_cons_succ, Array.getD_eq_getD_getElem?] at hf
                try simp at hf
                try go_simp
                try exact Below.refl _ _
              all_goals first
                | exact ⟨rfl, Below.refl _ _⟩
                | exact ⟨_, rfl, (Below.refl _ _).alloc (Nat.le_refl _) _, _, rfl, by simp⟩
                | (refine (unhide (HBY _)).mono ?_; rintro r w1 ⟨rfl, hb1⟩; exact ⟨rfl, hb1⟩)
            · intro f w2 hb hwd
              simp only [AllWords] at hwd
              have hf4 := hwd.2.2.2.2.2.2.2.2.2.2.2.2.1
              have T2 := hide ((unhide TT).below hb)
              clear hwd hb TT c0
              simp only [mergeT, hf4]
              go_wp2
              go_ret
              refine ⟨?_, ?_⟩
              · rw [unhide HRES, unhide HA2, holdIt_epoch, unhide HU]
                rfl
              · rw [← unhide HA2]
                exact (unhide T2).done
    · have HA := hide (show holdIt a s qn b = a by rw [unhide HCASE, if_neg (fun h => hd4 (by omega))])
      have HSUM : Hid (∃ lv2 hv2, TLay w p lv hv r k e s qn b (holdIt a s qn b) lv2 hv2 w9) := by
        rw [unhide HA]
        exact ⟨_, _, unhide TT⟩
      clear TT
      go_upto_region 11 with fail
      refine wp_world (fun x => ∃ lv2 hv2, TLay w p lv hv r k e s qn b (holdIt a s qn b) lv2 hv2 x) (by first | exact unhide HSUM | (obtain ⟨_, _, T⟩ := unhide HSUM; exact ⟨_, _, T.drew _⟩)) ?_
      clear HSUM HA HCASE HIX cs y3 y4
      rintro x5 ⟨lv5, hv5, T5⟩
      obtain ⟨a2, ha2⟩ : ∃ a2, a2 = holdIt a s qn b := ⟨_, rfl⟩
      rw [← ha2] at T5
      have HA2 := hide ha2
      have TT5 := hide T5
      clear T5 ha2
      go_wp2
      go_loopw [10, 11] (fun v i wr => ∃ j : Nat, j ≤ 3 ∧ i = .int .i64 j ∧ v = .int .i64 (ackBits a2 s up j : Nat) ∧ TLay w p lv hv r k e s qn b a2 lv5 hv5 wr) (fun _ i _ => 3 - (intOf i).toNat)
      case atStart => exact ⟨0, by omega, rfl, rfl, unhide TT5⟩
      case round =>
        obtain ⟨j, hj, rfl, rfl, T⟩ := hrel
        clear TT5
        by_cases hlt : j < 3
        · have HH := skHeld_any T.ref s (up + 2 + j)
          rw [show ((up + 2 + j : Nat) : Int) = (up : Int) + 2 + j by omega] at HH
          have TT := hide T
          clear T
          have HB := hide (show ackBits a2 s up (j + 1) = ackBits a2 s up j + (if (a2.ix s (up + 2 + j)).isSome then 2 ^ j else 0) from rfl)
          have hbj : ackBits a2 s up j < 8 := by have := ackBits_lt a2 s up j; obtain rfl | rfl | rfl : j = 0 ∨ j = 1 ∨ j = 2 := by omega
                                                 all_goals omega
          cases hix : a2.ix s (up + 2 + j) with
          | none =>
            rw [hix] at HH HB
            have HHH := hide HH
            clear HH hix
            go_wp2_with (go_at_call 213; refine (unhide HHH).mono ?_; rintro y w9 ⟨rfl, rfl⟩; simp only [Mod.ixInt])
            go_roundw
            case rel => exact ⟨j + 1, by omega, by go_num, by rw [unhide HB]; rfl, unhide TT⟩
            case measure => simp [intOf]; omega
          | some i =>
            rw [hix] at HH HB
            have HHH := hide HH
            clear HH hix
            obtain ⟨t, ht⟩ : ∃ t, t = ackBits a2 s up j := ⟨_, rfl⟩
            rw [← ht] at hbj HB ⊢
            clear ht
            obtain rfl | rfl | rfl : j = 0 ∨ j = 1 ∨ j = 2 := by omega
            all_goals
              go_wp2_with (go_at_call 213; refine (unhide HHH).mono ?_; rintro y w9 ⟨rfl, rfl⟩; simp only [Mod.ixInt])
              go_roundw
              case rel => first | exact ⟨0 + 1, by omega, rfl, by rw [unhide HB]; rfl, unhide TT⟩ | exact ⟨1 + 1, by omega, rfl, by rw [unhide HB]; rfl, unhide TT⟩ | exact ⟨2 + 1, by omega, rfl, by rw [unhide HB]; rfl, unhide TT⟩
              case measure => simp [intOf]
        · have hj3 : j = 3 := by omega
          subst hj3
          have c0 := blk_cell (i := 0) T.ref.blk
          simp [skCells] at c0
          have h7 := ackBits_le a2 s up
          have hwb : IntKind.u8.wrap ((ackBits a2 s up 3 : Nat) : Int) = ackBits a2 s up 3 := by rw [IntKind.wrap_u8]; omega
          have HP := hide (ack_proper (a := a2) (s := s) (up := up) T.ref.ep hs (by omega))
          have hpl := lt_of_block T.ref.blk
          have TT := hide T
          clear T
          have HS1 := hide (show s1 ((ackBits a2 s up 3 : Nat) : Int) = ackBody a2 s up by simp [s1, ackBody, Nat.mod_eq_of_lt (show ackBits a2 s up 3 < 256 by omega)])
          have HBY := fun x => hide (refBytes_any 4 a2.epoch s up (ackBody a2 s up) x (unhide HP))
          obtain ⟨RES, hRES⟩ : ∃ RES : ByteArray, RES = ⟨(Wire.bytes 4 a2.epoch s up (ackBody a2 s up).data.toList).toArray⟩ := ⟨_, rfl⟩
          rw [← hRES] at HBY
          have HRES := hide hRES
          obtain ⟨B, hB⟩ : ∃ B, B = ackBody a2 s up := ⟨_, rfl⟩
          rw [← hB] at HBY HS1
          have HBB := hide hB
          obtain ⟨t, ht⟩ : ∃ t, t = ackBits a2 s up 3 := ⟨_, rfl⟩
          rw [← ht] at HS1 hwb h7 ⊢
          clear hRES hB ht
          have co := fun v w => conv_one (n := (t : Int)) (by omega) (by omega) (v := v) (w := w)
          rw [unhide HS1] at co
          go_upto_region 18 with fail
          refine wp_region_frame (by kernel_rfl)
            [fun v _ => v = .pointer (some ⟨p, 0, none⟩), fun v _ => v = .pointer (some ⟨p, 0, none⟩), fun v _ => v = .pointer (some ⟨p, 0, none⟩), fun v _ => v = .int .i64 a2.epoch, fun v _ => v = .int .i64 s, fun v _ => v = .int .i64 up, fun v _ => v = .int .i64 t, fun v _ => v = .int .u8 t, OneB t, fun v _ => v = .string B,
             fun v _ => v = .agg #[.int .i64 4, .int .i64 a2.epoch, .int .i64 s, .int .i64 up, .string B], fun v _ => v = .string RES, fun v _ => v = .string RES]
            [[(0, none)], [(101, some 0)], [(102, some 1)], [(103, some 2)], [(5, none)], [(7, none)], [(10, none)], [(107, some 6)], [(108, some 7)], [(109, some 8)], [(104, some 3), (105, some 4), (106, some 5), (110, some 9)], [(111, some 10)], [(112, some 11)]]
            [some 101, some 102, some 103, some 104, some 105, some 106, some 107, some 108, some 109, some 110, some 111, some 112, some 4]
            [false, false, false, false, true, false, false, false, false, false, false, false, false, false, false, false, false, false, false, false, false, false, false, false, false, false, false, false, false, false, false, false, false, false, false, false, false, false, false, false, false, false, false, false, false, false, false, false, false, false, false, false, false, false, false, false, false, false, false, false, false, false, false, false, false, false, false, false, false, false, false, false, false, false, false, false, false, false, false, false, false, false, false, false, false, false, false, false, false, false, false, false, false, false, false, false, false, false, false, false, false, true, true, true, true, true, true, true, true, true, true, true, true]
            (by kernel_rfl) (by kernel_rfl) (by kernel_rfl) (by kernel_rfl) ?_ ?_ ?_
          · repeat' (first | exact stable_eq _ | exact stable_oneB _ | exact trivial | apply And.intro)
          · refine ⟨?_, ?_, ?_, ?_, ?_, ?_, ?_, ?_, ?_, ?_, ?_, ?_, ?_, trivial⟩
            all_goals
              intro a x hb hf
              have y0 := (hb.cell (p := ⟨p, 0, none⟩) hpl).trans c0
              clear hb
              simp only [PlanFacts, List.getD_cons_zero, List.getD_cons_succ, Array.getD_eq_getD_getElem?] at hf
              try simp at hf
              try go_simp
              try exact Below.refl _ _
            all_goals first
              | exact ⟨rfl, Below.refl _ _⟩
              | exact ⟨_, rfl, (Below.refl _ _).alloc (Nat.le_refl _) _, _, rfl, by simp⟩
              | (refine (unhide (HBY _)).mono ?_; rintro r w1 ⟨rfl, hb1⟩; exact ⟨rfl, hb1⟩)
          · intro f w2 hb hwd
            simp only [AllWords] at hwd
            have hf4 := hwd.2.2.2.2.2.2.2.2.2.2.2.2.1
            have T2 := hide ((unhide TT).below hb)
            clear hwd hb TT c0
            simp only [mergeT, hf4]
            go_wp2
            go_ret
            refine ⟨?_, ?_⟩
            · rw [unhide HRES, unhide HA2, holdIt_epoch, unhide HU]
              rfl
            · rw [← unhide HA2]
              exact (unhide T2).done
  · have HA := hide (show holdIt a s qn b = a by rw [unhide HCASE, if_neg (fun h => hd2 (by omega))])
    have HSUM : Hid (∃ lv2 hv2, TLay w p lv hv r k e s qn b (holdIt a s qn b) lv2 hv2 w9) := by
      rw [unhide HA]
      exact ⟨_, _, unhide TT⟩
    clear TT
    go_upto_region 11 with fail
    refine wp_world (fun x => ∃ lv2 hv2, TLay w p lv hv r k e s qn b (holdIt a s qn b) lv2 hv2 x) (by first | exact unhide HSUM | (obtain ⟨_, _, T⟩ := unhide HSUM; exact ⟨_, _, T.drew _⟩)) ?_
    clear HSUM HA HCASE HIX cs y3 y4
    rintro x5 ⟨lv5, hv5, T5⟩
    obtain ⟨a2, ha2⟩ : ∃ a2, a2 = holdIt a s qn b := ⟨_, rfl⟩
    rw [← ha2] at T5
    have HA2 := hide ha2
    have TT5 := hide T5
    clear T5 ha2
    go_wp2
    go_loopw [10, 11] (fun v i wr => ∃ j : Nat, j ≤ 3 ∧ i = .int .i64 j ∧ v = .int .i64 (ackBits a2 s up j : Nat) ∧ TLay w p lv hv r k e s qn b a2 lv5 hv5 wr) (fun _ i _ => 3 - (intOf i).toNat)
    case atStart => exact ⟨0, by omega, rfl, rfl, unhide TT5⟩
    case round =>
      obtain ⟨j, hj, rfl, rfl, T⟩ := hrel
      clear TT5
      by_cases hlt : j < 3
      · have HH := skHeld_any T.ref s (up + 2 + j)
        rw [show ((up + 2 + j : Nat) : Int) = (up : Int) + 2 + j by omega] at HH
        have TT := hide T
        clear T
        have HB := hide (show ackBits a2 s up (j + 1) = ackBits a2 s up j + (if (a2.ix s (up + 2 + j)).isSome then 2 ^ j else 0) from rfl)
        have hbj : ackBits a2 s up j < 8 := by have := ackBits_lt a2 s up j; obtain rfl | rfl | rfl : j = 0 ∨ j = 1 ∨ j = 2 := by omega
                                               all_goals omega
        cases hix : a2.ix s (up + 2 + j) with
        | none =>
          rw [hix] at HH HB
          have HHH := hide HH
          clear HH hix
          go_wp2_with (go_at_call 213; refine (unhide HHH).mono ?_; rintro y w9 ⟨rfl, rfl⟩; simp only [Mod.ixInt])
          go_roundw
          case rel => exact ⟨j + 1, by omega, by go_num, by rw [unhide HB]; rfl, unhide TT⟩
          case measure => simp [intOf]; omega
        | some i =>
          rw [hix] at HH HB
          have HHH := hide HH
          clear HH hix
          obtain ⟨t, ht⟩ : ∃ t, t = ackBits a2 s up j := ⟨_, rfl⟩
          rw [← ht] at hbj HB ⊢
          clear ht
          obtain rfl | rfl | rfl : j = 0 ∨ j = 1 ∨ j = 2 := by omega
          all_goals
            go_wp2_with (go_at_call 213; refine (unhide HHH).mono ?_; rintro y w9 ⟨rfl, rfl⟩; simp only [Mod.ixInt])
            go_roundw
            case rel => first | exact ⟨0 + 1, by omega, rfl, by rw [unhide HB]; rfl, unhide TT⟩ | exact ⟨1 + 1, by omega, rfl, by rw [unhide HB]; rfl, unhide TT⟩ | exact ⟨2 + 1, by omega, rfl, by rw [unhide HB]; rfl, unhide TT⟩
            case measure => simp [intOf]
      · have hj3 : j = 3 := by omega
        subst hj3
        have c0 := blk_cell (i := 0) T.ref.blk
        simp [skCells] at c0
        have h7 := ackBits_le a2 s up
        have hwb : IntKind.u8.wrap ((ackBits a2 s up 3 : Nat) : Int) = ackBits a2 s up 3 := by rw [IntKind.wrap_u8]; omega
        have HP := hide (ack_proper (a := a2) (s := s) (up := up) T.ref.ep hs (by omega))
        have hpl := lt_of_block T.ref.blk
        have TT := hide T
        clear T
        have HS1 := hide (show s1 ((ackBits a2 s up 3 : Nat) : Int) = ackBody a2 s up by simp [s1, ackBody, Nat.mod_eq_of_lt (show ackBits a2 s up 3 < 256 by omega)])
        have HBY := fun x => hide (refBytes_any 4 a2.epoch s up (ackBody a2 s up) x (unhide HP))
        obtain ⟨RES, hRES⟩ : ∃ RES : ByteArray, RES = ⟨(Wire.bytes 4 a2.epoch s up (ackBody a2 s up).data.toList).toArray⟩ := ⟨_, rfl⟩
        rw [← hRES] at HBY
        have HRES := hide hRES
        obtain ⟨B, hB⟩ : ∃ B, B = ackBody a2 s up := ⟨_, rfl⟩
        rw [← hB] at HBY HS1
        have HBB := hide hB
        obtain ⟨t, ht⟩ : ∃ t, t = ackBits a2 s up 3 := ⟨_, rfl⟩
        rw [← ht] at HS1 hwb h7 ⊢
        clear hRES hB ht
        have co := fun v w => conv_one (n := (t : Int)) (by omega) (by omega) (v := v) (w := w)
        rw [unhide HS1] at co
        go_upto_region 18 with fail
        refine wp_region_frame (by kernel_rfl)
          [fun v _ => v = .pointer (some ⟨p, 0, none⟩), fun v _ => v = .pointer (some ⟨p, 0, none⟩), fun v _ => v = .pointer (some ⟨p, 0, none⟩), fun v _ => v = .int .i64 a2.epoch, fun v _ => v = .int .i64 s, fun v _ => v = .int .i64 up, fun v _ => v = .int .i64 t, fun v _ => v = .int .u8 t, OneB t, fun v _ => v = .string B,
           fun v _ => v = .agg #[.int .i64 4, .int .i64 a2.epoch, .int .i64 s, .int .i64 up, .string B], fun v _ => v = .string RES, fun v _ => v = .string RES]
          [[(0, none)], [(101, some 0)], [(102, some 1)], [(103, some 2)], [(5, none)], [(7, none)], [(10, none)], [(107, some 6)], [(108, some 7)], [(109, some 8)], [(104, some 3), (105, some 4), (106, some 5), (110, some 9)], [(111, some 10)], [(112, some 11)]]
          [some 101, some 102, some 103, some 104, some 105, some 106, some 107, some 108, some 109, some 110, some 111, some 112, some 4]
          [false, false, false, false, true, false, false, false, false, false, false, false, false, false, false, false, false, false, false, false, false, false, false, false, false, false, false, false, false, false, false, false, false, false, false, false, false, false, false, false, false, false, false, false, false, false, false, false, false, false, false, false, false, false, false, false, false, false, false, false, false, false, false, false, false, false, false, false, false, false, false, false, false, false, false, false, false, false, false, false, false, false, false, false, false, false, false, false, false, false, false, false, false, false, false, false, false, false, false, false, false, true, true, true, true, true, true, true, true, true, true, true, true]
          (by kernel_rfl) (by kernel_rfl) (by kernel_rfl) (by kernel_rfl) ?_ ?_ ?_
        · repeat' (first | exact stable_eq _ | exact stable_oneB _ | exact trivial | apply And.intro)
        · refine ⟨?_, ?_, ?_, ?_, ?_, ?_, ?_, ?_, ?_, ?_, ?_, ?_, ?_, trivial⟩
          all_goals
            intro a x hb hf
            have y0 := (hb.cell (p := ⟨p, 0, none⟩) hpl).trans c0
            clear hb
            simp only [PlanFacts, List.getD_cons_zero, List.getD_cons_succ, Array.getD_eq_getD_getElem?] at hf
            try simp at hf
            try go_simp
            try exact Below.refl _ _
          all_goals first
            | exact ⟨rfl, Below.refl _ _⟩
            | exact ⟨_, rfl, (Below.refl _ _).alloc (Nat.le_refl _) _, _, rfl, by simp⟩
            | (refine (unhide (HBY _)).mono ?_; rintro r w1 ⟨rfl, hb1⟩; exact ⟨rfl, hb1⟩)
        · intro f w2 hb hwd
          simp only [AllWords] at hwd
          have hf4 := hwd.2.2.2.2.2.2.2.2.2.2.2.2.1
          have T2 := hide ((unhide TT).below hb)
          clear hwd hb TT c0
          simp only [mergeT, hf4]
          go_wp2
          go_ret
          refine ⟨?_, ?_⟩
          · rw [unhide HRES, unhide HA2, holdIt_epoch, unhide HU]
            rfl
          · rw [← unhide HA2]
            exact (unhide T2).done
end Go.Proofs.YtamafdcnbcoegaaGreat
namespace Go.Proofs.YtamafdcnbcoegaaGreat
open Go.RowKit

/-- What stands behind a commit. -/
def grown (a : Mod.Sk) (s : Nat) (got : List ByteArray) : Mod.Sk := { a with logs := fun t => if t = s then a.logs s ++ got else a.logs t }
theorem grown_count (a : Mod.Sk) (s : Nat) (hs : s < 3) (got : List ByteArray) : (grown a s got).count = a.count + got.length := by
  obtain rfl | rfl | rfl : s = 0 ∨ s = 1 ∨ s = 2 := by omega
  all_goals
    simp [grown, Mod.Sk.count]
    omega
def takeIt (a : Mod.Sk) (s : Nat) (got : List ByteArray) : Mod.Sk := (grown a s got).forget s (a.logs s ++ got).length
theorem takeIt_epoch (a : Mod.Sk) (s : Nat) (got : List ByteArray) : (takeIt a s got).epoch = a.epoch := rfl
theorem strs_app (l m : List ByteArray) : strs (l ++ m) = strs l ++ strs m := by simp [strs]
theorem strs_one (l : List ByteArray) : ∀ u ∈ strs l, u.oneCell' = true := by
  intro u hu
  simp [strs] at hu
  obtain ⟨_, _, rfl⟩ := hu
  rfl
theorem news_of {B g n cap : Nat} {w : World} {xs : List Value} (h : w.ownsRow B 9 1 (.slice (some ⟨g, 0, none⟩) n cap) n xs) : ∀ j u, xs[j]? = some u → w.cell? ((⟨g, 0, none⟩ : Addr).add j) = some u := by
  intro j u hj
  have hjl : j < n * 1 := by
    have := (List.getElem?_eq_some_iff.1 hj).1
    rw [h.1] at this; exact this
  have := World.ownsRow.cellAt h j hjl
  rw [hj] at this
  simp only [Addr.add]
  split
  · rename_i h0
    subst h0
    exact this
  · simpa using this

set_option maxRecDepth 100000 in
set_option maxHeartbeats 8000000 in
theorem skTake_some {w : World} {p : Nat} {a : Mod.Sk} {r : SRest} {lv : Nat → Value} {hv : Value} (R : SkAt w p a r lv hv) (k e : Int) (s qn : Nat) (b : ByteArray) (hs : s < 3) (hqm : qn ≤ 2147483647) (got : List ByteArray) (hg : a.commits k e s qn b = got) (hne : got ≠ []) :
    Calls Tryz.prog 214 #[.pointer (some ⟨p, 0, none⟩), .agg #[.int .i64 k, .int .i64 e, .int .i64 s, .int .i64 qn, .string b]] w fun x w' =>
      x = .returned (.string ⟨(Wire.bytes 4 a.epoch s (a.logs s ++ got).length (ackBody (takeIt a s got) s (a.logs s ++ got).length).data.toList).toArray⟩) ∧ SkStep w w' p (takeIt a s got) r lv hv := by
  have DD := hide (slay_new R k e s qn b)
  have OLD := hide R.lt
  have hs3 : (s : Int) < 3 := by omega
  have hlen := R.len s hs
  have hcnt : a.count + got.length ≤ 120 := by rw [← hg]; exact commits_room k e s qn b R.ll
  have HCNT := hide (show (grown a s got).count ≤ 120 by rw [grown_count a s hs]; exact hcnt)
  have hgl : 0 < got.length := List.length_pos_iff.2 hne
  have hgl2 : got.length ≤ 120 := by omega
  clear R hne hcnt
  go_enter Tryz.func214, Tryz.ntmps214
  go_upto_region 2 with fail
  refine wp_world (fun x => SLay w x p a r lv hv k e s qn b) (unhide DD) ?_
  clear DD
  intro x L
  have y0 := blk_cell (i := 0) L.box
  have y1 := blk_cell (i := 1) L.box
  have y2 := blk_cell (i := 2) L.box
  have y3 := blk_cell (i := 3) L.box
  have y4 := blk_cell (i := 4) L.box
  simp at y0 y1 y2 y3 y4
  have HC := hide (commits_any L.ref k e s qn b hs)
  rw [hg] at HC
  clear hg
  have LL := hide L
  clear L
  go_upto_region 3 with (go_at_call 178; refine (unhide HC).mono ?_; rintro y w1 ⟨v1, n1, rfl, ho1, hb1⟩; have hn1 : n1 = got.length := (by have := ho1.1; simp [strs] at this; omega); subst hn1; obtain ⟨g1, cap1, hv1⟩ := own_shapeB ho1 hgl; subst hv1; have L1 := (unhide LL).below hb1; have LL1 := hide L1; have HO1 := hide ho1; clear hb1 L1 ho1)
  clear y0 y1 y2 y3 y4 LL HC
  have cs := sk_at (unhide LL1).ref s hs
  obtain ⟨la, lc, hla, _⟩ := ((unhide LL1).ref.logs s hs).shape
  have HROW := hide ((unhide LL1).ref.logs s hs)
  have HLA := hide hla
  rw [hla] at cs HROW
  obtain ⟨n0, hn0⟩ : ∃ n0, n0 = (a.logs s).length := ⟨_, rfl⟩
  have HN0 := hide hn0
  rw [← hn0] at cs HROW hlen
  obtain ⟨n, hn⟩ : ∃ n, n = got.length := ⟨_, rfl⟩
  have HN := hide hn
  rw [← hn] at HO1 hgl hgl2 ⊢
  clear hla hn0 hn
  go_upto_region 3 with fail
  go_region_law (refine step_app_o rfl (.tmp 25) (.tmp 26) 45 rfl 9 _ 1 16 Tryz.underlying45 infoStr rfl (.slice la n0 lc) n0 (strs (a.logs s)) (unhide HROW) rfl ⟨g1, 0, none⟩ n cap1 (strs got) rfl (by rw [unhide HN]; simp [strs]) (news_of (unhide HO1)) (strs_one got) hgl (by omega) (by omega) ?_; intro v' w3 hrow happ; rw [← strs_app] at hrow; have hq := (unhide LL1).ref.logStep s hs (x := a.logs s ++ got) (by have := far_app (w := w1) (by first | exact Below.refl _ _ | exact (Below.refl _ _).drew) happ; rw [unhide HN0, ← unhide HLA] at this; exact this) (by have := app_loc (w := w1) (by first | exact Below.refl _ _ | exact (Below.refl _ _).drew) happ; rw [unhide HN0, ← unhide HLA] at this; exact this) (by rw [unhide HN0, unhide HN, ← List.length_append] at hrow; exact hrow) (unhide HCNT); obtain ⟨⟨C, hpC, hC⟩, hst⟩ := hq; have y1 := (blk_cell (i := 2 + s) hpC).trans hC; have f1 := blk_free (i := 2 + s) hpC; obtain ⟨va, vc, hva, _⟩ := hrow.shape; have HST := hide hst; clear happ hst hpC hC hrow; subst hva)
  all_goals
    have HSUM : Hid (∃ lv2 hv2, TLay w p lv hv r k e s qn b (grown a s got) lv2 hv2 (w3.setCell ⟨p, 2 + s, none⟩ (.slice va (n0 + n) vc))) := (tlay_of (unhide LL1) (unhide OLD)).step (unhide HST)
    clear HST HROW HLA HO1 LL1 cs y1 f1
    go_upto_region 4 with fail
    refine wp_world (fun x => ∃ lv2 hv2, TLay w p lv hv r k e s qn b (grown a s got) lv2 hv2 x) (by first | exact unhide HSUM | (obtain ⟨_, _, T⟩ := unhide HSUM; exact ⟨_, _, T.drew _⟩) | (obtain ⟨_, _, T⟩ := unhide HSUM; exact ⟨_, _, T.below (Below.refl _ _).drew⟩)) ?_
    clear HSUM
    rintro x4 ⟨lv4, hv4, T⟩
    have cs := sk_at T.ref s hs
    obtain ⟨la4, lc4, hla4, _⟩ := (T.ref.logs s hs).shape
    rw [hla4] at cs
    have hle : ((grown a s got).logs s).length = (a.logs s ++ got).length := by simp [grown]
    have hlen4 := T.ref.len s hs
    rw [hle] at cs hlen4
    obtain ⟨up, hup⟩ : ∃ up, up = (a.logs s ++ got).length := ⟨_, rfl⟩
    rw [← hup] at cs hlen4
    have HU := hide hup
    have y3 := blk_cell (i := 3) T.box
    simp at y3
    have TT := hide T
    have HF := hide (skForget_any T.ref s up)
    clear T hla4 hle hup hlen
    have hlen : up ≤ 120 := hlen4
    go_upto_region 7 with (go_at_call 224; (first | (refine (unhide HF).mono ?_) | (refine (skForget_any ((unhide TT).drew _).ref s up).mono ?_)); rintro y w5 ⟨rfl, hst⟩; have HST5 := hide hst; clear hst)
    have HSUM : Hid (∃ lv2 hv2, TLay w p lv hv r k e s qn b (takeIt a s got) lv2 hv2 w5) := by
      have := (unhide TT).step (unhide HST5)
      rw [unhide HU] at this
      exact this
    clear HST5 TT HF y3 cs
    go_upto_region 7 with fail
    refine wp_world (fun x => ∃ lv2 hv2, TLay w p lv hv r k e s qn b (takeIt a s got) lv2 hv2 x) (by first | exact unhide HSUM | (obtain ⟨_, _, T⟩ := unhide HSUM; exact ⟨_, _, T.drew _⟩)) ?_
    clear HSUM
    rintro x5 ⟨lv5, hv5, T5⟩
    obtain ⟨a2, ha2⟩ : ∃ a2, a2 = takeIt a s got := ⟨_, rfl⟩
    rw [← ha2] at T5
    have HA2 := hide ha2
    have y3 := blk_cell (i := 3) T5.box
    simp at y3
    have HX := hide (skHeld_any T5.ref s qn)
    have TT5 := hide T5
    clear T5 ha2
    have hnz : ((n : Int) == 0) = false := by simp; omega
    have hnz2 : ¬ (n : Int) = 0 := by omega
    go_upto_region 8 with (go_at_call 213; refine (unhide HX).mono ?_; rintro y w9 ⟨rfl, rfl⟩)
    obtain ⟨ai, hai⟩ : ∃ ai, ai = Mod.ixInt (a2.ix s qn) := ⟨_, rfl⟩
    rw [← hai]
    clear hai HX
    go_upto_region 11 with fail
    go_wp2
    go_loopw [10, 11] (fun v i wr => ∃ j : Nat, j ≤ 3 ∧ i = .int .i64 j ∧ v = .int .i64 (ackBits a2 s up j : Nat) ∧ TLay w p lv hv r k e s qn b a2 lv5 hv5 wr) (fun _ i _ => 3 - (intOf i).toNat)
    case atStart => exact ⟨0, by omega, rfl, rfl, unhide TT5⟩
    case round =>
      obtain ⟨j, hj, rfl, rfl, T⟩ := hrel
      clear TT5
      by_cases hlt : j < 3
      · have HH := skHeld_any T.ref s (up + 2 + j)
        rw [show ((up + 2 + j : Nat) : Int) = (up : Int) + 2 + j by omega] at HH
        have TT := hide T
        clear T
        have HB := hide (show ackBits a2 s up (j + 1) = ackBits a2 s up j + (if (a2.ix s (up + 2 + j)).isSome then 2 ^ j else 0) from rfl)
        have hbj : ackBits a2 s up j < 8 := by have := ackBits_lt a2 s up j; obtain rfl | rfl | rfl : j = 0 ∨ j = 1 ∨ j = 2 := by omega
                                               all_goals omega
        cases hix : a2.ix s (up + 2 + j) with
        | none =>
          rw [hix] at HH HB
          have HHH := hide HH
          clear HH hix
          go_wp2_with (go_at_call 213; refine (unhide HHH).mono ?_; rintro y w9 ⟨rfl, rfl⟩; simp only [Mod.ixInt])
          go_roundw
          case rel => exact ⟨j + 1, by omega, by go_num, by rw [unhide HB]; rfl, unhide TT⟩
          case measure => simp [intOf]; omega
        | some i =>
          rw [hix] at HH HB
          have HHH := hide HH
          clear HH hix
          obtain ⟨t, ht⟩ : ∃ t, t = ackBits a2 s up j := ⟨_, rfl⟩
          rw [← ht] at hbj HB ⊢
          clear ht
          obtain rfl | rfl | rfl : j = 0 ∨ j = 1 ∨ j = 2 := by omega
          all_goals
            go_wp2_with (go_at_call 213; refine (unhide HHH).mono ?_; rintro y w9 ⟨rfl, rfl⟩; simp only [Mod.ixInt])
            go_roundw
            case rel => first | exact ⟨0 + 1, by omega, rfl, by rw [unhide HB]; rfl, unhide TT⟩ | exact ⟨1 + 1, by omega, rfl, by rw [unhide HB]; rfl, unhide TT⟩ | exact ⟨2 + 1, by omega, rfl, by rw [unhide HB]; rfl, unhide TT⟩
            case measure => simp [intOf]
      · have hj3 : j = 3 := by omega
        subst hj3
        have c0 := blk_cell (i := 0) T.ref.blk
        simp [skCells] at c0
        have h7 := ackBits_le a2 s up
        have hwb : IntKind.u8.wrap ((ackBits a2 s up 3 : Nat) : Int) = ackBits a2 s up 3 := by rw [IntKind.wrap_u8]; omega
        have HP := hide (ack_proper (a := a2) (s := s) (up := up) T.ref.ep hs (by omega))
        have hpl := lt_of_block T.ref.blk
        have TT := hide T
        clear T
        have HS1 := hide (show s1 ((ackBits a2 s up 3 : Nat) : Int) = ackBody a2 s up by simp [s1, ackBody, Nat.mod_eq_of_lt (show ackBits a2 s up 3 < 256 by omega)])
        have HBY := fun x => hide (refBytes_any 4 a2.epoch s up (ackBody a2 s up) x (unhide HP))
        obtain ⟨RES, hRES⟩ : ∃ RES : ByteArray, RES = ⟨(Wire.bytes 4 a2.epoch s up (ackBody a2 s up).data.toList).toArray⟩ := ⟨_, rfl⟩
        rw [← hRES] at HBY
        have HRES := hide hRES
        obtain ⟨B, hB⟩ : ∃ B, B = ackBody a2 s up := ⟨_, rfl⟩
        rw [← hB] at HBY HS1
        have HBB := hide hB
        obtain ⟨t, ht⟩ : ∃ t, t = ackBits a2 s up 3 := ⟨_, rfl⟩
        rw [← ht] at HS1 hwb h7 ⊢
        clear hRES hB ht
        have co := fun v w => conv_one (n := (t : Int)) (by omega) (by omega) (v := v) (w := w)
        rw [unhide HS1] at co
        go_upto_region 18 with fail
        refine wp_region_frame (by kernel_rfl)
          [fun v _ => v = .pointer (some ⟨p, 0, none⟩), fun v _ => v = .pointer (some ⟨p, 0, none⟩), fun v _ => v = .pointer (some ⟨p, 0, none⟩), fun v _ => v = .int .i64 a2.epoch, fun v _ => v = .int .i64 s, fun v _ => v = .int .i64 up, fun v _ => v = .int .i64 t, fun v _ => v = .int .u8 t, OneB t, fun v _ => v = .string B,
           fun v _ => v = .agg #[.int .i64 4, .int .i64 a2.epoch, .int .i64 s, .int .i64 up, .string B], fun v _ => v = .string RES, fun v _ => v = .string RES]
          [[(0, none)], [(101, some 0)], [(102, some 1)], [(103, some 2)], [(5, none)], [(7, none)], [(10, none)], [(107, some 6)], [(108, some 7)], [(109, some 8)], [(104, some 3), (105, some 4), (106, some 5), (110, some 9)], [(111, some 10)], [(112, some 11)]]
          [some 101, some 102, some 103, some 104, some 105, some 106, some 107, some 108, some 109, some 110, some 111, some 112, some 4]
          [false, false, false, false, true, false, false, false, false, false, false, false, false, false, false, false, false, false, false, false, false, false, false, false, false, false, false, false, false, false, false, false, false, false, false, false, false, false, false, false, false, false, false, false, false, false, false, false, false, false, false, false, false, false, false, false, false, false, false, false, false, false, false, false, false, false, false, false, false, false, false, false, false, false, false, false, false, false, false, false, false, false, false, false, false, false, false, false, false, false, false, false, false, false, false, false, false, false, false, false, false, true, true, true, true, true, true, true, true, true, true, true, true]
          (by kernel_rfl) (by kernel_rfl) (by kernel_rfl) (by kernel_rfl) ?_ ?_ ?_
        · repeat' (first | exact stable_eq _ | exact stable_oneB _ | exact trivial | apply And.intro)
        · refine ⟨?_, ?_, ?_, ?_, ?_, ?_, ?_, ?_, ?_, ?_, ?_, ?_, ?_, trivial⟩
          all_goals
            intro a x hb hf
            have y0 := (hb.cell (p := ⟨p, 0, none⟩) hpl).trans c0
            clear hb
            simp only [PlanFacts, List.getD_cons_zero, List.getD_cons_succ, Array.getD_eq_getD_getElem?] at hf
            try simp at hf
            try go_simp
            try exact Below.refl _ _
          all_goals first
            | exact ⟨rfl, Below.refl _ _⟩
            | exact ⟨_, rfl, (Below.refl _ _).alloc (Nat.le_refl _) _, _, rfl, by simp⟩
            | (refine (unhide (HBY _)).mono ?_; rintro r w1 ⟨rfl, hb1⟩; exact ⟨rfl, hb1⟩)
        · intro f w2 hb hwd
          simp only [AllWords] at hwd
          have hf4 := hwd.2.2.2.2.2.2.2.2.2.2.2.2.1
          have T2 := hide ((unhide TT).below hb)
          clear hwd hb TT c0
          simp only [mergeT, hf4]
          go_wp2
          go_ret
          refine ⟨?_, ?_⟩
          · rw [unhide HRES, unhide HA2, takeIt_epoch, unhide HU]
            rfl
          · rw [← unhide HA2]
            exact (unhide T2).done
end Go.Proofs.YtamafdcnbcoegaaGreat
namespace Go.Proofs.YtamafdcnbcoegaaGreat
open Go.RowKit

/-- What a sink is behind a Data of its Epoch. -/
def skAfter (a : Mod.Sk) (k e : Int) (s qn : Nat) (b : ByteArray) : Mod.Sk := if a.commits k e s qn b = [] then holdIt a s qn b else takeIt a s (a.commits k e s qn b)
theorem holdIt_logs (a : Mod.Sk) (s q : Nat) (b : ByteArray) : (holdIt a s q b).logs = a.logs := by
  unfold holdIt
  split <;> rfl
theorem takeIt_logs (a : Mod.Sk) (s : Nat) (got : List ByteArray) : (takeIt a s got).logs s = a.logs s ++ got := by simp [takeIt, grown, Mod.Sk.forget]
def skAck (a : Mod.Sk) (k e : Int) (s qn : Nat) (b : ByteArray) : ByteArray :=
  ⟨(Wire.bytes 4 a.epoch s ((skAfter a k e s qn b).logs s).length (ackBody (skAfter a k e s qn b) s ((skAfter a k e s qn b).logs s).length).data.toList).toArray⟩
theorem skTake_any {w : World} {p : Nat} {a : Mod.Sk} {r : SRest} {lv : Nat → Value} {hv : Value} (R : SkAt w p a r lv hv) (k e : Int) (s qn : Nat) (b : ByteArray) (hs : s < 3) (hqm : qn ≤ 2147483647) (hroom : a.held.length < 1000) :
    Calls Tryz.prog 214 #[.pointer (some ⟨p, 0, none⟩), .agg #[.int .i64 k, .int .i64 e, .int .i64 s, .int .i64 qn, .string b]] w fun x w' =>
      x = .returned (.string (skAck a k e s qn b)) ∧ SkStep w w' p (skAfter a k e s qn b) r lv hv := by
  by_cases hn : a.commits k e s qn b = []
  · have e1 : skAfter a k e s qn b = holdIt a s qn b := by rw [skAfter, if_pos hn]
    rw [skAck, e1, holdIt_logs]
    exact skTake_none R k e s qn b hs hqm hn hroom
  · have e1 : skAfter a k e s qn b = takeIt a s (a.commits k e s qn b) := by rw [skAfter, if_neg hn]
    rw [skAck, e1, takeIt_logs]
    exact skTake_some R k e s qn b hs hqm _ rfl hn

set_option maxRecDepth 100000 in
set_option maxHeartbeats 2000000 in
theorem skDeliver_other {w : World} {p : Nat} {a : Mod.Sk} {r : SRest} {lv : Nat → Value} {hv : Value} (R : SkAt w p a r lv hv) (k e st q : Int) (b : ByteArray) (hk1 : ¬ k = 1) (hk3 : ¬ k = 3) :
    Calls Tryz.prog 179 #[.pointer (some ⟨p, 0, none⟩), .agg #[.int .i64 k, .int .i64 e, .int .i64 st, .int .i64 q, .string b]] w fun x w' => x = .returned (.slice none 0 0) ∧ Below w.heap.size w w' := by
  have k1 : (k == 1) = false := by simpa using hk1
  have k3 : (k == 3) = false := by simpa using hk3
  have DD := hide (slay_new R k e st q b)
  clear R hk1 hk3
  go_enter Tryz.func179, Tryz.ntmps179
  go_upto_region 1 with fail
  refine wp_world (fun x => SLay w x p a r lv hv k e st q b) (unhide DD) ?_
  clear DD
  intro x L
  have y0 := blk_cell (i := 0) L.box
  simp at y0
  have LL := hide L
  clear L
  go_wp2
  go_ret
  exact ⟨rfl, (unhide LL).bel⟩

set_option maxRecDepth 100000 in
set_option maxHeartbeats 2000000 in
theorem skDeliver_data {w : World} {p : Nat} {a : Mod.Sk} {r : SRest} {lv : Nat → Value} {hv : Value} (R : SkAt w p a r lv hv) (k e : Int) (s qn : Nat) (b : ByteArray) (hk : k = 3) (he : e = a.epoch) (hs : s < 3) (hqm : qn ≤ 2147483647) (hroom : a.held.length < 1000) :
    Calls Tryz.prog 179 #[.pointer (some ⟨p, 0, none⟩), .agg #[.int .i64 k, .int .i64 e, .int .i64 s, .int .i64 qn, .string b]] w fun x w' =>
      ∃ v, x = .returned v ∧ w'.ownsRow w.heap.size 9 1 v 1 (strs [skAck a k e s qn b]) ∧ SkStep w w' p (skAfter a k e s qn b) r lv hv := by
  have k1 : (k == 1) = false := by subst hk; rfl
  have k3 : (k == 3) = true := by subst hk; rfl
  have ee : (e != (a.epoch : Int)) = false := by simpa using he
  have DD := hide (slay_new R k e s qn b)
  have OLD := hide R.lt
  obtain ⟨i0, hi, hz0, hz1, hz2⟩ := info_parts2 infoStr
  clear R hk he
  generalize hep : (a.epoch : Int) = ep at *
  go_enter Tryz.func179, Tryz.ntmps179
  go_upto_region 1 with fail
  refine wp_world (fun x => SLay w x p a r lv hv k e s qn b) (unhide DD) ?_
  clear DD
  intro x L
  have y0 := blk_cell (i := 0) L.box
  have y1 := blk_cell (i := 1) L.box
  have c0 := blk_cell (i := 0) L.ref.blk
  simp [skCells] at y0 y1 c0
  rw [hep] at c0
  have LL := hide L
  clear L hep
  go_upto_region 14 with fail
  go_quiet (fail)
  go_upto_region 20 with fail
  refine wp_world (fun x => SLay w x p a r lv hv k e s qn b) (by first | exact (unhide LL).drew _ | exact ((unhide LL).drew _).drew _ | exact unhide LL) ?_
  clear LL y0 y1 c0
  intro x2 L
  have y0 := blk_cell (i := 0) L.box
  have y1 := blk_cell (i := 1) L.box
  have y2 := blk_cell (i := 2) L.box
  have y3 := blk_cell (i := 3) L.box
  have y4 := blk_cell (i := 4) L.box
  simp at y0 y1 y2 y3 y4
  have HT := hide (skTake_any L.ref k e s qn b hs hqm hroom)
  have LL := hide L
  clear L
  obtain ⟨RES, hRES⟩ : ∃ RES, RES = skAck a k e s qn b := ⟨_, rfl⟩
  rw [← hRES] at HT
  have HRES := hide hRES
  clear hRES
  go_upto_region 21 with (go_at_call 214; refine (unhide HT).mono ?_; rintro y w5 ⟨rfl, hst⟩; have HST5 := hide ((tlay_of (unhide LL) (unhide OLD)).step hst); clear hst)
  refine wp_world (fun x => ∃ lv2 hv2, TLay w p lv hv r k e s qn b (skAfter a k e s qn b) lv2 hv2 x) (unhide HST5) ?_
  clear HST5 LL HT y0 y1 y2 y3 y4
  rintro x6 ⟨lv6, hv6, T6⟩
  have TT6 := hide T6
  have hz6 := T6.far.size
  clear T6
  go_wp2_with (at_builtin; refine wpList_append_own _ rfl (.tmp 113) (.tmp 115) 45 rfl w.heap.size 9 i0 (.string ⟨#[]⟩) 1 16 Tryz.underlying45 hi hz0 hz1 hz2 rfl (by decide) (.slice none 0 0) 0 [] rfl (World.ownsRow_nil _ _ _ _) ⟨x6.heap.size, 0, none⟩ 1 1 (strs [RES]) rfl rfl cells_new (by intro u hu; simp [strs] at hu; subst hu; rfl) (by unfold maxLen; omega) (by omega) (by simp; omega) ?_; intro v' w3 hown' hgrow _; have hb3 := (((Below.refl x6.heap.size x6).alloc (Nat.le_refl _) (.cells (strs [RES]).toArray 9)).trans (below_grown_new (B := x6.heap.size) hgrow (by simp) (fun g hg => by cases hg))); have HO := hide hown'; have BB3 := hide hb3; clear hown' hgrow hb3)
  go_ret
  rw [← unhide HRES]
  exact ⟨_, rfl, by simpa using unhide HO, ((unhide TT6).below (unhide BB3)).done⟩
end Go.Proofs.YtamafdcnbcoegaaGreat
