/-
  Part 16 of a proof: K24, K25, K26, K27, K28, K29.
-/
import Derived.Test.YtamafdcnbcoegaaGreatMd15
namespace Go.Proofs.YtamafdcnbcoegaaGreat
open Go.RowKit
def SkIs2 (op ct n : Nat) (w x : World) (p : Nat) (a : Mod.Sk) (c : Sv) : Prop := ∃ sh st, PkStep w x p a.epoch a.logs sh st c ∧ Alv op ct n st a.epoch a.logs ∧ OnSh a.held sh
theorem SkIs2.behind {op ct n : Nat} {w x y : World} {p : Nat} {a : Mod.Sk} {c : Sv} (h : SkIs2 op ct n x y p a c) (hb : Below w.heap.size w x) : SkIs2 op ct n w y p a c := by
 obtain ⟨sh, st, ⟨c', K, F, N, s1, s2⟩, hs, O⟩ := h
 exact ⟨sh, st, ⟨c', K, (far_below (E := PkU p c) hb).trans F (fun _ _ h => h), fun k hk => (N k hk).imp id (fun h => Nat.le_trans hb.size h), s1, s2⟩, hs, O⟩
theorem SkIs2.below {op ct n : Nat} {w x y : World} {p : Nat} {a : Mod.Sk} {c : Sv} (h : SkIs2 op ct n w x p a c) (hb : Below x.heap.size x y) : SkIs2 op ct n w y p a c := by
 obtain ⟨sh, st, h, hs, O⟩ := h
 exact ⟨sh, st, h.below hb, hs, O⟩
theorem skIs2_refl {op ct n : Nat} {w : World} {p : Nat} {a : Mod.Sk} {sh : Nat → List (Nat × Value)} {st : Mod.Stv} {c : Sv} (H : PkAt w p a.epoch a.logs sh st c) (hs : Alv op ct n st a.epoch a.logs) (O : OnSh a.held sh) : SkIs2 op ct n w w p a c := ⟨sh, st, pkStep_refl H, hs, O⟩
theorem DeadAt.behind {op : Nat} {w x y : World} {p e : Nat} {logs : Nat → List ByteArray} {c : Sv} (h : DeadAt op x y p e logs c) (hb : Below w.heap.size w x) : DeadAt op w y p e logs c := by
 obtain ⟨sh, st, ⟨c', K, F, N, s1, s2⟩, hs⟩ := h
 exact ⟨sh, st, ⟨c', K, (far_below (E := PkU p c) hb).trans F (fun _ _ h => h), fun k hk => (N k hk).imp id (fun h => Nat.le_trans hb.size h), s1, s2⟩, hs⟩
def SkOut (op ct n : Nat) (w x : World) (p : Nat) (a a' : Mod.Sk) (i : Nat) (cms : List ByteArray) (k : Nat) (c : Sv) (v : Int) : Prop :=
 (v = 0 ∧ (n = 0 ∨ k < n) ∧ SkIs2 op (ct + k) (n - k) w x p a' c) ∨ (v = 4 ∧ 1 ≤ n ∧ n ≤ k ∧ DeadAt op w x p a.epoch (grown a i (cms.take (n - 1))).logs c)
theorem skOut_same {op ct n : Nat} {w x : World} {p : Nat} {a a' : Mod.Sk} {i : Nat} {cms : List ByteArray} {c : Sv} (h : SkIs2 op ct n w x p a' c) : SkOut op ct n w x p a a' i cms 0 c 0 := .inl ⟨rfl, by omega, h⟩
theorem SkOut.behind {op ct n : Nat} {w x y : World} {p : Nat} {a a' : Mod.Sk} {i : Nat} {cms : List ByteArray} {k : Nat} {c : Sv} {v : Int} (h : SkOut op ct n x y p a a' i cms k c v) (hb : Below w.heap.size w x) : SkOut op ct n w y p a a' i cms k c v := by
 rcases h with ⟨h1, h2, h3⟩ | ⟨h1, h2, h3, h4⟩
 ·exact .inl ⟨h1, h2, h3.behind hb⟩
 ·exact .inr ⟨h1, h2, h3, h4.behind hb⟩
set_option maxRecDepth 100000 in
set_option maxHeartbeats 4000000 in
theorem take_gen {op ct n : Nat} {w : World} {p : Nat} {a : Mod.Sk} {sh : Nat → List (Nat × Value)} {st : Mod.Stv} {c : Sv} (H : PkAt w p a.epoch a.logs sh st c) (hs : Alv op ct n st a.epoch a.logs) (hct : ct + 1000 < 18446744073709551616) (G : SkGood a) (M : SkMore a) (O : OnSh a.held sh) (e : Int) (i q : Nat) (hi : i < 3) (hq : q ≤ 2147483647) (b : ByteArray) (hb : b.size ≤ 20) :
  Calls Tryz.prog 163 #[ptrTo p, .agg #[.int .i64 3, .int .i64 e, .int .i64 i, .int .i64 q, .string b]] w fun r w' => ∃ v, r = .returned (.int .i64 v) ∧ SkOut op ct n w w' p a (skAfter a 3 a.epoch i q b) i (a.commits 3 a.epoch i q b) (a.commits 3 a.epoch i q b).length c v := by
 have hpl := lt_of_block H.ks.blk
 obtain ⟨ad, cap, hlv, clog⟩ := H.ks.logc hi
 have hll := H.ks.loglen hi
 obtain ⟨n1, hn1⟩ : ∃ n1, n1 = (a.logs i).length + 1 := ⟨_, rfl⟩
 obtain ⟨d, hd⟩ : ∃ d : Int, d = (q : Int) - (n1 : Int) := ⟨_, rfl⟩
 have hw : IntKind.i64.wrap ((q : Int) - (n1 : Int)) = d := by rw [IntKind.wrap_i64]; omega
 have hNX := fun y (hy : Below w.heap.size w y) => hide (sinkNext_any y p (2 + i * 3) _ cap ad ((hy.cell (p := ⟨p, 2 + i * 3, none⟩) hpl).trans clog) (by omega))
 rw [← hn1] at hNX
 have hHR := fun y (hy : Below w.heap.size w y) => hide (hasRoom_any (H.ks.far (far_below (E := fun _ => False) hy) (fun _ _ h => h)))
 have hPK := fun y (hy : Below w.heap.size w y) => hide (H.far (far_below (E := fun _ => False) hy) (fun _ _ h => h))
 obtain ⟨room, hroom⟩ : ∃ room, room = decide ((a.logs 0).length + (a.logs 1).length + (a.logs 2).length < 120) := ⟨_, rfl⟩
 rw [← hroom] at hHR
 have hi0 : (0 : Int) ≤ (i : Int) := by omega
 have hi3 : (i : Int) < 3 := by omega
 have HD := hide (And.intro hn1 (And.intro hd (And.intro hroom hll)))
 have HH := hide H
 have hBX := hide (boxAt_new w #[.int .i64 3, .int .i64 e, .int .i64 i, .int .i64 q, .string b])
 clear H hlv clog hn1 hd hroom
 unfold ptrTo at *
 go_enter Tryz.func163, Tryz.ntmps163
 go_upto_region 1 with fail
 refine wp_world (BoxAt w #[.int .i64 3, .int .i64 e, .int .i64 i, .int .i64 q, .string b]) (unhide hBX) ?_
 clear hBX
 intro x X
 have y2 := blk_cell (i := 2) X.box
 have y3 := blk_cell (i := 3) X.box
 simp at y2 y3
 have hXb := X.bel
 have HX := hide X
 clear X
 go_quiet (fail)
 go_upto_region 2 with fail
 refine wp_world (BoxAt w #[.int .i64 3, .int .i64 e, .int .i64 i, .int .i64 q, .string b]) ((unhide HX).drewN _) ?_
 clear HX y2 y3 hXb
 intro x2 X
 have y3 := blk_cell (i := 3) X.box
 simp at y3
 have hN := fun n => hide (unhide (hNX (x2.drewN n) (X.drewN n).bel))
 have HX := hide X
 clear X hNX
 go_quiet (first | (go_at_call 158; exact Calls.quiet_of_same (unhide (hN _))))
 go_upto_region 3 with fail
 refine wp_world (BoxAt w #[.int .i64 3, .int .i64 e, .int .i64 i, .int .i64 q, .string b]) (by first | exact unhide HX | exact (unhide HX).drewN _ | exact (unhide HX).drew | exact (unhide HX).drew.drew) ?_
 clear HX y3 hN
 intro x3 X
 have y2 := blk_cell (i := 2) X.box
 have y3 := blk_cell (i := 3) X.box
 have y4 := blk_cell (i := 4) X.box
 simp at y2 y3 y4
 have hHX := hide (unhide (hHR x3 X.bel))
 have HPX := unhide (hPK x3 X.bel)
 have HX := hide X
 clear X hHR hPK
 have hstay := hide ((skIs2_refl HPX hs O).behind (unhide HX).bel)
 by_cases hd0 : d = 0
 ·have hq1 : q = (a.logs i).length + 1 := by obtain ⟨h1, h2, _⟩ := unhide HD; omega
  have HQ1 := hide hq1
  clear hq1
  subst hd0
  cases hrv : room
  ·have hnr : ¬ (q = (a.logs i).length + 1 ∧ a.count < 120) := by
    have h := (unhide HD).2.2.1
    rw [hrv] at h
    have h := of_decide_eq_false h.symm
    exact fun h' => h h'.2
   have HCM := hide (commits_other (b := b) hnr)
   have hno : skAfter a 3 a.epoch i q b = a := by
    rw [skAfter_hold hnr, holdIt, if_neg (fun h => by have := unhide HQ1; omega)]
   rw [hrv] at hHX
   have HNO := hide hno
   clear HPX hnr hno hrv
   go_upto_region 5 with (go_at_call 204; refine (unhide hHX).mono ?_; rintro r y ⟨rfl, rfl⟩)
   go_quiet (fail)
   go_wp2
   go_ret
   exact ⟨0, rfl, by rw [unhide HNO, unhide HCM]; exact skOut_same ((unhide hstay).below (below_drewN (Below.refl _ _) _))⟩
  ·have hr : a.count < 120 := by
    have h := (unhide HD).2.2.1
    rw [hrv] at h
    exact of_decide_eq_true h.symm
   have hCF := hide (commitFrom_gen HPX hs hct G M O i hi b hb hr)
   rw [hrv] at hHX
   have HR := hide hr
   have hCF' : Calls Tryz.prog 205 #[ptrTo p, .int .i64 i, .string b] x3 fun r w' => ∃ v : Int, r = .returned (.int .i64 v) ∧ SkOut op ct n x3 w' p a (takeIt a i (a.commitFrom i ((a.logs i).length + 1) a.count 120 [b])) i (a.commitFrom i ((a.logs i).length + 1) a.count 120 [b]) (a.commitFrom i ((a.logs i).length + 1) a.count 120 [b]).length c v := by
    refine (unhide hCF).mono ?_
    rintro r y (⟨rfl, out, ⟨sh2, st2, I, hs2, hk2⟩, hout⟩ | ⟨rfl, h1, h2, h3⟩)
    ·rw [← hout]
     exact ⟨0, rfl, .inl ⟨rfl, hs2.2, sh2, st2, hk2, hs2.1, inCm_on I⟩⟩
    ·exact ⟨4, rfl, .inr ⟨rfl, h1, h2, h3⟩⟩
   have hCF' := hide hCF'
   clear hCF
   unfold ptrTo at hCF'
   clear HPX hrv hr
   go_wp2_with (first | (go_at_call 204; refine (unhide hHX).mono ?_; rintro r y ⟨rfl, rfl⟩) | (go_at_call 205; refine (unhide hCF').mono ?_; rintro r y ⟨v, rfl, hv⟩; replace hv := hide hv))
   go_ret
   refine ⟨v, rfl, ?_⟩
   rw [unhide HQ1, skAfter_take (unhide HR), commits_some (unhide HR)]
   exact (unhide hv).behind (unhide HX).bel
 ·have hdb : (d == 0) = false := by simpa using hd0
  have hnr : ¬ (q = (a.logs i).length + 1 ∧ a.count < 120) := fun h => by obtain ⟨h1, h2, _⟩ := unhide HD; omega
  have hsk := skAfter_hold (b := b) hnr
  have HCM := hide (commits_other (b := b) hnr)
  clear hnr
  by_cases h1 : 1 ≤ d
  ·by_cases h3 : d ≤ 3
   ·have hHas := hide (hasS_any HPX.ks.blk (HPX.ks.am i hi) (HPX.ks.shs i hi) (HPX.ks.are i hi) (q : Int))
    have hsort := (HPX.ks.shs i hi).sorted
    have hix := onSh_ix O HPX.ks.are hi q
    have hsm := onSh_small G O HPX.ks.are hi hsort
    obtain ⟨ho, hho⟩ : ∃ ho, ho = (look (sh i) (q : Int)).isSome := ⟨_, rfl⟩
    have hHas := fun y (hy : Below x3.heap.size x3 y) => hide (hasS_any (HPX.far (far_below (E := fun _ => False) hy) (fun _ _ h => h)).ks.blk (HPX.ks.am i hi) ((HPX.far (far_below (E := fun _ => False) hy) (fun _ _ h => h)).ks.shs i hi) (HPX.ks.are i hi) (q : Int))
    rw [← hho] at hHas hix
    have hPut := fun z (hz : Below x3.heap.size x3 z) => hide (putS_any ((HPX.far (far_below (E := fun _ => False) hz) (fun _ _ h => h)).shAt hi) hsm q b)
    have hgx := (unhide HX).lt
    have HPX2 := hide HPX
    have HSM := hide (And.intro hsort (And.intro hix hho))
    have HSK := hide hsk
    clear HPX hho hix hsort hsm hsk
    go_upto_region 5 with fail
    refine wp_region_frame (by kernel_rfl)
     [fun v _ => v = .int .i64 d, fun v _ => v = .bool true, fun v _ => v = .bool true, fun v _ => v = .int .i64 d, fun v _ => v = .bool true, fun v _ => v = .bool true, fun v _ => v = .bool true,
      fun v _ => v = .pointer (some ⟨p, 2 + i * 3, none⟩), fun v _ => v = .pointer (some ⟨p, 2 + i * 3, none⟩), fun v _ => v = .pointer (some ⟨p, 2 + i * 3 + 1, none⟩), fun v _ => v = .pointer (some ⟨w.heap.size, 3, none⟩), fun v _ => v = .int .i64 q, fun v _ => v = .bool ho, fun v _ => v = .bool (!ho), fun v _ => v = .bool (!ho), fun v _ => v = .bool (!ho)]
     [[(6, none)], [(32, some 0)], [(33, some 1)], [(6, none), (34, some 2)], [(35, some 3), (34, some 2)], [(34, some 2), (36, some 4)], [(37, some 5)], [(5, none), (38, some 6)], [(39, some 7), (38, some 6)], [(40, some 8), (38, some 6)], [(3, none), (38, some 6)], [(42, some 10), (38, some 6)], [(41, some 9), (43, some 11), (38, some 6)], [(44, some 12), (38, some 6)], [(38, some 6), (45, some 13)], [(46, some 14)]] [some 32, some 33, some 34, some 35, some 36, some 37, some 38, some 39, some 40, some 41, some 42, some 43, some 44, some 45, some 46, some 31] [false, false, false, false, false, false, false, false, false, false, false, false, false, false, false, false, false, false, false, false, false, false, false, false, false, false, false, false, false, false, false, true, true, true, true, true, true, true, true, true, true, true, true, true, true, true, true, false, false, false, false, false, false, false, false, false]
     (by kernel_rfl) (by kernel_rfl) (by kernel_rfl) (by kernel_rfl) ?_ ?_ ?_
    ·repeat' (first | exact stable_eq _ | exact trivial | apply And.intro)
    ·refine ⟨?_, ?_, ?_, ?_, ?_, ?_, ?_, ?_, ?_, ?_, ?_, ?_, ?_, ?_, ?_, ?_, trivial⟩
     all_goals
      intro a' z hbz hf
      have z3 := (hbz.cell (p := ⟨w.heap.size, 3, none⟩) hgx).trans y3
      have HZ := hide (unhide (hHas z hbz))
      clear hbz hHas hPut
      simp only [PlanFacts, List.getD_cons_zero, List.getD_cons_succ, Array.getD_eq_getD_getElem?] at hf
      try simp at hf
      try (have hg : a'.tmps[34]? = some (.bool true) := tmpB (by first | exact hf | exact hf.1 | exact hf.2 | exact hf.2.2))
      try (have hg2 : a'.tmps[38]? = some (.bool true) := tmpB (by first | exact hf | exact hf.1 | exact hf.2 | exact hf.2.2))
      try go_simp
      try simp only [hg, if_true]
      try simp only [hg2, if_true]
      try go_simp
      try exact Below.refl _ _
     all_goals first
      | exact ⟨rfl, Below.refl _ _⟩
      | exact ⟨_, rfl, Below.refl _ _, rfl⟩
      | (refine (unhide HZ).mono ?_; rintro e x' ⟨rfl, hb⟩; exact ⟨rfl, hb⟩)
      | (refine (unhide HZ).mono ?_; rintro e x' ⟨rfl, hb⟩; exact ⟨_, rfl, hb, rfl⟩)
      | skip
    ·intro f z hbz hwd
     simp only [AllWords] at hwd
     have h15 := hwd.2.2.2.2.2.2.2.2.2.2.2.2.2.2.2.1
     clear hwd
     simp only [mergeT, h15]
     generalize f 32 = x32
     generalize f 33 = x33
     generalize f 34 = x34
     generalize f 35 = x35
     generalize f 36 = x36
     generalize f 37 = x37
     generalize f 38 = x38
     generalize f 39 = x39
     generalize f 40 = x40
     generalize f 41 = x41
     generalize f 42 = x42
     generalize f 43 = x43
     generalize f 44 = x44
     generalize f 45 = x45
     generalize f 46 = x46
     have z3 := (hbz.cell (p := ⟨w.heap.size, 3, none⟩) hgx).trans y3
     have z4 := (hbz.cell (p := ⟨w.heap.size, 4, none⟩) hgx).trans y4
     have HBZ := hide hbz
     have hPz := unhide (hPut z hbz)
     cases ho
     ·have hhold : holdIt a i q b = { a with held := a.held ++ [(i, q, b)] } := by
       obtain ⟨e1, e2, _⟩ := unhide HD
       have hix := (unhide HSM).2.1
       rw [holdIt, if_pos ⟨by omega, by omega, by cases h : a.ix i q with | none => rfl | some v => rw [h] at hix; cases hix⟩]
      have hixn : a.ix i q = none := by
       have hix := (unhide HSM).2.1
       cases h : a.ix i q with | none => rfl | some v => rw [h] at hix; cases hix
      have HHO := hide (And.intro hhold hixn)
      have HPZ := fun y (hy : Below z.heap.size z y) => hide (unhide (hPut y (hbz.trans (hy.mono hbz.size))))
      simp only [recS] at HPZ
      have hgz : w.heap.size < z.heap.size := Nat.lt_of_lt_of_le hgx hbz.size
      clear hbz hPz hhold hixn hHas hPut y2 y3 y4
      go_upto_region 6 with fail
      refine wp_region_last (by kernel_rfl)
       [fun v _ => v = .pointer (some ⟨p, 2 + i * 3, none⟩), fun v _ => v = .pointer (some ⟨p, 2 + i * 3, none⟩), fun v _ => v = .pointer (some ⟨p, 2 + i * 3 + 1, none⟩), fun v _ => v = .pointer (some ⟨w.heap.size, 3, none⟩), fun v _ => v = .int .i64 q, fun v _ => v = .pointer (some ⟨w.heap.size, 4, none⟩), fun v _ => v = .string b, fun v _ => v = .agg #[.string b], fun _ _ => True]
       [[(5, none)], [(47, some 0)], [(48, some 1)], [(3, none)], [(50, some 3)], [(3, none)], [(52, some 5)], [(53, some 6)], [(49, some 2), (51, some 4), (54, some 7)]] [some 47, some 48, some 49, some 50, some 51, some 52, some 53, some 54, some 55] [false, false, false, false, false, false, false, false, false, false, false, false, false, false, false, false, false, false, false, false, false, false, false, false, false, false, false, false, false, false, false, false, false, false, false, false, false, false, false, false, false, false, false, false, false, false, false, true, true, true, true, true, true, true, true, true]
       8 _ rfl rfl (by kernel_rfl) (by kernel_rfl) (by kernel_rfl) (by kernel_rfl) (by kernel_rfl) (by kernel_rfl) ?_ ?_ ?_
      ·repeat' (first | exact stable_eq _ | exact stable_true | exact trivial | apply And.intro)
      ·refine ⟨?_, ?_, ?_, ?_, ?_, ?_, ?_, ?_, trivial⟩
       all_goals
        intro a' y hb hf
        have y3 := (hb.cell (p := ⟨w.heap.size, 3, none⟩) hgz).trans z3
        have y4 := (hb.cell (p := ⟨w.heap.size, 4, none⟩) hgz).trans z4
        clear hb
        simp only [PlanFacts, List.getD_cons_zero, List.getD_cons_succ, Array.getD_eq_getD_getElem?] at hf
        try simp at hf
        go_simp
        try exact ⟨_, rfl, Below.refl _ _, rfl⟩
        try exact Below.refl _ _
      ·intro f2 y hby hwd
       simp only [AllWords, List.take] at hwd
       have g2 := hwd.2.2.1
       have g4 := hwd.2.2.2.2.1
       have g7 := hwd.2.2.2.2.2.2.2.1
       clear hwd
       have HPY := hide (unhide (HPZ y hby))
       have HBY := hide hby
       clear hby
       simp only [mergeT, g2, g4, g7]
       generalize f2 47 = x47
       generalize f2 48 = x48
       generalize f2 50 = x50
       generalize f2 52 = x52
       generalize f2 53 = x53
       go_simp
       refine (unhide HPY).mono ?_
       rintro r u ⟨rfl, hst⟩
       have HST := hide hst
       clear hst
       go_wp2
       go_ret
       refine ⟨0, rfl, ?_⟩
       obtain ⟨hhold, hixn⟩ := unhide HHO
       rw [unhide HSK, hhold, unhide HCM]
       have hb1 : Below w.heap.size w y := (unhide HX).bel.trans (((unhide HBZ).trans ((unhide HBY).mono (unhide HBZ).size)).mono (unhide HX).bel.size)
       have hb2 : Below x3.heap.size x3 y := (unhide HBZ).trans ((unhide HBY).mono (unhide HBZ).size)
       have HPy := (unhide HPX2).far (far_below (E := fun _ => False) hb2) (fun _ _ h => h)
       refine skOut_same (SkIs2.behind ⟨_, st, pkStep_sh HPy hi (unhide HST) ?_, hs, onSh_hold O i q b hi hixn⟩ hb1)
       intro x hx
       rcases mem_putL hx with rfl | hx
       ·exact ⟨b, rfl⟩
       ·exact HPy.ks.are i hi x hx
     ·have hhold : holdIt a i q b = a := by
       have hix := (unhide HSM).2.1
       rw [holdIt, if_neg (fun h => by rw [h.2.2] at hix; cases hix)]
      have HHO := hide hhold
      clear hbz hPz hhold hHas hPut
      go_wp2
      go_ret
      exact ⟨0, rfl, by rw [unhide HSK, unhide HHO, unhide HCM]; exact skOut_same ((unhide hstay).below (unhide HBZ))⟩
   ·have hhold : holdIt a i q b = a := by
     obtain ⟨e1, e2, _⟩ := unhide HD
     rw [holdIt, if_neg (fun h => by omega)]
    rw [hhold] at hsk
    have HNO := hide hsk
    clear HPX hhold hsk
    go_upto_region 5 with fail
    go_quiet (fail)
    go_wp2
    go_ret
    exact ⟨0, rfl, by rw [unhide HNO, unhide HCM]; exact skOut_same ((unhide hstay).below (below_drewN (Below.refl _ _) _))⟩
  ·have hhold : holdIt a i q b = a := by
    obtain ⟨e1, e2, _⟩ := unhide HD
    rw [holdIt, if_neg (fun h => by omega)]
   rw [hhold] at hsk
   have HNO := hide hsk
   clear HPX hhold hsk
   go_upto_region 5 with fail
   go_quiet (fail)
   go_wp2
   go_ret
   exact ⟨0, rfl, by rw [unhide HNO, unhide HCM]; exact skOut_same ((unhide hstay).below (below_drewN (Below.refl _ _) _))⟩
end Go.Proofs.YtamafdcnbcoegaaGreat
namespace Go.Proofs.YtamafdcnbcoegaaGreat
open Go.RowKit
def hiW (a : Mod.Sk) (e : Nat) : Nat := if a.epoch < e then 1 else 0
set_option maxRecDepth 100000 in
set_option maxHeartbeats 4000000 in
theorem begin_gen {op ct n : Nat} {w : World} {p : Nat} {a : Mod.Sk} {sh : Nat → List (Nat × Value)} {st : Mod.Stv} {c : Sv} (H : PkAt w p a.epoch a.logs sh st c) (hs : Alv op ct n st a.epoch a.logs) (hct : ct + 1000 < 18446744073709551616) (O : OnSh a.held sh) (e : Nat) (he : a.epoch ≤ e) (hem : e ≤ 2147483647) :
  Calls Tryz.prog 160 #[ptrTo p, .int .i64 e] w fun r w' => ∃ v, r = .returned (.int .i64 v) ∧ SkOut op ct n w w' p a (helloIt a e) 0 [] (hiW a e) c v := by
 have c1 : w.cell? ⟨p, 1, none⟩ = some (.int .i64 a.epoch) := by rw [blk_cell H.ks.blk, H.ks.a1]
 by_cases heq : e = a.epoch
 ·subst heq
  have HF := hide (skIs2_refl H hs O)
  rw [helloIt_same, show hiW a a.epoch = 0 by unfold hiW; rw [if_neg (by omega)]]
  have hb : ((a.epoch : Int) == (a.epoch : Int)) = true := by simp
  clear H
  unfold ptrTo
  go_enter Tryz.func160, Tryz.ntmps160
  go_wp2
  go_ret
  exact ⟨0, rfl, skOut_same (unhide HF)⟩
 rw [show hiW a e = 1 by unfold hiW; rw [if_pos (by omega)]]
 obtain ⟨ee, hee⟩ : ∃ ee, ee = (st.putNumbers e 0 0).1 := ⟨_, rfl⟩
 have hEp : helloIt a e = { a with epoch := e, held := [] } := by unfold helloIt helloHeld; rw [if_pos (by omega)]
 rw [hEp]
 have hWN := fun y (hy : StAt y c.s c.dp st c.dlv c.duv) => hide (writeNumbers_any y c.s c.dp st c.dlv c.duv hy e 0 0 (by omega) (by omega) (by omega))
 obtain ⟨st2, hst⟩ : ∃ st2, st2 = (st.putNumbers e 0 0).2 := ⟨_, rfl⟩
 rw [← hee, ← hst] at hWN
 have hres : (n ≠ 1 ∧ ee = 0 ∧ Alv op (ct + 1) (n - 1) st2 e a.logs) ∨ (n = 1 ∧ ee = 4 ∧ Ded op st2 a.epoch a.logs) := by
  by_cases h1 : n = 1
  ·subst h1
   have := ded_num hs e 0 0
   rw [← hee, ← hst] at this
   exact .inr ⟨rfl, this⟩
  ·have := alv_num hs (by omega) h1 hem
   rw [← hee, ← hst] at this
   exact .inl ⟨h1, this⟩
 have hlen2 : st2.dk.bytes.length = 7808 := by
  rw [hst]
  unfold Mod.Stv.putNumbers Mod.Dk.put
  simp only
  split
  ·exact H.len
  ·split
   ·exact H.len
   ·simp only
    have := H.stt.hd
    rw [Mod.length_setSec (Mod.length_sealB _ _ (by rw [Mod.length_headIn]; omega)) (by rw [H.len]; omega)]
    exact H.len
 have hne : ((e : Int) == (a.epoch : Int)) = false := by simp; omega
 have hpl := lt_of_block H.ks.blk
 have HH := hide H
 have hNO := fun y => hide (numbersOf_any e y)
 have HRS := hide hres
 obtain ⟨ep, hep⟩ : ∃ ep, ep = a.epoch := ⟨_, rfl⟩
 have HEE := hide hep
 rw [← hep] at c1 hne HH
 clear H hst hee hres hEp hep
 unfold ptrTo at *
 go_enter Tryz.func160, Tryz.ntmps160
 go_upto_region 3 with fail
 refine wp_region_foot (by kernel_rfl)
  [fun v _ => v = .pointer (some ⟨p, 0, none⟩), fun v _ => v = .pointer (some ⟨p, 0, none⟩), fun v _ => v = .pointer (some ⟨p, 0, none⟩), fun v _ => v = .pointer (some ⟨c.s, 0, none⟩), fun v _ => v = .int .i64 e, fun v _ => v = .agg #[.int .i64 e, .int .i64 0, .int .i64 0],
   fun v y => v = .int .i64 ee ∧ ∃ uv', StAt y c.s c.dp st2 c.dlv uv' ∧ Loc w c.duv uv', fun v _ => v = .int .i64 ee]
  [[(0, none)], [(13, some 0)], [(14, some 1)], [(15, some 2)], [(1, none)], [(17, some 4)], [(16, some 3), (18, some 5)], [(19, some 6)]] [some 13, some 14, some 15, some 16, some 17, some 18, some 19, some 5] [false, false, false, false, false, true, false, false, false, false, false, false, false, true, true, true, true, true, true, true, false, false, false, false, false, false, false, false, false, false, false, false, false, false, false, false, false, false]
  [(6, StU c.s c.dp c.dlv c.duv)]
  (by kernel_rfl) (by kernel_rfl) (by kernel_rfl) (by kernel_rfl) (by kernel_rfl) ?_ ?_ ?_ ?_
 ·repeat' (first | exact stable_eq _ | exact (fun _ _ _ h hb => ⟨h.1, h.2.imp fun _ h => ⟨h.1.far (far_below (E := fun _ => False) hb) (fun _ _ h => h), h.2⟩⟩) | exact trivial | apply And.intro)
 ·repeat' (first | exact trivial | exact .inl rfl | exact .inr (.inr (stableF_eq _ _)) | apply And.intro)
 ·refine ⟨?_, ?_, ?_, ?_, ?_, ?_, ?_, ?_, trivial⟩
  all_goals
   intro a' z hb hf
   simp only [PlanFacts, List.getD_cons_zero, List.getD_cons_succ, Array.getD_eq_getD_getElem?] at hf
   try simp at hf
  iterate 3
   ·clear hb
    go_simp
    exact ⟨_, rfl, Far.refl _ _, rfl⟩
  ·have z0 : z.cell? ⟨p, 0, none⟩ = some (.pointer (some ⟨c.s, 0, none⟩)) := by
    have := hb.blk (unhide HH).ks.blk (footBut_no (by intro q hq; simp at hq; subst hq; exact fun h => (unhide HH).sep p (.inl rfl) h))
    rw [blk_cell this, (unhide HH).ks.a0]
    rfl
   clear hb
   go_simp
   exact ⟨_, rfl, Far.refl _ _, rfl⟩
  ·clear hb
   go_simp
   exact ⟨_, rfl, Far.refl _ _, rfl⟩
  ·have HC := hide (unhide (hNO z))
   clear hb
   go_simp
   refine (unhide HC).mono ?_
   rintro r z2 ⟨rfl, hb2⟩
   exact ⟨_, rfl, far_below hb2, rfl⟩
  ·have hbz : Below w.heap.size w z := hb.below (Nat.le_refl _) (by
    rintro j _ ⟨q, hq, g1, g2, g3⟩
    simp at hq
    subst hq
    exact g1 rfl)
   have HC := hide (unhide (hWN z ((unhide HH).stt.far (far_below (E := fun _ => False) hbz) (fun _ _ h => h))))
   have hzz := hbz.size
   clear hb hbz
   go_simp
   refine (unhide HC).mono ?_
   rintro r z2 ⟨rfl, uv', k1, k2, k3⟩
   exact ⟨_, rfl, footOf_of (.head _) k3, rfl, uv', k1, loc_less k2 hzz⟩
  ·clear hb
   obtain ⟨hf, _⟩ := hf
   go_simp
   exact ⟨_, rfl, Far.refl _ _, rfl⟩
 ·intro f z hF hwd
  obtain ⟨_, uv', k1, k2⟩ := hwd.2.2.2.2.2.2.1
  have h7 := hwd.2.2.2.2.2.2.2.1
  have hF : Far (StU c.s c.dp c.dlv c.duv) w z := hF.mono (fun k _ h => by
   obtain ⟨q, hq, h⟩ := h
   simp at hq
   subst hq
   exact h)
  have hPK : PkAt z p ep a.logs sh st2 { c with duv := uv' } := ⟨(unhide HH).ks.far hF (fun k hk h => (unhide HH).sep k hk h), k1, (unhide HH).rl.far hF (fun g hg h => ((unhide HH).sepr g hg).2 h), hlen2⟩
  have hST : PkStep w z p ep a.logs sh st2 c := by
   refine ⟨_, hPK, hF.mono (fun k _ h => .inr (.inl h)), ?_, rfl, rfl⟩
   have hwz := hF.size
   rintro k (hk | (rfl | rfl | hk | hk) | hk)
   ·exact .inl (.inl hk)
   ·exact .inl (.inr (.inl (.inl rfl)))
   ·exact .inl (.inr (.inl (.inr (.inl rfl))))
   ·exact .inl (.inr (.inl (.inr (.inr (.inl hk)))))
   ·rcases k2 with h | h | ⟨g, h, hg⟩
    ·rw [h] at hk; cases hk
    ·exact .inl (.inr (.inl (.inr (.inr (.inr (by rw [← h]; exact hk))))))
    ·rw [h] at hk; cases hk; exact .inr hg
   ·exact .inl (.inr (.inr hk))
  have HST := hide hST
  have yf : z.frozen? ⟨p, 1, none⟩ = false := blk_free (i := 1) hPK.ks.blk
  have yc : z.cell? ⟨p, 1, none⟩ = some (.int .i64 ep) := by rw [blk_cell hPK.ks.blk]; exact hPK.ks.a1
  clear hwd hF k1 k2 hPK hST
  simp only [mergeT, h7]
  generalize f 13 = x13
  generalize f 14 = x14
  generalize f 15 = x15
  generalize f 16 = x16
  generalize f 17 = x17
  generalize f 18 = x18
  generalize f 19 = x19
  rcases unhide HRS with ⟨hn1, rfl, hal⟩ | ⟨hn1, rfl, hde⟩
  rotate_left
  ·have HDE := hide (And.intro hn1 hde)
   clear hn1 hde HRS yf yc
   go_wp2
   go_ret
   refine ⟨4, rfl, .inr ⟨rfl, by rw [(unhide HDE).1]; omega, by rw [(unhide HDE).1]; omega, ?_⟩⟩
   rw [List.take_nil, grown_zero, ← unhide HEE]
   exact ⟨sh, st2, unhide HST, by rw [unhide HEE]; exact (unhide HDE).2⟩
  have HAL := hide (And.intro hn1 hal)
  have HEP := hide ((unhide HST).trans (fun c' h' => pkStep_ep h' e hem))
  clear hn1 hal HRS HST
  go_upto_region 7 with fail
  refine wp_world (fun y => PkStep w y p e a.logs sh st2 c) (unhide HEP) ?_
  clear HEP yf yc
  intro y hY
  have HY := hide hY
  clear hY
  go_wp2
  go_loopw [6, 27] (fun _ i wr => ∃ j : Nat, j ≤ 3 ∧ i = .int .i64 j ∧ PkStep w wr p e a.logs (fun t => if t < j then [] else sh t) st2 c) (fun _ i _ => 3 - (intOf i).toNat)
  case atStart => exact ⟨0, by omega, rfl, by simpa using unhide HY⟩
  case round =>
   obtain ⟨j, hj, rfl, hk⟩ := hrel
   clear HY
   by_cases hlt : j < 3
   ·obtain ⟨c1', K1, F1, N1, e1, e2⟩ := id hk
    have HCL := hide (clearS_any (K1.shAt hlt))
    have hj0 : (0 : Int) ≤ (j : Int) := by omega
    have hj3 : (j : Int) < 3 := by omega
    have HK := hide hk
    have HK1 := hide K1
    have HFN := hide (And.intro F1 (And.intro N1 (And.intro e1 e2)))
    clear hk K1 F1 N1 e1 e2
    go_wp2_with (go_at_call 203; refine (unhide HCL).mono ?_; rintro r y ⟨rfl, hst⟩)
    have hq := pkStep_sh (unhide HK1) hlt hst (by intro x hx; cases hx)
    obtain ⟨F1, N1, e1, e2⟩ := unhide HFN
    have h2 : PkStep w y p e a.logs (fun t => if t < j + 1 then [] else sh t) st2 c := by
     obtain ⟨c2, q1, q2, q3, q4, q5⟩ := hq
     have hsz := F1.size
     have hfun : (fun t => if t = j then ([] : List (Nat × Value)) else (fun t => if t < j then [] else sh t) t) = fun t => if t < j + 1 then [] else sh t := by
      funext t
      by_cases h1 : t = j
      ·simp [h1]
      ·by_cases h2 : t < j
       ·simp [h1, h2, show t < j + 1 by omega]
       ·simp [h1, h2, show ¬ t < j + 1 by omega]
     rw [hfun] at q1
     refine ⟨c2, q1, F1.trans q2 (fun k hk hu => (N1 k hu).elim id (fun h => by omega)), fun k hk => ?_, q4.trans e1, q5.trans e2⟩
     rcases q3 k hk with h | h
     ·exact N1 k h
     ·exact .inr (Nat.le_trans hsz h)
    exact ⟨⟨j + 1, by omega, by go_num, h2⟩, by simp [intOf]; omega⟩
   ·obtain rfl : j = 3 := by omega
    go_wp2
    go_ret
    exact ⟨0, rfl, .inl ⟨rfl, by have := (unhide HAL).1; omega, _, st2, hk, (unhide HAL).2, onSh_cleared⟩⟩
end Go.Proofs.YtamafdcnbcoegaaGreat
namespace Go.Proofs.YtamafdcnbcoegaaGreat
open Go.RowKit
section
variable {op ct n : Nat} {w : World} {p : Nat} {a : Mod.Sk} {sh : Nat → List (Nat × Value)} {st : Mod.Stv} {c : Sv}
theorem take_ok (H : PkAt w p a.epoch a.logs sh st c) (hs : Alv op ct n st a.epoch a.logs) (hct : ct + 1000 < 18446744073709551616) (G : SkGood a) (M : SkMore a) (O : OnSh a.held sh) (e : Int) (i q : Nat) (hi : i < 3) (hq : q ≤ 2147483647) (b : ByteArray) (hb : b.size ≤ 20) (hn : n = 0 ∨ (a.commits 3 a.epoch i q b).length < n) :
  Calls Tryz.prog 163 #[ptrTo p, .agg #[.int .i64 3, .int .i64 e, .int .i64 i, .int .i64 q, .string b]] w fun r w' => r = .returned (.int .i64 0) ∧ SkIs2 op (ct + (a.commits 3 a.epoch i q b).length) (n - (a.commits 3 a.epoch i q b).length) w w' p (skAfter a 3 a.epoch i q b) c := by
 refine (take_gen H hs hct G M O e i q hi hq b hb).mono ?_
 rintro r w' ⟨v, rfl, ⟨rfl, _, h⟩ | ⟨_, h1, h2, _⟩⟩
 ·exact ⟨rfl, h⟩
 ·omega
theorem take_bad (H : PkAt w p a.epoch a.logs sh st c) (hs : Alv op ct n st a.epoch a.logs) (hct : ct + 1000 < 18446744073709551616) (G : SkGood a) (M : SkMore a) (O : OnSh a.held sh) (e : Int) (i q : Nat) (hi : i < 3) (hq : q ≤ 2147483647) (b : ByteArray) (hb : b.size ≤ 20) (hn : 1 ≤ n ∧ n ≤ (a.commits 3 a.epoch i q b).length) :
  Calls Tryz.prog 163 #[ptrTo p, .agg #[.int .i64 3, .int .i64 e, .int .i64 i, .int .i64 q, .string b]] w fun r w' => r = .returned (.int .i64 4) ∧ DeadAt op w w' p a.epoch (grown a i ((a.commits 3 a.epoch i q b).take (n - 1))).logs c := by
 refine (take_gen H hs hct G M O e i q hi hq b hb).mono ?_
 rintro r w' ⟨v, rfl, ⟨rfl, h, _⟩ | ⟨rfl, _, _, h⟩⟩
 ·omega
 ·exact ⟨rfl, h⟩
theorem begin_ok (H : PkAt w p a.epoch a.logs sh st c) (hs : Alv op ct n st a.epoch a.logs) (hct : ct + 1000 < 18446744073709551616) (O : OnSh a.held sh) (e : Nat) (he : a.epoch ≤ e) (hem : e ≤ 2147483647) (hn : n = 0 ∨ hiW a e < n) :
  Calls Tryz.prog 160 #[ptrTo p, .int .i64 e] w fun r w' => r = .returned (.int .i64 0) ∧ SkIs2 op (ct + hiW a e) (n - hiW a e) w w' p (helloIt a e) c := by
 refine (begin_gen H hs hct O e he hem).mono ?_
 rintro r w' ⟨v, rfl, ⟨rfl, _, h⟩ | ⟨_, h1, h2, _⟩⟩
 ·exact ⟨rfl, h⟩
 ·omega
theorem begin_bad (H : PkAt w p a.epoch a.logs sh st c) (hs : Alv op ct n st a.epoch a.logs) (hct : ct + 1000 < 18446744073709551616) (O : OnSh a.held sh) (e : Nat) (he : a.epoch ≤ e) (hem : e ≤ 2147483647) (hn : 1 ≤ n ∧ n ≤ hiW a e) :
  Calls Tryz.prog 160 #[ptrTo p, .int .i64 e] w fun r w' => r = .returned (.int .i64 4) ∧ DeadAt op w w' p a.epoch a.logs c := by
 refine (begin_gen H hs hct O e he hem).mono ?_
 rintro r w' ⟨v, rfl, ⟨rfl, h, _⟩ | ⟨rfl, _, _, h⟩⟩
 ·omega
 ·rw [List.take_nil, grown_zero] at h
  exact ⟨rfl, h⟩
end
set_option maxRecDepth 100000 in
set_option maxHeartbeats 4000000 in
theorem answerData_ok {op ct n : Nat} {w : World} {p : Nat} {a : Mod.Sk} {sh : Nat → List (Nat × Value)} {st : Mod.Stv} {c : Sv} (H : PkAt w p a.epoch a.logs sh st c) (hs : Alv op ct n st a.epoch a.logs) (hct : ct + 1000 < 18446744073709551616) (G : SkGood a) (M : SkMore a) (O : OnSh a.held sh) (i q : Nat) (hi : i < 3) (hq : q ≤ 2147483647) (b : ByteArray) (hb : b.size ≤ 20) (hnw : n = 0 ∨ (a.commits 3 a.epoch i q b).length < n) :
  Calls Tryz.prog 110 #[ptrTo p, .agg #[.int .i64 3, .int .i64 a.epoch, .int .i64 i, .int .i64 q, .string b]] w fun r z =>
   r = .returned (.tuple #[.agg #[.int .i64 4, .int .i64 a.epoch, .int .i64 i, .int .i64 ((skAfter a 3 a.epoch i q b).logs i).length, .string (ackBody (skAfter a 3 a.epoch i q b) i ((skAfter a 3 a.epoch i q b).logs i).length)], .int .i64 0]) ∧ SkIs2 op (ct + (a.commits 3 a.epoch i q b).length) (n - (a.commits 3 a.epoch i q b).length) w z p (skAfter a 3 a.epoch i q b) c := by
 obtain ⟨nn, hnn⟩ : ∃ nn, nn = n - (a.commits 3 a.epoch i q b).length := ⟨_, rfl⟩
 obtain ⟨cc, hcc⟩ : ∃ cc, cc = ct + (a.commits 3 a.epoch i q b).length := ⟨_, rfl⟩
 have c1 : w.cell? ⟨p, 1, none⟩ = some (.int .i64 a.epoch) := by rw [blk_cell H.ks.blk, H.ks.a1]
 have hpl := lt_of_block H.ks.blk
 have hTK := fun y (hy : Below w.heap.size w y) => hide (take_ok (H.far (far_below (E := fun _ => False) hy) (fun _ _ h => h)) hs hct G M O a.epoch i q hi hq b hb hnw)
 rw [← hnn, ← hcc] at hTK ⊢
 clear hnn hcc hnw
 have hep2 : (skAfter a 3 a.epoch i q b).epoch = a.epoch := by
  unfold skAfter
  split
  ·exact holdIt_epoch _ _ _ _
  ·rfl
 obtain ⟨a2, ha2⟩ : ∃ a2, a2 = skAfter a 3 a.epoch i q b := ⟨_, rfl⟩
 rw [← ha2] at hTK hep2 ⊢
 obtain ⟨ep, hep⟩ : ∃ ep, ep = a.epoch := ⟨_, rfl⟩
 rw [← hep] at c1 hTK hep2 ⊢
 have hneb : ((ep : Int) != (ep : Int)) = false := by simp
 have hUl := hide H.lt
 have DD := hide (rsAt_new w #[.int .i64 3, .int .i64 ep, .int .i64 i, .int .i64 q, .string b] zFr)
 have hi0 : (0 : Int) ≤ (i : Int) := by omega
 have hi3 : (i : Int) < 3 := by omega
 have HEP := hide hep2
 clear hs hct
 clear n
 obtain ⟨n, hn⟩ : ∃ n, n = (a2.logs i).length := ⟨_, rfl⟩
 rw [← hn]
 obtain ⟨bd, hbd⟩ : ∃ bd, bd = ackBody a2 i n := ⟨_, rfl⟩
 rw [← hbd]
 have HNB := hide (And.intro hn hbd)
 clear H hep ha2 hep2 hn hbd
 unfold ptrTo at *
 go_enter Tryz.func110, Tryz.ntmps110
 go_upto_region 1 with fail
 refine wp_world (RsAt w #[.int .i64 3, .int .i64 ep, .int .i64 i, .int .i64 q, .string b] zFr) (unhide DD) ?_
 clear DD
 intro x X
 have y1 := blk_cell (i := 1) X.box
 simp at y1
 have z1 := (X.bel.cell (p := ⟨p, 1, none⟩) hpl).trans c1
 have HX := hide X
 clear X
 go_quiet (fail)
 go_upto_region 3 with fail
 refine wp_world (RsAt w #[.int .i64 3, .int .i64 ep, .int .i64 i, .int .i64 q, .string b] zFr) ((unhide HX).drewN _) ?_
 clear HX y1 z1
 intro x2 X
 have y0 := blk_cell (i := 0) X.box
 have y1 := blk_cell (i := 1) X.box
 have y2 := blk_cell (i := 2) X.box
 have y3 := blk_cell (i := 3) X.box
 have y4 := blk_cell (i := 4) X.box
 simp at y0 y1 y2 y3 y4
 have hT := hide (unhide (hTK x2 X.bel))
 have HX := hide X
 clear X hTK
 go_upto_region 6 with (go_at_call 163; refine (unhide hT).mono ?_; rintro r y ⟨rfl, hk⟩)
 obtain ⟨sh2, st2, ⟨c2, K2, F2, N2, t1, t2⟩, hs2, O2⟩ := hk
 have hnE : ∀ k, w.heap.size ≤ k → ¬ PkU p c k := fun k hk h => by have := (unhide hUl) k h; omega
 have hgx := (unhide HX).lt
 refine wp_world (fun z => PkAt z p a2.epoch a2.logs sh2 st2 c2 ∧ Far (PkU p c) x2 z ∧ z.heap[w.heap.size]? = some (.cells #[.int .i64 3, .int .i64 ep, .int .i64 i, .int .i64 q, .string b] 41 (0, 0)) ∧ z.heap[w.heap.size + 1]? = some (.cells zFr 41 (0, 0))) ⟨K2, F2, F2.blk (unhide HX).box (hnE _ (Nat.le_refl _)), F2.blk (unhide HX).res (hnE _ (by omega))⟩ ?_
 clear y0 y1 y2 y3 y4 K2 F2 hT
 rintro x3 ⟨K3, F3, hbx, hrx⟩
 have y2 : x3.cell? ⟨w.heap.size, 2, none⟩ = some (.int .i64 i) := blk_cell (i := 2) hbx
 have HK3 := hide K3
 have HF3 := hide F3
 have HBX := hide (And.intro hbx hrx)
 have HN2 := hide (And.intro N2 (And.intro t1 (And.intro t2 (And.intro hs2 O2))))
 clear K3 F3 hbx hrx N2 t1 t2 hs2 O2
 go_quiet (fail)
 go_upto_region 7 with fail
 refine wp_world (fun z => PkAt z p a2.epoch a2.logs sh2 st2 c2 ∧ Far (PkU p c) x2 z ∧ z.heap[w.heap.size]? = some (.cells #[.int .i64 3, .int .i64 ep, .int .i64 i, .int .i64 q, .string b] 41 (0, 0)) ∧ z.heap[w.heap.size + 1]? = some (.cells zFr 41 (0, 0))) ⟨(unhide HK3).far (far_drewN (fun _ => False) _ _) (fun _ _ h => h), (unhide HF3).trans (far_drewN (fun _ => False) _ _) (fun _ _ h => h.elim), (unhide HBX).1, (unhide HBX).2⟩ ?_
 clear y2 HK3 HF3 HBX
 rintro x4 ⟨K4, F4, hbx, hrx⟩
 obtain ⟨ad, cap, _, clog⟩ := K4.ks.logc hi
 have hll := K4.ks.loglen hi
 obtain ⟨hn, hbd⟩ := unhide HNB
 rw [← hn] at clog hll
 have hO2 := (unhide HN2).2.2.2.2
 have hAB := fun z (hz : Below x4.heap.size x4 z) => hide (ackBody_any ((K4.far (far_below (E := fun _ => False) hz) (fun _ _ h => h)).shAt hi) (K4.ks.are i hi) n (by omega))
 rw [ack_body_same hO2 K4.ks.are hi n, ← hbd] at hAB
 have hLS := fun z (hz : Below x4.heap.size x4 z) => hide (sinkLast_any z p (2 + i * 3) n cap ad ((hz.cell (p := ⟨p, 2 + i * 3, none⟩) (lt_of_block K4.ks.blk)).trans clog))
 have hpx := lt_of_block K4.ks.blk
 have c14 : x4.cell? ⟨p, 1, none⟩ = some (.int .i64 ep) := by rw [blk_cell K4.ks.blk, K4.ks.a1, unhide HEP]
 have y2 : x4.cell? ⟨w.heap.size, 2, none⟩ = some (.int .i64 i) := blk_cell (i := 2) hbx
 have hgb := lt_of_block hbx
 have HK4 := hide K4
 have HF4 := hide F4
 have HBX := hide hrx
 clear K4 F4 hbx hrx hn hbd hO2
 have hnp : p ≠ w.heap.size + 1 := by omega
 refine wp_region_foot (by kernel_rfl)
  [fun v _ => v = .pointer (some ⟨p, 0, none⟩), fun v _ => v = .pointer (some ⟨p, 0, none⟩), fun v _ => v = .pointer (some ⟨p, 1, none⟩), fun v _ => v = .int .i64 ep, fun v _ => v = .pointer (some ⟨w.heap.size, 2, none⟩), fun v _ => v = .int .i64 i,
   fun v _ => v = .pointer (some ⟨p, 2 + i * 3, none⟩), fun v _ => v = .int .i64 n, fun v _ => v = .pointer (some ⟨p, 2 + i * 3, none⟩), fun v _ => v = .int .i64 n, fun v _ => v = .pointer (some ⟨p, 2 + i * 3, none⟩), fun v _ => v = .pointer (some ⟨p, 2 + i * 3, none⟩), fun v _ => v = .pointer (some ⟨p, 2 + i * 3 + 1, none⟩),
   fun v _ => v = .func (.func 165) #[.pointer (some ⟨p, 2 + i * 3 + 1, none⟩)] #[], fun v _ => v = .string bd, fun v _ => v = .agg #[.int .i64 4, .int .i64 ep, .int .i64 i, .int .i64 n, .string bd],
   fun _ z => z.heap[w.heap.size + 1]? = some (.cells #[.int .i64 4, .int .i64 ep, .int .i64 i, .int .i64 n, .string bd] 41 (0, 0)), fun v _ => v = .int .i64 0]
  [[(0, none)], [(36, some 0)], [(37, some 1)], [(38, some 2)], [(3, none)], [(40, some 4)], [(7, none)], [(42, some 6)], [(7, none)], [(44, some 8)], [(7, none)], [(46, some 10)], [(47, some 11)], [(48, some 12)], [(45, some 9), (49, some 13)], [(39, some 3), (41, some 5), (43, some 7), (50, some 14)], [(4, none), (51, some 15)], []] [some 36, some 37, some 38, some 39, some 40, some 41, some 42, some 43, some 44, some 45, some 46, some 47, some 48, some 49, some 50, some 51, none, some 5] [false, false, false, false, false, true, false, false, false, false, false, false, false, false, false, false, false, false, false, false, false, false, false, false, false, false, false, false, false, false, false, false, false, false, false, false, true, true, true, true, true, true, true, true, true, true, true, true, true, true, true, true]
  [(16, fun k => k = w.heap.size + 1)]
  (by kernel_rfl) (by kernel_rfl) (by kernel_rfl) (by kernel_rfl) (by kernel_rfl) ?_ ?_ ?_ ?_
 ·repeat' (first | exact stable_eq _ | exact stable_blk _ _ | exact trivial | apply And.intro)
 ·repeat' (first | exact trivial | exact .inl rfl | exact .inr (.inr (stableF_eq _ _)) | apply And.intro)
 ·refine ⟨?_, ?_, ?_, ?_, ?_, ?_, ?_, ?_, ?_, ?_, ?_, ?_, ?_, ?_, ?_, ?_, ?_, ?_, trivial⟩
  case refine_17 =>
   intro a' z hb hf
   simp only [PlanFacts, List.getD_cons_zero, List.getD_cons_succ, Array.getD_eq_getD_getElem?] at hf
   try simp at hf
   have q0 := hb.blk (unhide HBX) (by
    rintro ⟨q, hq, g1, g2, g3⟩
    simp at hq
    subst hq
    exact g1 rfl)
   clear hb
   rw [if_pos (by rfl)]
   refine wp_store_row 41 (.tmp 4) (.tmp 51) rfl (w.heap.size + 1) #[.int .i64 4, .int .i64 ep, .int .i64 i, .int .i64 n, .string bd] (by simp [Act.eval, hf]) (by simp [Act.eval, hf]) 41 _ q0 (by rw [size_frame]; rfl) rfl (by rw [Array.all_eq_true_iff_forall_mem]; intro u hu; simp at hu; rcases hu with rfl | rfl | rfl | rfl | rfl <;> rfl) ?_
   exact ⟨_, rfl, footOf_of (.head _) (far_setRow _ _ _), setRow_heap _ _ _ _ _ _ q0⟩
  case refine_18 =>
   intro a' z hb hf
   clear hb
   go_simp
   exact ⟨_, rfl, Far.refl _ _, rfl⟩
  all_goals
   intro a' z hb hf
   have hbz : Below x4.heap.size x4 z := foot_below hb (by intro q hq; simp at hq; subst hq; show depB _ 16 _ = true; decide +kernel)
   have z2 := (hbz.cell (p := ⟨w.heap.size, 2, none⟩) hgb).trans y2
   have z1 := (hbz.cell (p := ⟨p, 1, none⟩) hpx).trans c14
   have HA := hide (unhide (hAB z hbz))
   have HL := hide (unhide (hLS z hbz))
   clear hb hbz hAB hLS
   simp only [PlanFacts, List.getD_cons_zero, List.getD_cons_succ, Array.getD_eq_getD_getElem?] at hf
   try simp at hf
   go_simp
   first
    | exact ⟨_, rfl, Far.refl _ _, rfl⟩
    | (refine (unhide HL).mono ?_; rintro r z2 ⟨rfl, rfl⟩; exact ⟨_, rfl, Far.refl _ _, rfl⟩)
    | (refine (unhide HA).mono ?_; rintro r z2 ⟨rfl, hb2⟩; exact ⟨_, rfl, far_below hb2, rfl⟩)
    | skip
 ·intro f z hF hwd
  have h8 := hwd.2.2.2.2.2.2.2.2.2.2.2.2.2.2.2.2.1
  have h9 := hwd.2.2.2.2.2.2.2.2.2.2.2.2.2.2.2.2.2.1
  have q0 : z.cell? ⟨w.heap.size + 1, 0, none⟩ = some (.int .i64 4) := blk_cell (i := 0) h8
  have q1 : z.cell? ⟨w.heap.size + 1, 1, none⟩ = some (.int .i64 ep) := blk_cell (i := 1) h8
  have q2 : z.cell? ⟨w.heap.size + 1, 2, none⟩ = some (.int .i64 i) := blk_cell (i := 2) h8
  have q3 : z.cell? ⟨w.heap.size + 1, 3, none⟩ = some (.int .i64 n) := blk_cell (i := 3) h8
  have q4 : z.cell? ⟨w.heap.size + 1, 4, none⟩ = some (.string bd) := blk_cell (i := 4) h8
  have hF : Far (fun k => k = w.heap.size + 1) x4 z := hF.mono (fun k _ h => by
   obtain ⟨q, hq, h⟩ := h
   simp at hq
   subst hq
   exact h)
  have HFZ := hide hF
  clear hwd hF h8
  simp only [mergeT, h9]
  generalize f 36 = x36
  generalize f 37 = x37
  generalize f 38 = x38
  generalize f 39 = x39
  generalize f 40 = x40
  generalize f 41 = x41
  generalize f 42 = x42
  generalize f 43 = x43
  generalize f 44 = x44
  generalize f 45 = x45
  generalize f 46 = x46
  generalize f 47 = x47
  generalize f 48 = x48
  generalize f 49 = x49
  generalize f 50 = x50
  generalize f 51 = x51
  go_simp
  go_wp2
  refine bodyPost_ret (v := .tuple #[.agg #[.int .i64 4, .int .i64 ep, .int .i64 i, .int .i64 n, .string bd], .int .i64 0]) (by simp [results, Tryz.results110, go_sem, q0, q1, q2, q3, q4]) rfl ⟨rfl, ?_⟩
  obtain ⟨N2, t1, t2, hs2, O2⟩ := unhide HN2
  have hxb := (unhide HX).bel
  have hFz := unhide HFZ
  have hres : ¬ PkU p c2 (w.heap.size + 1) := by
   have hc := unhide HBX
   exact pk_not_cells (unhide HK4) hc (by decide) (by decide) (by decide) (by decide) (by decide) (by decide) (by decide) (by decide)
  refine ⟨sh2, st2, ⟨c2, (unhide HK4).far hFz (fun k hk e => hres (by rw [← e]; exact hk)), ?_, fun k hk => (N2 k hk).imp id (fun h => Nat.le_trans hxb.size h), t1, t2⟩, hs2, O2⟩
  exact ((far_below (E := PkU p c) hxb).trans (unhide HF4) (fun _ _ h => h)).trans hFz (fun k hk e => by omega)
set_option maxRecDepth 100000 in
set_option maxHeartbeats 4000000 in
theorem answerHello_ok {op ct n : Nat} {w : World} {p : Nat} {a : Mod.Sk} {sh : Nat → List (Nat × Value)} {st : Mod.Stv} {c : Sv} (H : PkAt w p a.epoch a.logs sh st c) (hs : Alv op ct n st a.epoch a.logs) (hct : ct + 1000 < 18446744073709551616) (O : OnSh a.held sh) (e : Nat) (s q : Int) (b : ByteArray) (he : a.epoch ≤ e) (hem : e ≤ 2147483647) (hnw : n = 0 ∨ hiW a e < n) :
  Calls Tryz.prog 109 #[ptrTo p, .agg #[.int .i64 1, .int .i64 e, .int .i64 s, .int .i64 q, .string b]] w fun r z =>
   r = .returned (.tuple #[.agg #[.int .i64 2, .int .i64 e, .int .i64 0, .int .i64 0, .string (welB a)], .int .i64 0]) ∧ SkIs2 op (ct + hiW a e) (n - hiW a e) w z p (helloIt a e) c := by
 obtain ⟨nn, hnn⟩ : ∃ nn, nn = n - hiW a e := ⟨_, rfl⟩
 obtain ⟨cc, hcc⟩ : ∃ cc, cc = ct + hiW a e := ⟨_, rfl⟩
 have c1 : w.cell? ⟨p, 1, none⟩ = some (.int .i64 a.epoch) := by rw [blk_cell H.ks.blk, H.ks.a1]
 have hpl := lt_of_block H.ks.blk
 have hBG := fun y (hy : Below w.heap.size w y) => hide (begin_ok (H.far (far_below (E := fun _ => False) hy) (fun _ _ h => h)) hs hct O e he hem hnw)
 rw [← hnn, ← hcc] at hBG ⊢
 clear hnn hcc hnw hs hct
 clear n
 have hlg : (helloIt a e).logs = a.logs := rfl
 have hepE : (helloIt a e).epoch = e := rfl
 obtain ⟨a2, ha2⟩ : ∃ a2, a2 = helloIt a e := ⟨_, rfl⟩
 rw [← ha2] at hBG hlg hepE ⊢
 have hwb := wel_bytes (a.logs 0).length (a.logs 1).length (a.logs 2).length
 have hl0 := H.ks.loglen (i := 0) (by omega)
 have hl1 := H.ks.loglen (i := 1) (by omega)
 have hl2 := H.ks.loglen (i := 2) (by omega)
 obtain ⟨n0, hn0⟩ : ∃ n, n = (a.logs 0).length := ⟨_, rfl⟩
 obtain ⟨n1, hn1⟩ : ∃ n, n = (a.logs 1).length := ⟨_, rfl⟩
 obtain ⟨n2, hn2⟩ : ∃ n, n = (a.logs 2).length := ⟨_, rfl⟩
 obtain ⟨wel, hwel⟩ : ∃ v, v = welB a := ⟨_, rfl⟩
 have hwv : wel = le4S (a.logs 0).length ++ le4S (a.logs 1).length ++ le4S (a.logs 2).length := hwel
 rw [← hwel]
 rw [← hn0, ← hn1, ← hn2] at hwv hwb
 rw [← hwv] at hwb
 rw [← hn0] at hl0
 rw [← hn1] at hl1
 rw [← hn2] at hl2
 have hWB := fun y => hide (welcomeBody_any n0 n1 n2 (by omega) (by omega) (by omega) y)
 rw [hwb] at hWB
 have HNN := hide (And.intro hn0 (And.intro hn1 (And.intro hn2 (And.intro hlg hepE))))
 obtain ⟨ep, hep⟩ : ∃ ep, ep = a.epoch := ⟨_, rfl⟩
 rw [← hep] at c1 he
 have hltI : ¬ (e : Int) < (ep : Int) := by omega
 have hUl := hide H.lt
 have DD := hide (rsAt_new w #[.int .i64 1, .int .i64 e, .int .i64 s, .int .i64 q, .string b] zFr)
 clear H hep ha2 hlg hepE hn0 hn1 hn2 hwel hwv hwb
 unfold ptrTo at *
 go_enter Tryz.func109, Tryz.ntmps109
 go_upto_region 1 with fail
 refine wp_world (RsAt w #[.int .i64 1, .int .i64 e, .int .i64 s, .int .i64 q, .string b] zFr) (unhide DD) ?_
 clear DD
 intro x X
 have y1 := blk_cell (i := 1) X.box
 simp at y1
 have z1 := (X.bel.cell (p := ⟨p, 1, none⟩) hpl).trans c1
 have HX := hide X
 clear X
 go_quiet (fail)
 go_upto_region 3 with fail
 refine wp_world (RsAt w #[.int .i64 1, .int .i64 e, .int .i64 s, .int .i64 q, .string b] zFr) ((unhide HX).drewN _) ?_
 clear HX y1 z1
 intro x2 X
 have y1 := blk_cell (i := 1) X.box
 simp at y1
 have hT := hide (unhide (hBG x2 X.bel))
 have HX := hide X
 clear X hBG
 go_upto_region 6 with (go_at_call 160; refine (unhide hT).mono ?_; rintro r y ⟨rfl, hk⟩)
 obtain ⟨sh2, st2, ⟨c2, K2, F2, N2, t1, t2⟩, hs2, O2⟩ := hk
 have hnE : ∀ k, w.heap.size ≤ k → ¬ PkU p c k := fun k hk h => by have := (unhide hUl) k h; omega
 have hgx := (unhide HX).lt
 have hys := F2.size
 obtain ⟨g7, hg7⟩ : ∃ g7, g7 = y.heap.size := ⟨_, rfl⟩
 have HR2 := hide (F2.blk (unhide HX).res (hnE _ (by omega)))
 have HK2 := hide K2
 have HF2 := hide F2
 have HN2 := hide (And.intro N2 (And.intro t1 (And.intro t2 (And.intro hs2 O2))))
 clear hT K2 F2 N2 t1 t2 hs2 O2 y1
 go_upto_region 7 with fail
 rw [← hg7]
 refine wp_world (fun z => PkAt z p a2.epoch a2.logs sh2 st2 c2 ∧ Far (PkU p c) x2 z ∧ z.heap[w.heap.size + 1]? = some (.cells zFr 41 (0, 0)) ∧ z.heap[g7]? = some (.cells #[.int .i64 0, .int .i64 0, .int .i64 0] 98 (0, 0))) ?_ ?_
 ·have hb : ∀ o, Below y.heap.size y (y.alloc o) := fun o => (Below.refl _ _).alloc (Nat.le_refl _) o
  refine ⟨(unhide HK2).far (far_below (E := fun _ => False) (hb _)) (fun _ _ h => h), (unhide HF2).trans (far_below (E := fun _ => False) (hb _)) (fun _ _ h => h.elim), ((hb _).block _ (by omega)).trans (unhide HR2), by rw [hg7]; exact heap_alloc_new _ _⟩
 have hg7w : w.heap.size + 1 < g7 := by omega
 have hx2g : x2.heap.size ≤ g7 := by omega
 clear HR2 HK2 HF2 hg7 hys
 rintro x3 ⟨K3, F3, hrx, hgx3⟩
 have HQ := hide (And.intro K3 (And.intro F3 (And.intro hrx hgx3)))
 clear K3 F3 hrx hgx3
 go_wp2
 go_loopw [8, 29] (fun _ i wr => ∃ j : Nat, j ≤ 3 ∧ i = .int .i64 j ∧ PkAt wr p a2.epoch a2.logs sh2 st2 c2 ∧ Far (PkU p c) x2 wr ∧ wr.heap[w.heap.size + 1]? = some (.cells zFr 41 (0, 0)) ∧ wr.heap[g7]? = some (.cells #[.int .i64 (if 0 < j then n0 else 0 : Nat), .int .i64 (if 1 < j then n1 else 0 : Nat), .int .i64 (if 2 < j then n2 else 0 : Nat)] 98 (0, 0))) (fun _ i _ => 3 - (intOf i).toNat)
 case atStart =>
  obtain ⟨K3, F3, hrx, hgx3⟩ := unhide HQ
  exact ⟨0, by omega, rfl, K3, F3, hrx, by simpa using hgx3⟩
 case round =>
  obtain ⟨j, hj, rfl, K, F, hr, hg⟩ := hrel
  clear HQ
  have hngp : ¬ PkU p c2 g7 := pk_not_cells K hg (by decide) (by decide) (by decide) (by decide) (by decide) (by decide) (by decide) (by decide)
  obtain ⟨ea, eb, ec, ed, ee⟩ := unhide HNN
  obtain ⟨ad0, cap0, _, c0⟩ := K.ks.logc (i := 0) (by omega)
  obtain ⟨ad1, cap1, _, c1'⟩ := K.ks.logc (i := 1) (by omega)
  obtain ⟨ad2, cap2, _, c2'⟩ := K.ks.logc (i := 2) (by omega)
  rw [ed, ← ea] at c0
  rw [ed, ← eb] at c1'
  rw [ed, ← ec] at c2'
  have hL0 := hide (sinkLast_any wr p 2 n0 cap0 ad0 c0)
  have hL1 := hide (sinkLast_any wr p 5 n1 cap1 ad1 c1')
  have hL2 := hide (sinkLast_any wr p 8 n2 cap2 ad2 c2')
  have hnext : ∀ (k : Nat) (v : Value), PkAt (wr.setCell ⟨g7, k, none⟩ v) p a2.epoch a2.logs sh2 st2 c2 ∧ Far (PkU p c) x2 (wr.setCell ⟨g7, k, none⟩ v) ∧ (wr.setCell ⟨g7, k, none⟩ v).heap[w.heap.size + 1]? = some (.cells zFr 41 (0, 0)) := fun k v => by
   have hf := far_set wr g7 k v
   exact ⟨K.far hf (fun k hk e => hngp (by rw [← e]; exact hk)), F.trans hf (fun k hk e => by omega), hf.blk hr (by omega)⟩
  have HNX := hide hnext
  have hset := fun k v => blk_set (j := k) (v := v) hg
  have g0 := blk_cell (i := 0) hg
  have g1 := blk_cell (i := 1) hg
  have g2 := blk_cell (i := 2) hg
  have f0 := blk_free (i := 0) hg
  have f1 := blk_free (i := 1) hg
  have f2 := blk_free (i := 2) hg
  have HST := hide hset
  have HKK := hide K
  have HFF := hide F
  have HRR := hide hr
  have HGG := hide hg
  rcases (show j = 0 ∨ j = 1 ∨ j = 2 ∨ j = 3 by omega) with rfl | rfl | rfl | rfl
  ·simp at g0
   clear K F hr hg hnext hset c0 c1' c2' ea eb ec ed ee g1 g2
   go_wp2_with (go_at_call 161; refine (unhide hL0).mono ?_; rintro r y ⟨rfl, rfl⟩)
   refine ⟨⟨1, by omega, by go_num, ?_⟩, by simp [intOf]⟩
   obtain ⟨h1, h2, h3⟩ := (unhide HNX) 0 (.int .i64 n0)
   exact ⟨h1, h2, h3, by simpa using (unhide HST) 0 (.int .i64 n0)⟩
  ·simp at g1
   clear K F hr hg hnext hset c0 c1' c2' ea eb ec ed ee g0 g2
   go_wp2_with (go_at_call 161; refine (unhide hL1).mono ?_; rintro r y ⟨rfl, rfl⟩)
   refine ⟨⟨2, by omega, by go_num, ?_⟩, by simp [intOf]⟩
   obtain ⟨h1, h2, h3⟩ := (unhide HNX) 1 (.int .i64 n1)
   exact ⟨h1, h2, h3, by simpa using (unhide HST) 1 (.int .i64 n1)⟩
  ·simp at g2
   clear K F hr hg hnext hset c0 c1' c2' ea eb ec ed ee g0 g1
   go_wp2_with (go_at_call 161; refine (unhide hL2).mono ?_; rintro r y ⟨rfl, rfl⟩)
   refine ⟨⟨3, by omega, by go_num, ?_⟩, by simp [intOf]⟩
   obtain ⟨h1, h2, h3⟩ := (unhide HNX) 2 (.int .i64 n2)
   exact ⟨h1, h2, h3, by simpa using (unhide HST) 2 (.int .i64 n2)⟩
  ·simp at g0 g1 g2
   have c14 : wr.cell? ⟨p, 1, none⟩ = some (.int .i64 e) := by rw [blk_cell K.ks.blk, K.ks.a1, ee]
   have hpx := lt_of_block K.ks.blk
   have hgl := lt_of_block hg
   clear K F hr hg hnext hset c0 c1' c2' ea eb ec ed ee hL0 hL1 hL2
   go_upto_region 12 with fail
   refine wp_region_foot (by kernel_rfl)
    [fun v _ => v = .pointer (some ⟨p, 0, none⟩), fun v _ => v = .pointer (some ⟨p, 0, none⟩), fun v _ => v = .pointer (some ⟨p, 1, none⟩), fun v _ => v = .int .i64 e, fun v _ => v = .agg #[.int .i64 n0, .int .i64 n1, .int .i64 n2], fun v _ => v = .string wel, fun v _ => v = .agg #[.int .i64 2, .int .i64 e, .int .i64 0, .int .i64 0, .string wel],
     fun _ z => z.heap[w.heap.size + 1]? = some (.cells #[.int .i64 2, .int .i64 e, .int .i64 0, .int .i64 0, .string wel] 41 (0, 0)), fun v _ => v = .int .i64 0]
    [[(0, none)], [(41, some 0)], [(42, some 1)], [(43, some 2)], [(7, none)], [(45, some 4)], [(44, some 3), (46, some 5)], [(4, none), (47, some 6)], []] [some 41, some 42, some 43, some 44, some 45, some 46, some 47, none, some 5] [false, false, false, false, false, true, false, false, false, false, false, false, false, false, false, false, false, false, false, false, false, false, false, false, false, false, false, false, false, false, false, false, false, false, false, false, false, false, false, false, false, true, true, true, true, true, true, true]
    [(7, fun k => k = w.heap.size + 1)]
    (by kernel_rfl) (by kernel_rfl) (by kernel_rfl) (by kernel_rfl) (by kernel_rfl) ?_ ?_ ?_ ?_
   ·repeat' (first | exact stable_eq _ | exact stable_blk _ _ | exact trivial | apply And.intro)
   ·repeat' (first | exact trivial | exact .inl rfl | exact .inr (.inr (stableF_eq _ _)) | apply And.intro)
   ·refine ⟨?_, ?_, ?_, ?_, ?_, ?_, ?_, ?_, ?_, trivial⟩
    case refine_8 =>
     intro a' z hb hf
     simp only [PlanFacts, List.getD_cons_zero, List.getD_cons_succ, Array.getD_eq_getD_getElem?] at hf
     try simp at hf
     have q0 := hb.blk (unhide HRR) (by
      rintro ⟨q, hq, g1, g2, g3⟩
      simp at hq
      subst hq
      exact g1 rfl)
     clear hb
     rw [if_pos (by rfl)]
     refine wp_store_row 41 (.tmp 4) (.tmp 47) rfl (w.heap.size + 1) #[.int .i64 2, .int .i64 e, .int .i64 0, .int .i64 0, .string wel] (by simp [Act.eval, hf]) (by simp [Act.eval, hf]) 41 _ q0 (by rw [size_frame]; rfl) rfl (by rw [Array.all_eq_true_iff_forall_mem]; intro u hu; simp at hu; rcases hu with rfl | rfl | rfl | rfl | rfl <;> rfl) ?_
     exact ⟨_, rfl, footOf_of (.head _) (far_setRow _ _ _), setRow_heap _ _ _ _ _ _ q0⟩
    case refine_9 =>
     intro a' z hb hf
     clear hb
     go_simp
     exact ⟨_, rfl, Far.refl _ _, rfl⟩
    all_goals
     intro a' z hb hf
     have hbz : Below wr.heap.size wr z := foot_below hb (by intro q hq; simp at hq; subst hq; show depB _ 7 _ = true; decide +kernel)
     have z1 := (hbz.cell (p := ⟨p, 1, none⟩) hpx).trans c14
     have e0 := (hbz.cell (p := ⟨g7, 0, none⟩) hgl).trans g0
     have e1 := (hbz.cell (p := ⟨g7, 1, none⟩) hgl).trans g1
     have e2 := (hbz.cell (p := ⟨g7, 2, none⟩) hgl).trans g2
     clear hb hbz
     simp only [PlanFacts, List.getD_cons_zero, List.getD_cons_succ, Array.getD_eq_getD_getElem?] at hf
     try simp at hf
     go_simp
     first
      | exact ⟨_, rfl, Far.refl _ _, rfl⟩
      | (refine (unhide (hWB z)).mono ?_; rintro r z2 ⟨rfl, hb2⟩; exact ⟨_, rfl, far_below hb2, rfl⟩)
      | skip
   ·intro f z hF hwd
    have h8 := hwd.2.2.2.2.2.2.2.1
    have h9 := hwd.2.2.2.2.2.2.2.2.1
    have q0 : z.cell? ⟨w.heap.size + 1, 0, none⟩ = some (.int .i64 2) := blk_cell (i := 0) h8
    have q1 : z.cell? ⟨w.heap.size + 1, 1, none⟩ = some (.int .i64 e) := blk_cell (i := 1) h8
    have q2 : z.cell? ⟨w.heap.size + 1, 2, none⟩ = some (.int .i64 0) := blk_cell (i := 2) h8
    have q3 : z.cell? ⟨w.heap.size + 1, 3, none⟩ = some (.int .i64 0) := blk_cell (i := 3) h8
    have q4 : z.cell? ⟨w.heap.size + 1, 4, none⟩ = some (.string wel) := blk_cell (i := 4) h8
    have hF : Far (fun k => k = w.heap.size + 1) wr z := hF.mono (fun k _ h => by
     obtain ⟨q, hq, h⟩ := h
     simp at hq
     subst hq
     exact h)
    have HFZ := hide hF
    clear hwd hF h8
    simp only [mergeT, h9]
    generalize f 41 = x41
    generalize f 42 = x42
    generalize f 43 = x43
    generalize f 44 = x44
    generalize f 45 = x45
    generalize f 46 = x46
    generalize f 47 = x47
    go_simp
    go_wp2
    refine bodyPost_ret (v := .tuple #[.agg #[.int .i64 2, .int .i64 e, .int .i64 0, .int .i64 0, .string wel], .int .i64 0]) (by simp [results, Tryz.results109, go_sem, q0, q1, q2, q3, q4]) rfl ⟨rfl, ?_⟩
    obtain ⟨N2, t1, t2, hs2, O2⟩ := unhide HN2
    have hxb := (unhide HX).bel
    have hFz := unhide HFZ
    have hres : ¬ PkU p c2 (w.heap.size + 1) := pk_not_cells (unhide HKK) (unhide HRR) (by decide) (by decide) (by decide) (by decide) (by decide) (by decide) (by decide) (by decide)
    refine ⟨sh2, st2, ⟨c2, (unhide HKK).far hFz (fun k hk e => hres (by rw [← e]; exact hk)), ?_, fun k hk => (N2 k hk).imp id (fun h => Nat.le_trans hxb.size h), t1, t2⟩, hs2, O2⟩
    exact ((far_below (E := PkU p c) hxb).trans (unhide HFF) (fun _ _ h => h)).trans hFz (fun k hk e => by omega)
end Go.Proofs.YtamafdcnbcoegaaGreat
namespace Go.Proofs.YtamafdcnbcoegaaGreat
open Go.RowKit
set_option maxRecDepth 100000 in
set_option maxHeartbeats 4000000 in
theorem answerData_bad {op ct n : Nat} {w : World} {p : Nat} {a : Mod.Sk} {sh : Nat → List (Nat × Value)} {st : Mod.Stv} {c : Sv} (H : PkAt w p a.epoch a.logs sh st c) (hs : Alv op ct n st a.epoch a.logs) (hct : ct + 1000 < 18446744073709551616) (G : SkGood a) (M : SkMore a) (O : OnSh a.held sh) (i q : Nat) (hi : i < 3) (hq : q ≤ 2147483647) (b : ByteArray) (hb : b.size ≤ 20) (hnw : 1 ≤ n ∧ n ≤ (a.commits 3 a.epoch i q b).length) :
  Calls Tryz.prog 110 #[ptrTo p, .agg #[.int .i64 3, .int .i64 a.epoch, .int .i64 i, .int .i64 q, .string b]] w fun r z =>
   r = .returned (.tuple #[.agg zFr, .int .i64 4]) ∧ DeadAt op w z p a.epoch (grown a i ((a.commits 3 a.epoch i q b).take (n - 1))).logs c := by
 have c1 : w.cell? ⟨p, 1, none⟩ = some (.int .i64 a.epoch) := by rw [blk_cell H.ks.blk, H.ks.a1]
 have hpl := lt_of_block H.ks.blk
 have hTK := fun y (hy : Below w.heap.size w y) => hide (take_bad (H.far (far_below (E := fun _ => False) hy) (fun _ _ h => h)) hs hct G M O a.epoch i q hi hq b hb hnw)
 clear hnw
 obtain ⟨lg, hlg⟩ : ∃ lg, lg = (grown a i ((a.commits 3 a.epoch i q b).take (n - 1))).logs := ⟨_, rfl⟩
 rw [← hlg] at hTK ⊢
 obtain ⟨ep, hep⟩ : ∃ ep, ep = a.epoch := ⟨_, rfl⟩
 rw [← hep] at c1 hTK ⊢
 have hneb : ((ep : Int) != (ep : Int)) = false := by simp
 have hUl := hide H.lt
 have DD := hide (rsAt_new w #[.int .i64 3, .int .i64 ep, .int .i64 i, .int .i64 q, .string b] zFr)
 have hi0 : (0 : Int) ≤ (i : Int) := by omega
 have hi3 : (i : Int) < 3 := by omega
 clear hs hct hlg
 clear n
 clear H hep
 unfold ptrTo at *
 go_enter Tryz.func110, Tryz.ntmps110
 go_upto_region 1 with fail
 refine wp_world (RsAt w #[.int .i64 3, .int .i64 ep, .int .i64 i, .int .i64 q, .string b] zFr) (unhide DD) ?_
 clear DD
 intro x X
 have y1 := blk_cell (i := 1) X.box
 simp at y1
 have z1 := (X.bel.cell (p := ⟨p, 1, none⟩) hpl).trans c1
 have HX := hide X
 clear X
 go_quiet (fail)
 go_upto_region 3 with fail
 refine wp_world (RsAt w #[.int .i64 3, .int .i64 ep, .int .i64 i, .int .i64 q, .string b] zFr) ((unhide HX).drewN _) ?_
 clear HX y1 z1
 intro x2 X
 have y0 := blk_cell (i := 0) X.box
 have y1 := blk_cell (i := 1) X.box
 have y2 := blk_cell (i := 2) X.box
 have y3 := blk_cell (i := 3) X.box
 have y4 := blk_cell (i := 4) X.box
 simp at y0 y1 y2 y3 y4
 have hT := hide (unhide (hTK x2 X.bel))
 have HX := hide X
 clear X hTK
 go_wp2_with (go_at_call 163; refine (unhide hT).mono ?_; rintro r y ⟨rfl, hk⟩; obtain ⟨sh2, st2, ⟨c2, K2, F2, N2, t1, t2⟩, hd2⟩ := hk; have hnE : ∀ k, w.heap.size ≤ k → ¬ PkU p c k := fun k hk h => (by have := (unhide hUl) k h; omega); have hgx := (unhide HX).lt; have hres := F2.blk (unhide HX).res (hnE _ (by omega)); have hnp : ¬ PkU p c2 (w.heap.size + 1) := pk_not_cells K2 hres (by decide) (by decide) (by decide) (by decide) (by decide) (by decide) (by decide) (by decide); have hxb := (unhide HX).bel; have HD := fun z (hz : Far (fun k => k = w.heap.size + 1) y z) => hide (show DeadAt op w z p ep lg c from ⟨sh2, st2, ⟨c2, K2.far hz (fun k hk e => hnp (by rw [← e]; exact hk)), ((far_below (E := PkU p c) hxb).trans F2 (fun _ _ h => h)).trans hz (fun k hk e => by omega), fun k hk => (N2 k hk).imp id (fun h => Nat.le_trans hxb.size h), t1, t2⟩, hd2⟩); have q0 : y.cell? ⟨w.heap.size + 1, 0, none⟩ = some (.int .i64 0) := blk_cell (i := 0) hres; have q1 : y.cell? ⟨w.heap.size + 1, 1, none⟩ = some (.int .i64 0) := blk_cell (i := 1) hres; have q2 : y.cell? ⟨w.heap.size + 1, 2, none⟩ = some (.int .i64 0) := blk_cell (i := 2) hres; have q3 : y.cell? ⟨w.heap.size + 1, 3, none⟩ = some (.int .i64 0) := blk_cell (i := 3) hres; have q4 : y.cell? ⟨w.heap.size + 1, 4, none⟩ = some (.string ⟨#[]⟩) := blk_cell (i := 4) hres; have fr0 := blk_free (i := 0) hres; have fr1 := blk_free (i := 1) hres; have fr2 := blk_free (i := 2) hres; have fr3 := blk_free (i := 3) hres; have fr4 := blk_free (i := 4) hres; have HRES := hide hres; clear hres hnp; clear K2 F2 N2 t1 t2 hd2 hT HX hnE y0 y1 y2 y3 y4)
 refine bodyPost_ret (v := .tuple #[.agg zFr, .int .i64 4]) (by simp [results, Tryz.results110, go_sem, zFr, q0, q1, q2, q3, q4]) rfl ⟨rfl, ?_⟩
 have fs := fun x i v => far_set x (w.heap.size + 1) i v
 exact unhide (HD _ (((((fs _ _ _).trans (fs _ _ _) (fun _ _ h => h)).trans (fs _ _ _) (fun _ _ h => h)).trans (fs _ _ _) (fun _ _ h => h)).trans (fs _ _ _) (fun _ _ h => h)))
set_option maxRecDepth 100000 in
set_option maxHeartbeats 4000000 in
theorem answerHello_bad {op ct n : Nat} {w : World} {p : Nat} {a : Mod.Sk} {sh : Nat → List (Nat × Value)} {st : Mod.Stv} {c : Sv} (H : PkAt w p a.epoch a.logs sh st c) (hs : Alv op ct n st a.epoch a.logs) (hct : ct + 1000 < 18446744073709551616) (O : OnSh a.held sh) (e : Nat) (s q : Int) (b : ByteArray) (he : a.epoch ≤ e) (hem : e ≤ 2147483647) (hnw : 1 ≤ n ∧ n ≤ hiW a e) :
  Calls Tryz.prog 109 #[ptrTo p, .agg #[.int .i64 1, .int .i64 e, .int .i64 s, .int .i64 q, .string b]] w fun r z =>
   r = .returned (.tuple #[.agg zFr, .int .i64 4]) ∧ DeadAt op w z p a.epoch a.logs c := by
 have c1 : w.cell? ⟨p, 1, none⟩ = some (.int .i64 a.epoch) := by rw [blk_cell H.ks.blk, H.ks.a1]
 have hpl := lt_of_block H.ks.blk
 have hBG := fun y (hy : Below w.heap.size w y) => hide (begin_bad (H.far (far_below (E := fun _ => False) hy) (fun _ _ h => h)) hs hct O e he hem hnw)
 clear hnw hs hct
 clear n
 obtain ⟨lg, hlg⟩ : ∃ lg, lg = a.logs := ⟨_, rfl⟩
 rw [← hlg] at hBG ⊢
 obtain ⟨ep, hep⟩ : ∃ ep, ep = a.epoch := ⟨_, rfl⟩
 rw [← hep] at c1 he hBG ⊢
 have hltI : ¬ (e : Int) < (ep : Int) := by omega
 have hUl := hide H.lt
 have DD := hide (rsAt_new w #[.int .i64 1, .int .i64 e, .int .i64 s, .int .i64 q, .string b] zFr)
 clear H hep hlg
 unfold ptrTo at *
 go_enter Tryz.func109, Tryz.ntmps109
 go_upto_region 1 with fail
 refine wp_world (RsAt w #[.int .i64 1, .int .i64 e, .int .i64 s, .int .i64 q, .string b] zFr) (unhide DD) ?_
 clear DD
 intro x X
 have y1 := blk_cell (i := 1) X.box
 simp at y1
 have z1 := (X.bel.cell (p := ⟨p, 1, none⟩) hpl).trans c1
 have HX := hide X
 clear X
 go_quiet (fail)
 go_upto_region 3 with fail
 refine wp_world (RsAt w #[.int .i64 1, .int .i64 e, .int .i64 s, .int .i64 q, .string b] zFr) ((unhide HX).drewN _) ?_
 clear HX y1 z1
 intro x2 X
 have y1 := blk_cell (i := 1) X.box
 simp at y1
 have hT := hide (unhide (hBG x2 X.bel))
 have HX := hide X
 clear X hBG
 go_wp2_with (go_at_call 160; refine (unhide hT).mono ?_; rintro r y ⟨rfl, hk⟩; obtain ⟨sh2, st2, ⟨c2, K2, F2, N2, t1, t2⟩, hd2⟩ := hk; have hnE : ∀ k, w.heap.size ≤ k → ¬ PkU p c k := fun k hk h => (by have := (unhide hUl) k h; omega); have hgx := (unhide HX).lt; have hres := F2.blk (unhide HX).res (hnE _ (by omega)); have hnp : ¬ PkU p c2 (w.heap.size + 1) := pk_not_cells K2 hres (by decide) (by decide) (by decide) (by decide) (by decide) (by decide) (by decide) (by decide); have hxb := (unhide HX).bel; have HD := fun z (hz : Far (fun k => k = w.heap.size + 1) y z) => hide (show DeadAt op w z p ep lg c from ⟨sh2, st2, ⟨c2, K2.far hz (fun k hk e => hnp (by rw [← e]; exact hk)), ((far_below (E := PkU p c) hxb).trans F2 (fun _ _ h => h)).trans hz (fun k hk e => by omega), fun k hk => (N2 k hk).imp id (fun h => Nat.le_trans hxb.size h), t1, t2⟩, hd2⟩); have q0 : y.cell? ⟨w.heap.size + 1, 0, none⟩ = some (.int .i64 0) := blk_cell (i := 0) hres; have q1 : y.cell? ⟨w.heap.size + 1, 1, none⟩ = some (.int .i64 0) := blk_cell (i := 1) hres; have q2 : y.cell? ⟨w.heap.size + 1, 2, none⟩ = some (.int .i64 0) := blk_cell (i := 2) hres; have q3 : y.cell? ⟨w.heap.size + 1, 3, none⟩ = some (.int .i64 0) := blk_cell (i := 3) hres; have q4 : y.cell? ⟨w.heap.size + 1, 4, none⟩ = some (.string ⟨#[]⟩) := blk_cell (i := 4) hres; have fr0 := blk_free (i := 0) hres; have fr1 := blk_free (i := 1) hres; have fr2 := blk_free (i := 2) hres; have fr3 := blk_free (i := 3) hres; have fr4 := blk_free (i := 4) hres; have HRES := hide hres; clear hres hnp; clear K2 F2 N2 t1 t2 hd2 hT HX hnE y1)
 refine bodyPost_ret (v := .tuple #[.agg zFr, .int .i64 4]) (by simp [results, Tryz.results109, go_sem, zFr, q0, q1, q2, q3, q4]) rfl ⟨rfl, ?_⟩
 have fs := fun x i v => far_set x (w.heap.size + 1) i v
 exact unhide (HD _ (((((fs _ _ _).trans (fs _ _ _) (fun _ _ h => h)).trans (fs _ _ _) (fun _ _ h => h)).trans (fs _ _ _) (fun _ _ h => h)).trans (fs _ _ _) (fun _ _ h => h)))
end Go.Proofs.YtamafdcnbcoegaaGreat
namespace Go.Proofs.YtamafdcnbcoegaaGreat
open Go.RowKit
set_option maxRecDepth 100000 in
set_option maxHeartbeats 4000000 in
theorem answerByH_okR {w : World} {p : Nat} {R : World → World → Prop} (hbeh : ∀ {u v z : World}, R v z → Below u.heap.size u v → R u z) (kd k e s q : Int) (b : ByteArray) (k' e' s' q' : Int) (b' : ByteArray) (hp : Wire.proper k' e' s' q' b' = true)
  (hC : ∀ y, Below w.heap.size w y → Calls Tryz.prog 109 #[ptrTo p, .agg #[.int .i64 k, .int .i64 e, .int .i64 s, .int .i64 q, .string b]] y fun r z => r = .returned (.tuple #[.agg #[.int .i64 k', .int .i64 e', .int .i64 s', .int .i64 q', .string b'], .int .i64 0]) ∧ R y z) :
  Calls Tryz.prog 98 #[.agg #[.int .i64 kd, .func (.func 109) #[ptrTo p] #[]], .agg #[.int .i64 k, .int .i64 e, .int .i64 s, .int .i64 q, .string b]] w fun r z =>
   ∃ lv fs x, r = .returned (.tuple #[lv, .int .i64 0]) ∧ R w x ∧ Below x.heap.size x z ∧ FramesOut x.heap.size z lv fs [⟨(Wire.bytes k' e' s' q' b'.data.toList).toArray⟩] (fun _ => False) := by
 have hFB := fun y => hide (frameBytes_any k' e' s' q' b' y hp)
 have hCC := fun y hy => hide (hC y hy)
 have HB0 := hide (alloc2 w (.cells #[.int .i64 kd, .func (.func 109) #[ptrTo p] #[]] 179) (.cells #[.int .i64 k, .int .i64 e, .int .i64 s, .int .i64 q, .string b] 41))
 clear hC hp
 unfold ptrTo at *
 go_enter Tryz.func98, Tryz.ntmps98
 go_upto_region 1 with fail
 refine wp_world (fun x => x.heap[w.heap.size]? = some (.cells #[.int .i64 kd, .func (.func 109) #[.pointer (some ⟨p, 0, none⟩)] #[]] 179 (0, 0)) ∧ x.heap[w.heap.size + 1]? = some (.cells #[.int .i64 k, .int .i64 e, .int .i64 s, .int .i64 q, .string b] 41 (0, 0)) ∧ Below w.heap.size w x) (unhide HB0) ?_
 clear HB0
 rintro x ⟨h0, h1, hb⟩
 have y1 := blk_cell (i := 1) h0
 have z0 := blk_cell (i := 0) h1
 have z1 := blk_cell (i := 1) h1
 have z2 := blk_cell (i := 2) h1
 have z3 := blk_cell (i := 3) h1
 have z4 := blk_cell (i := 4) h1
 simp at y1 z0 z1 z2 z3 z4
 have hCX := hide (unhide (hCC x hb))
 have HB := hide hb
 clear h0 h1 hb hCC
 go_upto_region 2 with (go_at_call 109; refine (unhide hCX).mono ?_; rintro r y ⟨rfl, hk⟩)
 obtain ⟨g6, hg6⟩ : ∃ g6, g6 = y.heap.size := ⟨_, rfl⟩
 have HG6 := hide hg6
 rw [← hg6]
 have HK := hide (hbeh hk (unhide HB))
 clear hk hg6
 refine wp_world (fun u => u.heap[g6]? = some (.cells #[.int .i64 k', .int .i64 e', .int .i64 s', .int .i64 q', .string b'] 41 (0, 0)) ∧ Below y.heap.size y u) ?_ ?_
 ·rw [unhide HG6]
  exact ⟨heap_alloc_new _ _, (Below.refl _ _).alloc (Nat.le_refl _) _⟩
 clear y1 z0 z1 z2 z3 z4 hCX
 rintro u ⟨h6, hbu⟩
 have z0 := blk_cell (i := 0) h6
 have z1 := blk_cell (i := 1) h6
 have z2 := blk_cell (i := 2) h6
 have z3 := blk_cell (i := 3) h6
 have z4 := blk_cell (i := 4) h6
 simp at z0 z1 z2 z3 z4
 have HU := hide hbu
 clear h6 hbu
 go_wp2_with (go_at_call 92; refine (unhide (hFB _)).mono ?_; rintro r v ⟨bv', rfl, hown, hb2⟩; obtain ⟨ad, cap, rfl, _⟩ := hown.shape; replace hown := hide hown; replace hb2 := hide hb2)
 go_ret2
 have hbv := (unhide hb2)
 have ho := unhide hown
 have hsz := (unhide HU).size
 have hb3 : Below y.heap.size y v := (unhide HU).trans (hbv.mono hsz)
 refine ⟨_, _, y, rfl, unhide HK, hb3.alloc hb3.size _, framesOut_one (World.ownsRow.alloc (ho.mono (by omega)) _) hb3.size (heap_alloc_new _ _)⟩
set_option maxRecDepth 100000 in
set_option maxHeartbeats 4000000 in
theorem answerByD_okR {w : World} {p : Nat} {R : World → World → Prop} (hbeh : ∀ {u v z : World}, R v z → Below u.heap.size u v → R u z) (kd k e s q : Int) (b : ByteArray) (k' e' s' q' : Int) (b' : ByteArray) (hp : Wire.proper k' e' s' q' b' = true)
  (hC : ∀ y, Below w.heap.size w y → Calls Tryz.prog 110 #[ptrTo p, .agg #[.int .i64 k, .int .i64 e, .int .i64 s, .int .i64 q, .string b]] y fun r z => r = .returned (.tuple #[.agg #[.int .i64 k', .int .i64 e', .int .i64 s', .int .i64 q', .string b'], .int .i64 0]) ∧ R y z) :
  Calls Tryz.prog 98 #[.agg #[.int .i64 kd, .func (.func 110) #[ptrTo p] #[]], .agg #[.int .i64 k, .int .i64 e, .int .i64 s, .int .i64 q, .string b]] w fun r z =>
   ∃ lv fs x, r = .returned (.tuple #[lv, .int .i64 0]) ∧ R w x ∧ Below x.heap.size x z ∧ FramesOut x.heap.size z lv fs [⟨(Wire.bytes k' e' s' q' b'.data.toList).toArray⟩] (fun _ => False) := by
 have hFB := fun y => hide (frameBytes_any k' e' s' q' b' y hp)
 have hCC := fun y hy => hide (hC y hy)
 have HB0 := hide (alloc2 w (.cells #[.int .i64 kd, .func (.func 110) #[ptrTo p] #[]] 179) (.cells #[.int .i64 k, .int .i64 e, .int .i64 s, .int .i64 q, .string b] 41))
 clear hC hp
 unfold ptrTo at *
 go_enter Tryz.func98, Tryz.ntmps98
 go_upto_region 1 with fail
 refine wp_world (fun x => x.heap[w.heap.size]? = some (.cells #[.int .i64 kd, .func (.func 110) #[.pointer (some ⟨p, 0, none⟩)] #[]] 179 (0, 0)) ∧ x.heap[w.heap.size + 1]? = some (.cells #[.int .i64 k, .int .i64 e, .int .i64 s, .int .i64 q, .string b] 41 (0, 0)) ∧ Below w.heap.size w x) (unhide HB0) ?_
 clear HB0
 rintro x ⟨h0, h1, hb⟩
 have y1 := blk_cell (i := 1) h0
 have z0 := blk_cell (i := 0) h1
 have z1 := blk_cell (i := 1) h1
 have z2 := blk_cell (i := 2) h1
 have z3 := blk_cell (i := 3) h1
 have z4 := blk_cell (i := 4) h1
 simp at y1 z0 z1 z2 z3 z4
 have hCX := hide (unhide (hCC x hb))
 have HB := hide hb
 clear h0 h1 hb hCC
 go_upto_region 2 with (go_at_call 110; refine (unhide hCX).mono ?_; rintro r y ⟨rfl, hk⟩)
 obtain ⟨g6, hg6⟩ : ∃ g6, g6 = y.heap.size := ⟨_, rfl⟩
 have HG6 := hide hg6
 rw [← hg6]
 have HK := hide (hbeh hk (unhide HB))
 clear hk hg6
 refine wp_world (fun u => u.heap[g6]? = some (.cells #[.int .i64 k', .int .i64 e', .int .i64 s', .int .i64 q', .string b'] 41 (0, 0)) ∧ Below y.heap.size y u) ?_ ?_
 ·rw [unhide HG6]
  exact ⟨heap_alloc_new _ _, (Below.refl _ _).alloc (Nat.le_refl _) _⟩
 clear y1 z0 z1 z2 z3 z4 hCX
 rintro u ⟨h6, hbu⟩
 have z0 := blk_cell (i := 0) h6
 have z1 := blk_cell (i := 1) h6
 have z2 := blk_cell (i := 2) h6
 have z3 := blk_cell (i := 3) h6
 have z4 := blk_cell (i := 4) h6
 simp at z0 z1 z2 z3 z4
 have HU := hide hbu
 clear h6 hbu
 go_wp2_with (go_at_call 92; refine (unhide (hFB _)).mono ?_; rintro r v ⟨bv', rfl, hown, hb2⟩; obtain ⟨ad, cap, rfl, _⟩ := hown.shape; replace hown := hide hown; replace hb2 := hide hb2)
 go_ret2
 have hbv := (unhide hb2)
 have ho := unhide hown
 have hsz := (unhide HU).size
 have hb3 : Below y.heap.size y v := (unhide HU).trans (hbv.mono hsz)
 refine ⟨_, _, y, rfl, unhide HK, hb3.alloc hb3.size _, framesOut_one (World.ownsRow.alloc (ho.mono (by omega)) _) hb3.size (heap_alloc_new _ _)⟩
set_option maxRecDepth 100000 in
set_option maxHeartbeats 4000000 in
theorem answerByH_badR {w : World} {p : Nat} {R : World → World → Prop} (hbeh : ∀ {u v z : World}, R v z → Below u.heap.size u v → R u z) (kd k e s q : Int) (b : ByteArray)
  (hC : ∀ y, Below w.heap.size w y → Calls Tryz.prog 109 #[ptrTo p, .agg #[.int .i64 k, .int .i64 e, .int .i64 s, .int .i64 q, .string b]] y fun r z => r = .returned (.tuple #[.agg zFr, .int .i64 4]) ∧ R y z) :
  Calls Tryz.prog 98 #[.agg #[.int .i64 kd, .func (.func 109) #[ptrTo p] #[]], .agg #[.int .i64 k, .int .i64 e, .int .i64 s, .int .i64 q, .string b]] w fun r z =>
   ∃ lv fs x, r = .returned (.tuple #[lv, .int .i64 4]) ∧ R w x ∧ Below x.heap.size x z ∧ FramesOut x.heap.size z lv fs [] (fun _ => False) := by
 have hCC := fun y hy => hide (hC y hy)
 have HB0 := hide (alloc2 w (.cells #[.int .i64 kd, .func (.func 109) #[ptrTo p] #[]] 179) (.cells #[.int .i64 k, .int .i64 e, .int .i64 s, .int .i64 q, .string b] 41))
 clear hC
 unfold zFr at hCC
 unfold ptrTo at *
 go_enter Tryz.func98, Tryz.ntmps98
 go_upto_region 1 with fail
 refine wp_world (fun x => x.heap[w.heap.size]? = some (.cells #[.int .i64 kd, .func (.func 109) #[.pointer (some ⟨p, 0, none⟩)] #[]] 179 (0, 0)) ∧ x.heap[w.heap.size + 1]? = some (.cells #[.int .i64 k, .int .i64 e, .int .i64 s, .int .i64 q, .string b] 41 (0, 0)) ∧ Below w.heap.size w x) (unhide HB0) ?_
 clear HB0
 rintro x ⟨h0, h1, hb⟩
 have y1 := blk_cell (i := 1) h0
 have z0 := blk_cell (i := 0) h1
 have z1 := blk_cell (i := 1) h1
 have z2 := blk_cell (i := 2) h1
 have z3 := blk_cell (i := 3) h1
 have z4 := blk_cell (i := 4) h1
 simp at y1 z0 z1 z2 z3 z4
 have hCX := hide (unhide (hCC x hb))
 have HB := hide hb
 clear h0 h1 hb hCC
 go_wp2_with (go_at_call 109; refine (unhide hCX).mono ?_; rintro r y ⟨rfl, hk⟩; have HK := hide (hbeh hk (unhide HB)); clear hk)
 go_ret2
 exact ⟨_, _, y, rfl, unhide HK, (Below.refl _ _).alloc (Nat.le_refl _) _, framesOut_none _ _⟩
set_option maxRecDepth 100000 in
set_option maxHeartbeats 4000000 in
theorem answerByD_badR {w : World} {p : Nat} {R : World → World → Prop} (hbeh : ∀ {u v z : World}, R v z → Below u.heap.size u v → R u z) (kd k e s q : Int) (b : ByteArray)
  (hC : ∀ y, Below w.heap.size w y → Calls Tryz.prog 110 #[ptrTo p, .agg #[.int .i64 k, .int .i64 e, .int .i64 s, .int .i64 q, .string b]] y fun r z => r = .returned (.tuple #[.agg zFr, .int .i64 4]) ∧ R y z) :
  Calls Tryz.prog 98 #[.agg #[.int .i64 kd, .func (.func 110) #[ptrTo p] #[]], .agg #[.int .i64 k, .int .i64 e, .int .i64 s, .int .i64 q, .string b]] w fun r z =>
   ∃ lv fs x, r = .returned (.tuple #[lv, .int .i64 4]) ∧ R w x ∧ Below x.heap.size x z ∧ FramesOut x.heap.size z lv fs [] (fun _ => False) := by
 have hCC := fun y hy => hide (hC y hy)
 have HB0 := hide (alloc2 w (.cells #[.int .i64 kd, .func (.func 110) #[ptrTo p] #[]] 179) (.cells #[.int .i64 k, .int .i64 e, .int .i64 s, .int .i64 q, .string b] 41))
 clear hC
 unfold zFr at hCC
 unfold ptrTo at *
 go_enter Tryz.func98, Tryz.ntmps98
 go_upto_region 1 with fail
 refine wp_world (fun x => x.heap[w.heap.size]? = some (.cells #[.int .i64 kd, .func (.func 110) #[.pointer (some ⟨p, 0, none⟩)] #[]] 179 (0, 0)) ∧ x.heap[w.heap.size + 1]? = some (.cells #[.int .i64 k, .int .i64 e, .int .i64 s, .int .i64 q, .string b] 41 (0, 0)) ∧ Below w.heap.size w x) (unhide HB0) ?_
 clear HB0
 rintro x ⟨h0, h1, hb⟩
 have y1 := blk_cell (i := 1) h0
 have z0 := blk_cell (i := 0) h1
 have z1 := blk_cell (i := 1) h1
 have z2 := blk_cell (i := 2) h1
 have z3 := blk_cell (i := 3) h1
 have z4 := blk_cell (i := 4) h1
 simp at y1 z0 z1 z2 z3 z4
 have hCX := hide (unhide (hCC x hb))
 have HB := hide hb
 clear h0 h1 hb hCC
 go_wp2_with (go_at_call 110; refine (unhide hCX).mono ?_; rintro r y ⟨rfl, hk⟩; have HK := hide (hbeh hk (unhide HB)); clear hk)
 go_ret2
 exact ⟨_, _, y, rfl, unhide HK, (Below.refl _ _).alloc (Nat.le_refl _) _, framesOut_none _ _⟩
end Go.Proofs.YtamafdcnbcoegaaGreat
namespace Go.Proofs.YtamafdcnbcoegaaGreat
open Go.RowKit
def DlR (R : World → World → Prop) (w z : World) (er : Int) (r : Ending) (Fl : List ByteArray) : Prop :=
 ∃ lv fs x, r = .returned (.tuple #[lv, .int .i64 er]) ∧ R w x ∧ Below x.heap.size x z ∧ FramesOut x.heap.size z lv fs Fl (fun _ => False)
set_option maxRecDepth 100000 in
set_option maxHeartbeats 4000000 in
theorem sinkDeliverH_R {w : World} {p : Nat} {a : Mod.Sk} {R : World → World → Prop} {er : Int} {sh : Nat → List (Nat × Value)} {st : Mod.Stv} {c : Sv} (H : PkAt w p a.epoch a.logs sh st c) (hs : st.dk.dead = false) (bs : Value) (hbeh : ∀ {u v z : World}, R v z → Below u.heap.size u v → R u z) (k e s q : Int) (b : ByteArray) (hk : k = 1) {Fl : List ByteArray}
  (hDec : ∀ y, Below w.heap.size w y → Calls Tryz.prog 54 #[bs] y fun r z => r = .returned (.tuple #[.agg #[.int .i64 k, .int .i64 e, .int .i64 s, .int .i64 q, .string b], .int .i64 0]) ∧ Below y.heap.size y z)
  (hC : ∀ y, Below w.heap.size w y → Calls Tryz.prog 98 #[.agg #[.int .i64 1, .func (.func 109) #[ptrTo p] #[]], .agg #[.int .i64 k, .int .i64 e, .int .i64 s, .int .i64 q, .string b]] y fun r z =>
   ∃ lv fs x, r = .returned (.tuple #[lv, .int .i64 er]) ∧ R y x ∧ Below x.heap.size x z ∧ FramesOut x.heap.size z lv fs Fl (fun _ => False)) :
  Calls Tryz.prog 56 #[ptrTo p, bs] w fun r z => DlR R w z er r Fl := by
 have c0 : w.cell? ⟨p, 0, none⟩ = some (ptrTo c.s) := by rw [blk_cell H.ks.blk, H.ks.a0]
 have hID := storeIsDead_any H.stt
 rw [hs] at hID
 have HID := hide hID
 have HDC := hide (hDec w (Below.refl _ _))
 subst hk
 have hCC := fun y hy => hide (hC y hy)
 clear hC
 obtain ⟨ad, cap, hrv, hcap1, hcap2, hcells⟩ := H.rl.shape
 obtain ⟨g, o, rfl, hcl⟩ := hcells (by omega)
 have r0 : w.cell? ⟨g, o, none⟩ = some (.int .i64 1) := by have := hcl 0 (by omega); simpa [rulesOf] using this
 have r1 : w.cell? ⟨g, o + 1, none⟩ = some (.func (.func 109) #[ptrTo p] #[]) := by have := hcl 1 (by omega); simpa [rulesOf] using this
 have r2 : w.cell? ⟨g, o + 2, none⟩ = some (.int .i64 3) := by have := hcl 2 (by omega); simpa [rulesOf] using this
 have r3 : w.cell? ⟨g, o + 2 + 1, none⟩ = some (.func (.func 110) #[ptrTo p] #[]) := by have := hcl 3 (by omega); simpa [rulesOf] using this
 have c11 : w.cell? ⟨p, 11, none⟩ = some (.slice (some ⟨g, o, none⟩) 2 cap) := by rw [blk_cell H.ks.blk, H.ks.ar, hrv]
 have hgl : g < w.heap.size := World.block_lt_of_cell? _ _ r0
 have hpl := lt_of_block H.ks.blk
 clear H hID hDec hcl hcells hrv
 unfold ptrTo at *
 go_enter Tryz.func56, Tryz.ntmps56
 go_upto_region 4 with (first | (go_at_call 86; refine (unhide HID).mono ?_; rintro r y ⟨rfl, hyw⟩; obtain rfl : w = y := hyw.symm) | (go_at_call 54; refine (unhide HDC).mono ?_; rintro r y ⟨rfl, hb⟩))
 obtain ⟨g6, hg6⟩ : ∃ g6, g6 = y.heap.size := ⟨_, rfl⟩
 have hgw : w.heap.size ≤ g6 := by have := hb.size; omega
 have HG6 := hide hg6
 have HB := hide hb
 rw [← hg6]
 clear hg6 hb
 refine wp_world (fun u => u.heap[g6]? = some (.cells #[.int .i64 1, .int .i64 e, .int .i64 s, .int .i64 q, .string b] 41 (0, 0)) ∧ Below w.heap.size w u) ?_ ?_
 ·rw [unhide HG6]
  exact ⟨heap_alloc_new _ _, (unhide HB).alloc (unhide HB).size _⟩
 clear HG6 HB c0 HDC HID
 rintro u ⟨h6, hbu⟩
 have d11 := (hbu.cell (p := ⟨p, 11, none⟩) hpl).trans c11
 have H6 := hide h6
 have HU := hide hbu
 clear h6 hbu
 go_wp2
 go_loopw [9, 28] (fun _ i wr => ∃ j : Nat, j ≤ 0 ∧ i = .int .i64 j ∧ wr.heap[g6]? = some (.cells #[.int .i64 1, .int .i64 e, .int .i64 s, .int .i64 q, .string b] 41 (0, 0)) ∧ Below w.heap.size w wr) (fun _ i _ => 3 - (intOf i).toNat)
 case atStart => exact ⟨0, by omega, rfl, unhide H6, unhide HU⟩
 case round =>
  obtain ⟨j, hj, rfl, h6, hb⟩ := hrel
  clear H6 HU d11
  have s0 := (hb.cell (p := ⟨g, o, none⟩) hgl).trans r0
  have s1 := (hb.cell (p := ⟨g, o + 1, none⟩) hgl).trans r1
  have s2 := (hb.cell (p := ⟨g, o + 2, none⟩) hgl).trans r2
  have s3 := (hb.cell (p := ⟨g, o + 2 + 1, none⟩) hgl).trans r3
  have y0 := blk_cell (i := 0) h6
  have y1 := blk_cell (i := 1) h6
  have y2 := blk_cell (i := 2) h6
  have y3 := blk_cell (i := 3) h6
  have y4 := blk_cell (i := 4) h6
  simp at y0 y1 y2 y3 y4
  have h6l := lt_of_block h6
  have HH6 := hide h6
  have HBB := hide hb
  have hnext : ∀ ob, (wr.alloc ob).heap[g6]? = some (.cells #[.int .i64 1, .int .i64 e, .int .i64 s, .int .i64 q, .string b] 41 (0, 0)) ∧ Below w.heap.size w (wr.alloc ob) := fun ob => ⟨(hao _ _ h6l).trans h6, hb.alloc hb.size _⟩
  have HNX := hide hnext
  clear h6 hb hnext r0 r1 r2 r3
  have hsf1 : ∀ (ad : Addr) (m : Mode) (z : World), (store ad (.func (.func 109) #[.pointer (some ⟨p, 0, none⟩)] #[]) m).run Tryz.prog z = stored Tryz.prog z ad (.func (.func 109) #[.pointer (some ⟨p, 0, none⟩)] #[]) m := fun ad m z => run_store _ _ _ _ _ rfl
  have hsf2 : ∀ (ad : Addr) (m : Mode) (z : World), (store ad (.func (.func 110) #[.pointer (some ⟨p, 0, none⟩)] #[]) m).run Tryz.prog z = stored Tryz.prog z ad (.func (.func 110) #[.pointer (some ⟨p, 0, none⟩)] #[]) m := fun ad m z => run_store _ _ _ _ _ rfl
  obtain rfl : j = 0 := by omega
  focus
   go_wp2_with (go_at_call 98; refine (unhide (hCC _ (by first | exact ((unhide HNX) _).2 | exact (unhide HBB)))).mono ?_; rintro r z ⟨lv, fs, x, rfl, k1, k2, k3⟩; replace k1 := hide k1; replace k2 := hide k2; replace k3 := hide k3)
   go_ret2
   exact ⟨lv, fs, x, rfl, hbeh (unhide k1) (by first | exact ((unhide HNX) _).2 | exact (unhide HBB)), unhide k2, unhide k3⟩
set_option maxRecDepth 100000 in
set_option maxHeartbeats 4000000 in
theorem sinkDeliverD_R {w : World} {p : Nat} {a : Mod.Sk} {R : World → World → Prop} {er : Int} {sh : Nat → List (Nat × Value)} {st : Mod.Stv} {c : Sv} (H : PkAt w p a.epoch a.logs sh st c) (hs : st.dk.dead = false) (bs : Value) (hbeh : ∀ {u v z : World}, R v z → Below u.heap.size u v → R u z) (k e s q : Int) (b : ByteArray) (hk : k = 3) {Fl : List ByteArray}
  (hDec : ∀ y, Below w.heap.size w y → Calls Tryz.prog 54 #[bs] y fun r z => r = .returned (.tuple #[.agg #[.int .i64 k, .int .i64 e, .int .i64 s, .int .i64 q, .string b], .int .i64 0]) ∧ Below y.heap.size y z)
  (hC : ∀ y, Below w.heap.size w y → Calls Tryz.prog 98 #[.agg #[.int .i64 3, .func (.func 110) #[ptrTo p] #[]], .agg #[.int .i64 k, .int .i64 e, .int .i64 s, .int .i64 q, .string b]] y fun r z =>
   ∃ lv fs x, r = .returned (.tuple #[lv, .int .i64 er]) ∧ R y x ∧ Below x.heap.size x z ∧ FramesOut x.heap.size z lv fs Fl (fun _ => False)) :
  Calls Tryz.prog 56 #[ptrTo p, bs] w fun r z => DlR R w z er r Fl := by
 have c0 : w.cell? ⟨p, 0, none⟩ = some (ptrTo c.s) := by rw [blk_cell H.ks.blk, H.ks.a0]
 have hID := storeIsDead_any H.stt
 rw [hs] at hID
 have HID := hide hID
 have HDC := hide (hDec w (Below.refl _ _))
 subst hk
 have hCC := fun y hy => hide (hC y hy)
 clear hC
 obtain ⟨ad, cap, hrv, hcap1, hcap2, hcells⟩ := H.rl.shape
 obtain ⟨g, o, rfl, hcl⟩ := hcells (by omega)
 have r0 : w.cell? ⟨g, o, none⟩ = some (.int .i64 1) := by have := hcl 0 (by omega); simpa [rulesOf] using this
 have r1 : w.cell? ⟨g, o + 1, none⟩ = some (.func (.func 109) #[ptrTo p] #[]) := by have := hcl 1 (by omega); simpa [rulesOf] using this
 have r2 : w.cell? ⟨g, o + 2, none⟩ = some (.int .i64 3) := by have := hcl 2 (by omega); simpa [rulesOf] using this
 have r3 : w.cell? ⟨g, o + 2 + 1, none⟩ = some (.func (.func 110) #[ptrTo p] #[]) := by have := hcl 3 (by omega); simpa [rulesOf] using this
 have c11 : w.cell? ⟨p, 11, none⟩ = some (.slice (some ⟨g, o, none⟩) 2 cap) := by rw [blk_cell H.ks.blk, H.ks.ar, hrv]
 have hgl : g < w.heap.size := World.block_lt_of_cell? _ _ r0
 have hpl := lt_of_block H.ks.blk
 clear H hID hDec hcl hcells hrv
 unfold ptrTo at *
 go_enter Tryz.func56, Tryz.ntmps56
 go_upto_region 4 with (first | (go_at_call 86; refine (unhide HID).mono ?_; rintro r y ⟨rfl, hyw⟩; obtain rfl : w = y := hyw.symm) | (go_at_call 54; refine (unhide HDC).mono ?_; rintro r y ⟨rfl, hb⟩))
 obtain ⟨g6, hg6⟩ : ∃ g6, g6 = y.heap.size := ⟨_, rfl⟩
 have hgw : w.heap.size ≤ g6 := by have := hb.size; omega
 have HG6 := hide hg6
 have HB := hide hb
 rw [← hg6]
 clear hg6 hb
 refine wp_world (fun u => u.heap[g6]? = some (.cells #[.int .i64 3, .int .i64 e, .int .i64 s, .int .i64 q, .string b] 41 (0, 0)) ∧ Below w.heap.size w u) ?_ ?_
 ·rw [unhide HG6]
  exact ⟨heap_alloc_new _ _, (unhide HB).alloc (unhide HB).size _⟩
 clear HG6 HB c0 HDC HID
 rintro u ⟨h6, hbu⟩
 have d11 := (hbu.cell (p := ⟨p, 11, none⟩) hpl).trans c11
 have H6 := hide h6
 have HU := hide hbu
 clear h6 hbu
 go_wp2
 go_loopw [9, 28] (fun _ i wr => ∃ j : Nat, j ≤ 1 ∧ i = .int .i64 j ∧ wr.heap[g6]? = some (.cells #[.int .i64 3, .int .i64 e, .int .i64 s, .int .i64 q, .string b] 41 (0, 0)) ∧ Below w.heap.size w wr) (fun _ i _ => 3 - (intOf i).toNat)
 case atStart => exact ⟨0, by omega, rfl, unhide H6, unhide HU⟩
 case round =>
  obtain ⟨j, hj, rfl, h6, hb⟩ := hrel
  clear H6 HU d11
  have s0 := (hb.cell (p := ⟨g, o, none⟩) hgl).trans r0
  have s1 := (hb.cell (p := ⟨g, o + 1, none⟩) hgl).trans r1
  have s2 := (hb.cell (p := ⟨g, o + 2, none⟩) hgl).trans r2
  have s3 := (hb.cell (p := ⟨g, o + 2 + 1, none⟩) hgl).trans r3
  have y0 := blk_cell (i := 0) h6
  have y1 := blk_cell (i := 1) h6
  have y2 := blk_cell (i := 2) h6
  have y3 := blk_cell (i := 3) h6
  have y4 := blk_cell (i := 4) h6
  simp at y0 y1 y2 y3 y4
  have h6l := lt_of_block h6
  have HH6 := hide h6
  have HBB := hide hb
  have hnext : ∀ ob, (wr.alloc ob).heap[g6]? = some (.cells #[.int .i64 3, .int .i64 e, .int .i64 s, .int .i64 q, .string b] 41 (0, 0)) ∧ Below w.heap.size w (wr.alloc ob) := fun ob => ⟨(hao _ _ h6l).trans h6, hb.alloc hb.size _⟩
  have HNX := hide hnext
  clear h6 hb hnext r0 r1 r2 r3
  have hsf1 : ∀ (ad : Addr) (m : Mode) (z : World), (store ad (.func (.func 109) #[.pointer (some ⟨p, 0, none⟩)] #[]) m).run Tryz.prog z = stored Tryz.prog z ad (.func (.func 109) #[.pointer (some ⟨p, 0, none⟩)] #[]) m := fun ad m z => run_store _ _ _ _ _ rfl
  have hsf2 : ∀ (ad : Addr) (m : Mode) (z : World), (store ad (.func (.func 110) #[.pointer (some ⟨p, 0, none⟩)] #[]) m).run Tryz.prog z = stored Tryz.prog z ad (.func (.func 110) #[.pointer (some ⟨p, 0, none⟩)] #[]) m := fun ad m z => run_store _ _ _ _ _ rfl
  rcases (show j = 0 ∨ j = 1 by omega) with rfl | rfl
  focus
   go_wp2
   exact ⟨⟨1, by omega, by go_num, (unhide HNX) _⟩, by simp [intOf]⟩
  focus
   go_wp2_with (go_at_call 98; refine (unhide (hCC _ (by first | exact ((unhide HNX) _).2 | exact (unhide HBB)))).mono ?_; rintro r z ⟨lv, fs, x, rfl, k1, k2, k3⟩; replace k1 := hide k1; replace k2 := hide k2; replace k3 := hide k3)
   go_ret2
   exact ⟨lv, fs, x, rfl, hbeh (unhide k1) (by first | exact ((unhide HNX) _).2 | exact (unhide HBB)), unhide k2, unhide k3⟩
set_option maxRecDepth 100000 in
set_option maxHeartbeats 4000000 in
theorem sinkDeliverN_R {w : World} {p : Nat} {a : Mod.Sk} {R : World → World → Prop} {sh : Nat → List (Nat × Value)} {st : Mod.Stv} {c : Sv} (H : PkAt w p a.epoch a.logs sh st c) (hs : st.dk.dead = false) (hR : R w w) (bs : Value) (k e s q : Int) (b : ByteArray) (hk1 : ¬ k = 1) (hk3 : ¬ k = 3)
  (hDec : ∀ y, Below w.heap.size w y → Calls Tryz.prog 54 #[bs] y fun r z => r = .returned (.tuple #[.agg #[.int .i64 k, .int .i64 e, .int .i64 s, .int .i64 q, .string b], .int .i64 0]) ∧ Below y.heap.size y z) :
  Calls Tryz.prog 56 #[ptrTo p, bs] w fun r z => DlR R w z 0 r [] := by
 have c0 : w.cell? ⟨p, 0, none⟩ = some (ptrTo c.s) := by rw [blk_cell H.ks.blk, H.ks.a0]
 have hID := storeIsDead_any H.stt
 rw [hs] at hID
 have HID := hide hID
 have HDC := hide (hDec w (Below.refl _ _))
 have e1 : ((1 : Int) == k) = false := by simp; omega
 have e3 : ((3 : Int) == k) = false := by simp; omega
 obtain ⟨ad, cap, hrv, hcap1, hcap2, hcells⟩ := H.rl.shape
 obtain ⟨g, o, rfl, hcl⟩ := hcells (by omega)
 have r0 : w.cell? ⟨g, o, none⟩ = some (.int .i64 1) := by have := hcl 0 (by omega); simpa [rulesOf] using this
 have r1 : w.cell? ⟨g, o + 1, none⟩ = some (.func (.func 109) #[ptrTo p] #[]) := by have := hcl 1 (by omega); simpa [rulesOf] using this
 have r2 : w.cell? ⟨g, o + 2, none⟩ = some (.int .i64 3) := by have := hcl 2 (by omega); simpa [rulesOf] using this
 have r3 : w.cell? ⟨g, o + 2 + 1, none⟩ = some (.func (.func 110) #[ptrTo p] #[]) := by have := hcl 3 (by omega); simpa [rulesOf] using this
 have c11 : w.cell? ⟨p, 11, none⟩ = some (.slice (some ⟨g, o, none⟩) 2 cap) := by rw [blk_cell H.ks.blk, H.ks.ar, hrv]
 have hgl : g < w.heap.size := World.block_lt_of_cell? _ _ r0
 have hpl := lt_of_block H.ks.blk
 have HST := hide hR
 clear H hID hDec hcl hcells hrv hR
 unfold ptrTo at *
 go_enter Tryz.func56, Tryz.ntmps56
 go_upto_region 4 with (first | (go_at_call 86; refine (unhide HID).mono ?_; rintro r y ⟨rfl, hyw⟩; obtain rfl : w = y := hyw.symm) | (go_at_call 54; refine (unhide HDC).mono ?_; rintro r y ⟨rfl, hb⟩))
 obtain ⟨g6, hg6⟩ : ∃ g6, g6 = y.heap.size := ⟨_, rfl⟩
 have hgw : w.heap.size ≤ g6 := by have := hb.size; omega
 have HG6 := hide hg6
 have HB := hide hb
 rw [← hg6]
 clear hg6 hb
 refine wp_world (fun u => u.heap[g6]? = some (.cells #[.int .i64 k, .int .i64 e, .int .i64 s, .int .i64 q, .string b] 41 (0, 0)) ∧ Below w.heap.size w u) ?_ ?_
 ·rw [unhide HG6]
  exact ⟨heap_alloc_new _ _, (unhide HB).alloc (unhide HB).size _⟩
 clear HG6 HB c0 HDC HID
 rintro u ⟨h6, hbu⟩
 have d11 := (hbu.cell (p := ⟨p, 11, none⟩) hpl).trans c11
 have H6 := hide h6
 have HU := hide hbu
 clear h6 hbu
 go_wp2
 go_loopw [9, 28] (fun _ i wr => ∃ j : Nat, j ≤ 2 ∧ i = .int .i64 j ∧ wr.heap[g6]? = some (.cells #[.int .i64 k, .int .i64 e, .int .i64 s, .int .i64 q, .string b] 41 (0, 0)) ∧ Below w.heap.size w wr) (fun _ i _ => 3 - (intOf i).toNat)
 case atStart => exact ⟨0, by omega, rfl, unhide H6, unhide HU⟩
 case round =>
  obtain ⟨j, hj, rfl, h6, hb⟩ := hrel
  clear H6 HU d11
  have s0 := (hb.cell (p := ⟨g, o, none⟩) hgl).trans r0
  have s1 := (hb.cell (p := ⟨g, o + 1, none⟩) hgl).trans r1
  have s2 := (hb.cell (p := ⟨g, o + 2, none⟩) hgl).trans r2
  have s3 := (hb.cell (p := ⟨g, o + 2 + 1, none⟩) hgl).trans r3
  have y0 := blk_cell (i := 0) h6
  have y1 := blk_cell (i := 1) h6
  have y2 := blk_cell (i := 2) h6
  have y3 := blk_cell (i := 3) h6
  have y4 := blk_cell (i := 4) h6
  simp at y0 y1 y2 y3 y4
  have h6l := lt_of_block h6
  have HH6 := hide h6
  have HBB := hide hb
  have hnext : ∀ ob, (wr.alloc ob).heap[g6]? = some (.cells #[.int .i64 k, .int .i64 e, .int .i64 s, .int .i64 q, .string b] 41 (0, 0)) ∧ Below w.heap.size w (wr.alloc ob) := fun ob => ⟨(hao _ _ h6l).trans h6, hb.alloc hb.size _⟩
  have HNX := hide hnext
  clear h6 hb hnext r0 r1 r2 r3
  have hsf1 : ∀ (ad : Addr) (m : Mode) (z : World), (store ad (.func (.func 109) #[.pointer (some ⟨p, 0, none⟩)] #[]) m).run Tryz.prog z = stored Tryz.prog z ad (.func (.func 109) #[.pointer (some ⟨p, 0, none⟩)] #[]) m := fun ad m z => run_store _ _ _ _ _ rfl
  have hsf2 : ∀ (ad : Addr) (m : Mode) (z : World), (store ad (.func (.func 110) #[.pointer (some ⟨p, 0, none⟩)] #[]) m).run Tryz.prog z = stored Tryz.prog z ad (.func (.func 110) #[.pointer (some ⟨p, 0, none⟩)] #[]) m := fun ad m z => run_store _ _ _ _ _ rfl
  rcases (show j = 0 ∨ j = 1 ∨ j = 2 by omega) with rfl | rfl | rfl
  focus
   go_wp2
   exact ⟨⟨1, by omega, by go_num, (unhide HNX) _⟩, by simp [intOf]⟩
  focus
   go_wp2
   exact ⟨⟨2, by omega, by go_num, (unhide HNX) _⟩, by simp [intOf]⟩
  focus
   go_wp2
   go_ret2
   exact ⟨_, _, w, rfl, unhide HST, unhide HBB, framesOut_none _ _⟩
end Go.Proofs.YtamafdcnbcoegaaGreat
