/-
  Part 18 of a proof: Q2, Q3, Q4, CodesProof, N9, Q5, Q6.
-/
import Derived.ProofKit
import Derived.SizedLaws
import Derived.OpenShut
import Derived.ShutString
import Derived.ChangeOld
import Derived.Lib.SmallJoins
import Derived.Deep.Slices
import Derived.Test.YtamafdcnbcoegaaGreatMd17
namespace Go.Proofs.YtamafdcnbcoegaaGreat
open Go.RowKit
set_option maxRecDepth 100000 in
set_option maxHeartbeats 2000000 in
theorem data_any (i : Nat) (w : World) (h1 : 1 ≤ i) (hi : i < 100) :
  Calls Tryz.prog 40 #[.int .i64 1, .int .i64 i] w fun r y => ∃ v, r = .returned v ∧ Owns w.heap.size y v (dlB i) ∧ Below w.heap.size w y := by
 have HD := fun y => hide (digits_any i y (by omega))
 rw [digB_small hi] at HD
 have HE0 := fun y => courier_Encode_yes 3 0 1 i (dig i) y (dl_proper h1 hi)
 have HE : ∀ y, Hid (Calls Tryz.prog 36 #[.agg #[.int .i64 3, .int .i64 0, .int .i64 1, .int .i64 i, .string (dig i)]] y fun r w' => ∃ v, r = .returned (.tuple #[v, .int .i64 0]) ∧ Owns (y.heap.size + 1) w' v (dlB i) ∧ Below y.heap.size y w') := HE0
 generalize dlB i = L at HE ⊢
 generalize dig i = db at HD HE
 clear HE0
 go_enter Tryz.func40, Tryz.ntmps40
 go_wp2_with (first | (go_at_call 23; refine (unhide (HD _)).mono ?_; rintro r y ⟨rfl, hy⟩; replace hy := hide hy) | (go_at_call 36; refine (unhide (HE _)).mono ?_; rintro r z ⟨v, rfl, ho, hz⟩; replace ho := hide ho; replace hz := hide hz))
 go_ret
 have hs := (unhide hy).size
 exact ⟨v, rfl, (unhide ho).mono (by omega), (unhide hy).trans ((unhide hz).mono hs)⟩
set_option maxRecDepth 100000 in
set_option maxHeartbeats 4000000 in
theorem first_any (w : World) (v : Value) (m : Nat) (n : Int) (hv : ListAt w v (strs (digs m))) (hm : m < 90) :
  Calls Tryz.prog 41 #[v, .int .i64 n] w fun r y => r = .returned (.bool (decide ((m : Int) = n))) ∧ Below w.heap.size w y := by
 obtain ⟨la, lc, hlv, hl1, hl2, hl3⟩ := hv
 rw [strs_length, digs_len] at hlv hl1 hl3
 subst hlv
 have HL3 := hide hl3
 clear hl3
 have hdec : decide ((m : Int) = n) = ((m : Int) == n) := by rw [Bool.eq_iff_iff]; simp
 rw [hdec]
 have HE := hide hdec
 clear hdec HE
 go_enter Tryz.func41, Tryz.ntmps41
 go_wp2
 go_loopw [5] (fun i wr => ∃ k : Nat, k ≤ m ∧ i = .int .i64 k ∧ Below w.heap.size w wr) (fun i _ => m - (intOf i).toNat)
 case atStart => exact ⟨0, by omega, rfl, Below.refl _ _⟩
 case round =>
  obtain ⟨k, hk, rfl, hb⟩ := hrel
  by_cases hlt : k < m
  ·obtain ⟨g, o, rfl, hg, hc⟩ := (unhide HL3) (by omega)
   have ck : wr.cell? ⟨g, o + k, none⟩ = some (.string (dig (k + 1))) := by
    rw [hb.cell (p := ⟨g, o + k, none⟩) hg, hc k hlt]
    simp [strs, digs, hlt]
   have HD := fun y => hide (digits_any (k + 1) y (by omega))
   rw [digB_small (by omega)] at HD
   have hki : (k : Int) < (m : Int) := by omega
   have hk0 : (0 : Int) ≤ (k : Int) := by omega
   have hkw : IntKind.i64.wrap ((k : Int) + 1) = ((k + 1 : Nat) : Int) := by rw [IntKind.wrap_i64]; omega
   have hgr : g < wr.heap.size := Nat.lt_of_lt_of_le hg hb.size
   have HB := hide hb
   have HK := hide (And.intro hk hlt)
   clear hc hb hlt hk HL3 hg
   generalize dig (k + 1) = db at ck HD
   have hne : (db.toList == db.toList) = true := by simp
   go_upto_region 4 with fail
   refine wp_region_frame (by kernel_rfl)
    [fun v _ => v = .slice (some ⟨g, o, none⟩) m lc, fun v _ => v = .int .i64 k, fun v _ => v = .pointer (some ⟨g, o + k, none⟩), fun v _ => v = .string db, fun v _ => v = .int .i64 k, fun v _ => v = .int .i64 (k + 1 : Nat), fun v _ => v = .string db, fun v _ => v = .bool false]
    [[(0, none)], [(5, none)], [(12, some 0), (13, some 1)], [(14, some 2)], [(5, none)], [(16, some 4)], [(17, some 5)], [(15, some 3), (18, some 6)]] [some 12, some 13, some 14, some 15, some 16, some 17, some 18, some 19] [false, false, false, false, false, false, false, false, false, false, false, false, true, true, true, true, true, true, true, true, false, false, false, false]
    (by kernel_rfl) (by kernel_rfl) (by kernel_rfl) (by kernel_rfl) ?_ ?_ ?_
   ·repeat' (first | exact stable_eq _ | exact trivial | apply And.intro)
   ·refine ⟨?_, ?_, ?_, ?_, ?_, ?_, ?_, ?_, trivial⟩
    all_goals
     intro a' z hbz hf
     have cz := (hbz.cell (p := ⟨g, o + k, none⟩) hgr).trans ck
     clear hbz ck
     simp only [PlanFacts, List.getD_cons_zero, List.getD_cons_succ, Array.getD_eq_getD_getElem?] at hf
     try simp at hf
    iterate 6
     ·go_simp
      first | exact Below.refl _ _ | exact ⟨_, rfl, Below.refl _ _, rfl⟩ | exact ⟨rfl, Below.refl _ _⟩
    ·go_simp
     refine (unhide (HD z)).mono ?_
     rintro e x' ⟨rfl, hb⟩
     first | exact hb | exact ⟨rfl, hb⟩ | exact ⟨_, rfl, hb, rfl⟩
    ·go_simp
     first | exact Below.refl _ _ | exact ⟨_, rfl, Below.refl _ _, rfl⟩ | exact ⟨rfl, Below.refl _ _⟩
   ·intro f z hbz hwd
    simp only [AllWords] at hwd
    have h7 := hwd.2.2.2.2.2.2.2.1
    clear hwd
    simp only [mergeT, h7]
    generalize f 12 = x12
    generalize f 13 = x13
    generalize f 14 = x14
    generalize f 15 = x15
    generalize f 16 = x16
    generalize f 17 = x17
    generalize f 18 = x18
    have HBZ := hide ((unhide HB).trans (hbz.mono (unhide HB).size))
    clear hbz
    go_wp2
    go_roundw
    case rel => exact ⟨k + 1, (unhide HK).2, by go_num, unhide HBZ⟩
    case measure => have := (unhide HK).2; simp [intOf]; omega
  ·have hkm : k = m := by omega
   subst hkm
   have HB := hide hb
   clear hb
   go_wp2
   go_ret
   exact ⟨rfl, unhide HB⟩
end Go.Proofs.YtamafdcnbcoegaaGreat
namespace Go.Proofs.YtamafdcnbcoegaaGreat
open Go.RowKit
structure MidAt (X : SinkX) (B op K n : Nat) (x : World) (v : Nat) (a : Mod.Sk) : Prop where
 all : ∃ ct U, X.At op ct n x v a U ∧ ct ≤ K ∧ ∀ j, U j → B ≤ j
 good : SkGood a
 bx : B ≤ x.heap.size
section
variable {X : SinkX} {B op K n : Nat} {x y : World} {v : Nat} {a : Mod.Sk}
theorem MidAt.mono {K' : Nat} (h : MidAt X B op K n x v a) (hK : K ≤ K') : MidAt X B op K' n x v a := by
 obtain ⟨ct, U, h1, h2, h3⟩ := h.all
 exact ⟨⟨ct, U, h1, by omega, h3⟩, h.good, h.bx⟩
theorem MidAt.below (h : MidAt X B op K n x v a) (hb : Below x.heap.size x y) : MidAt X B op K n y v a := by
 obtain ⟨ct, U, h1, h2, h3⟩ := h.all
 exact ⟨⟨ct, U, X.far h1 (E := fun _ => False) (far_below hb) (fun _ _ e => e), h2, h3⟩, h.good, Nat.le_trans h.bx hb.size⟩
theorem skGood_dl {a : Mod.Sk} (G : SkGood a) {i : Nat} (h1 : 1 ≤ i) (h : i < 100) : SkGood (mdS a i) := by
 have := skGood_says G (dlB i)
 rw [(says_dl a h1 h).1] at this
 exact this
theorem far_bel {U : Nat → Prop} (hF : Far U x y) (hU : ∀ j, U j → B ≤ j) (hB : B ≤ x.heap.size) : Below B x y := Far.below hF hB (fun k hk e => by have := hU k e; omega)
theorem MidAt.ok (h : MidAt X B op K n x v a) (hK : K ≤ 100000) {i : Nat} (h1 : 1 ≤ i) (hi : i < 100) (bs : Value) (hat : BytesAt x bs (dlB i)) (hn : n = 0 ∨ skWr a 3 0 1 i (dig i) < n) :
  Calls Tryz.prog 27 #[ptrTo v, bs] x fun r y => ∃ ad len cap, r = .returned (.tuple #[.slice ad len cap, .int .i64 0]) ∧ MidAt X B op (K + 120) (n - skWr a 3 0 1 i (dig i)) y v (mdS a i) ∧ Below B x y := by
 obtain ⟨ct, U, k1, k2, k3⟩ := h.all
 obtain ⟨e1, e2, _⟩ := says_dl a h1 hi
 have hw := skWr_le h.good 3 0 1 i (dig i)
 refine (X.ok bs (dlB i) k1 (by omega) h.good hat (by rw [e2]; exact hn)).mono ?_
 rintro r y ⟨lv, fs, U', rfl, m1, m2, m3, m4⟩
 rw [e1, e2] at m2
 rw [e1] at m1
 obtain ⟨ad, cap, rfl, _⟩ := (own_rowO m1.row).shape
 refine ⟨ad, _, cap, by rw [e1], ⟨⟨_, U', m2, by omega, fun j hj => ?_⟩, skGood_dl h.good h1 hi, Nat.le_trans h.bx m3.size⟩, far_bel m3 k3 h.bx⟩
 rcases m4 j hj with e | e
 ·exact k3 j e
 ·have := h.bx; omega
theorem MidAt.feed (h : MidAt X B op K 0 x v a) (hK : K ≤ 100000) {i : Nat} (h1 : 1 ≤ i) (hi : i < 100) (bs : Value) (hat : BytesAt x bs (dlB i)) :
  Calls Tryz.prog 27 #[ptrTo v, bs] x fun r y => ∃ ad len cap, r = .returned (.tuple #[.slice ad len cap, .int .i64 0]) ∧ MidAt X B op (K + 120) 0 y v (mdS a i) ∧ Below B x y := by
 refine (h.ok hK h1 hi bs hat (.inl rfl)).mono ?_
 rintro r y ⟨ad, len, cap, rfl, k1, k2⟩
 rw [Nat.zero_sub] at k1
 exact ⟨ad, len, cap, rfl, k1, k2⟩
theorem MidAt.arm (h : MidAt X B op K n x v a) (m : Int) (hm : m ≤ 9223372036854775807) :
  Calls Tryz.prog 35 #[ptrTo v, .int .i64 m] x fun r y => r = .returned (.tuple #[]) ∧ MidAt X B op K m.toNat y v a ∧ Below B x y := by
 obtain ⟨ct, U, k1, k2, k3⟩ := h.all
 refine (X.arm m k1 hm).mono ?_
 rintro r y ⟨rfl, m1, m2⟩
 exact ⟨rfl, ⟨⟨ct, U, m1, k2, k3⟩, h.good, Nat.le_trans h.bx m2.size⟩, far_bel m2 k3 h.bx⟩
theorem MidAt.log (h : MidAt X B op K n x v a) :
  Calls Tryz.prog 32 #[ptrTo v, .int .i64 1] x fun r y => ∃ lv, r = .returned lv ∧ ListAt y lv (strs (a.logs 1)) ∧ Below x.heap.size x y := by
 obtain ⟨ct, U, k1, k2, k3⟩ := h.all
 refine (X.log 1 k1).mono ?_
 rintro r y ⟨lv, rfl, m1, m2⟩
 exact ⟨lv, rfl, listAt_own m1, m2⟩
def MidDead (X : SinkX) (B op : Nat) (x : World) (v : Nat) (lg : Nat → List ByteArray) : Prop := ∃ e U, X.Dd op x v e lg U ∧ e = 0 ∧ ∀ j, U j → B ≤ j
theorem MidAt.bad (h : MidAt X B op K n x v a) (he : a.epoch = 0) (hK : K ≤ 100000) {i : Nat} (h1 : 1 ≤ i) (hi : i < 100) (bs : Value) (hat : BytesAt x bs (dlB i)) (hn : 1 ≤ n ∧ n ≤ skWr a 3 0 1 i (dig i)) :
  Calls Tryz.prog 27 #[ptrTo v, bs] x fun r y => ∃ ad len cap, r = .returned (.tuple #[.slice ad len cap, .int .i64 4]) ∧ MidDead X B op y v (skBadR a 3 1 i (dig i) n) ∧ Below B x y := by
 obtain ⟨ct, U, k1, k2, k3⟩ := h.all
 obtain ⟨e1, e2, e3⟩ := says_dl a h1 hi
 refine (X.bad bs (dlB i) k1 (by omega) h.good hat (by rw [e2]; exact hn)).mono ?_
 rintro r y ⟨lv, fs, U', rfl, m1, m2, m3, m4⟩
 rw [e3] at m2
 obtain ⟨ad, cap, rfl, _⟩ := (own_rowO m1.row).shape
 refine ⟨ad, _, cap, rfl, ⟨_, U', m2, he, fun j hj => ?_⟩, far_bel m3 k3 h.bx⟩
 rcases m4 j hj with e | e
 ·exact k3 j e
 ·have := h.bx; omega
theorem MidDead.img {lg : Nat → List ByteArray} (h : MidDead X B op x v lg) : ∃ (L : List UInt8) (c2 hd : Nat), Mod.SkDisk L op c2 hd 0 lg ∧ ∀ keep : Int,
  Calls Tryz.prog 30 #[ptrTo v, .int .u64 keep] x fun r y => ∃ v', r = .returned v' ∧ Owns x.heap.size y v' L ∧ Below x.heap.size x y := by
 obtain ⟨e, U, h1, rfl, h3⟩ := h
 obtain ⟨L, c2, hd, k1, k2⟩ := X.imgD h1
 exact ⟨L, c2, hd, k1, fun keep => k2 x (Below.refl _ _) keep⟩
theorem skGood_disk {L : List UInt8} {c2 hd e : Nat} {lg : Nat → List ByteArray} (h : Mod.SkDisk L op c2 hd e lg) : SkGood { epoch := e, logs := lg, held := [] } := by
 obtain ⟨ord, o1, o2, _⟩ := h.rcs
 exact ⟨fun h hh => by simp at hh, by simp, by show Mod.cnt lg ≤ 120; exact o2, h.ok.sm 0 (by omega)⟩
theorem mid_open {L : List UInt8} {c2 hd e : Nat} {lg : Nat → List ByteArray} (h : Mod.SkDisk L op c2 hd e lg) (hop : op ≤ 1073741824) (hB : B ≤ x.heap.size) (bs : Value) (hat : BytesAt x bs L) :
  Calls Tryz.prog 38 #[bs] x fun r y => ∃ v, r = .returned (.tuple #[ptrTo v, .int .i64 0]) ∧ MidAt X B (op + 1) 1 0 y v { epoch := e, logs := lg, held := [] } ∧ Below x.heap.size x y := by
 refine (X.opened bs L hat h hop).mono ?_
 rintro r y ⟨v, U, rfl, k1, k2, k3⟩
 exact ⟨v, rfl, ⟨⟨1, U, k1, Nat.le_refl _, fun j hj => Nat.le_trans hB (k3 j hj)⟩, skGood_disk h, Nat.le_trans hB k2.size⟩, k2⟩
end
set_option maxRecDepth 100000 in
set_option maxHeartbeats 1000000 in
theorem keepSinkX_any (X : SinkX) (w : World) :
  Calls Tryz.prog 19 #[] w fun r y => ∃ v U, r = .returned (ptrTo v) ∧ X.At 1 1 0 y v { epoch := 0, logs := fun _ => [], held := [] } U ∧ Below w.heap.size w y ∧ ∀ j, U j → w.heap.size ≤ j := by
 go_enter Tryz.func19, Tryz.ntmps19
 go_wp2_with (at_make; refine wp_make_full rfl _ _ rfl w.heap.size _ _ _ _ 7808 rfl rfl rfl rfl (by omega) (Nat.le_refl _) ?_; intro w1 hown1 hg1; have b1 := hide (below_grown_new (B := w.heap.size) hg1 (Nat.le_refl _) (by simp)); have HA := hide (Owns.at hown1); clear hown1 hg1)
 refine (X.zero _ (unhide HA)).mono ?_
 rintro r y ⟨v, U, rfl, k1, k2, k3⟩
 have HK := hide (And.intro k1 (And.intro k2 k3))
 clear k1 k2 k3
 unfold ptrTo
 go_wp2
 go_ret
 obtain ⟨k1, k2, k3⟩ := unhide HK
 have hb := unhide b1
 exact ⟨v, U, rfl, k1, hb.trans (k2.mono hb.size), fun j hj => Nat.le_trans hb.size (k3 j hj)⟩
theorem mid_start (X : SinkX) (w : World) {B : Nat} (hB : B ≤ w.heap.size) :
  Calls Tryz.prog 19 #[] w fun r y => ∃ v, r = .returned (ptrTo v) ∧ MidAt X B 1 1 0 y v (mdRun 0 0) ∧ Below w.heap.size w y := by
 refine (keepSinkX_any X w).mono ?_
 rintro r y ⟨v, U, rfl, k1, k2, k3⟩
 exact ⟨v, rfl, ⟨⟨1, U, k1, Nat.le_refl _, fun j hj => Nat.le_trans hB (k3 j hj)⟩, skGood_new, Nat.le_trans hB k2.size⟩, k2⟩
end Go.Proofs.YtamafdcnbcoegaaGreat
namespace Go.Proofs.YtamafdcnbcoegaaGreat
open Go.RowKit
theorem mdFact_out {n h : Nat} (hn : n < 12) (hh : h < 3) : (mdRun n (n + 2 + h)).logs 1 = digs n ∧ (mdRun n (n + 2 + h)).epoch = 0 ∧ skWr (mdRun n (n + 2 + h)) 3 0 1 (n + 1) (dig (n + 1)) = 2 + h
  ∧ (mdFeed (mdS (mdRun n (n + 2 + h)) (n + 1)) n (2 + h)).logs 1 = digs (n + 2 + h)
  ∧ ∀ j, j < 2 + h → (skBadR (mdRun n (n + 2 + h)) 3 1 (n + 1) (dig (n + 1)) (1 + j) 1 = digs (n + j)) ∧ (mdFeed { epoch := 0, logs := skBadR (mdRun n (n + 2 + h)) 3 1 (n + 1) (dig (n + 1)) (1 + j), held := [] } n (2 + h)).logs 1 = digs (n + 2 + h) := by
 have H := mdFact_all n hn h hh
 unfold mdFact at H
 simp only [Bool.and_eq_true, decide_eq_true_eq, List.all_eq_true, List.mem_range] at H
 obtain ⟨⟨⟨⟨h1, h2⟩, h3⟩, h4⟩, h5⟩ := H
 refine ⟨h1, h2, h3, h4, fun j hj => ?_⟩
 have := h5 j hj
 unfold mdBad at this
 rw [Nat.add_comm 1 j]
 exact this
set_option maxRecDepth 100000 in
set_option maxHeartbeats 32000000 in
theorem midst_any {top : Nat} (C : AgentC top) (D : SinkC) (X : SinkX) (ht : 1000 ≤ top) (b0 h0 w0 keep : Int) (w : World) (hb0 : -9223372036854775808 ≤ b0 ∧ b0 ≤ 9223372036854775807) (hh0 : -9223372036854775808 ≤ h0 ∧ h0 ≤ 9223372036854775807) (hw0 : -9223372036854775808 ≤ w0 ∧ w0 ≤ 9223372036854775807) :
  Calls Tryz.prog 10 #[.int .i64 b0, .int .i64 h0, .int .i64 w0, .int .u64 keep] w fun r y => r = .returned (.bool true) ∧ Below w.heap.size w y := by
 have HP1 := fun y => hide (keepPick_any b0 12 y hb0 (by omega) (by omega))
 have HP2 := fun y => hide (keepPick_any h0 3 y hh0 (by omega) (by omega))
 have HP3 := fun y => hide (keepPick_any w0 12 y hw0 (by omega) (by omega))
 have hn := pickN_lt b0 (n := 12) (by omega)
 have hh := pickN_lt h0 (n := 3) (by omega)
 have hj := pickN_lt w0 (n := 12) (by omega)
 generalize pickN b0 12 = n at HP1 hn
 generalize pickN h0 3 = h at HP2 hh
 generalize pickN w0 12 = j at HP3 hj
 clear hb0 hh0 hw0
 obtain ⟨f1, f2, f3, f4, f5⟩ := mdFact_out hn hh
 have hz : mdRun n 0 = mdRun 0 0 := rfl
 have hs : ∀ i, mdRun n (i + 1) = if i = n then mdRun n i else mdS (mdRun n i) (i + 1) := fun _ => rfl
 generalize mdRun n = A at f1 f2 f3 f4 f5 hz hs
 have F1 := hide f1
 have F2 := hide f2
 have F3 := hide f3
 have F4 := hide f4
 have F5 := hide f5
 have HZ := hide hz
 have HS := hide hs
 clear f1 f2 f3 f4 f5 hz hs
 go_enter Tryz.func10, Tryz.ntmps10
 go_upto_region 2 with (go_at_call 20; refine (known_any C D ht _).mono ?_; rintro r x1 ⟨rfl, k1⟩; have HK := hide k1; clear k1)
 go_upto_region 3 with (go_at_call 19; refine (mid_start X _ (B := w.heap.size) (unhide HK).size).mono ?_; rintro r x2 ⟨v, rfl, k1, k2⟩; have HM0 := hide k1; have HB0 := hide ((unhide HK).trans (k2.mono (unhide HK).size)); clear k1 k2)
 unfold ptrTo at *
 go_upto_region 6 with (go_at_call 22; refine (unhide (HP1 _)).mono ?_; rintro r y ⟨rfl, rfl⟩)
 go_upto_region 7 with (go_at_call 22; refine (unhide (HP2 _)).mono ?_; rintro r y ⟨rfl, rfl⟩)
 go_wp2
 go_loopw [13] (fun i wr => ∃ q : Nat, q ≤ n + 2 + h ∧ i = .int .i64 ((q : Int) + 1) ∧ MidAt X w.heap.size 1 (1 + 120 * q) 0 wr v (A q) ∧ Below w.heap.size w wr) (fun i _ => n + 4 + h - (intOf i).toNat)
 case atStart =>
  refine ⟨0, by omega, rfl, ?_, unhide HB0⟩
  rw [unhide HZ]
  exact unhide HM0
 case round =>
  obtain ⟨q, hq, rfl, hM, hB⟩ := hrel
  clear HM0 HB0 HK
  have HM := hide hM
  have HB := hide hB
  clear hM hB
  by_cases hlt : q < n + 2 + h
  ·have hji : (q : Int) + 1 ≤ (n : Int) + 2 + (h : Int) := by omega
   by_cases hqn : q = n
   ·have hqi : (((q : Int) + 1) == ((n : Int) + 1)) = true := by simp; omega
    have hAS : Hid (A (q + 1) = A q) := (unhide HS q).trans (if_pos hqn)
    have HQ := hide hqn
    clear hqn
    go_wp2
    go_roundw
    case rel =>
     refine ⟨q + 1, by omega, by go_num, ?_, unhide HB⟩
     rw [unhide hAS]
     exact (unhide HM).mono (by omega)
    case measure => simp [intOf]; omega
   ·have hqi : (((q : Int) + 1) == ((n : Int) + 1)) = false := by simp; omega
    have hAS : Hid (A (q + 1) = mdS (A q) (q + 1)) := (unhide HS q).trans (if_neg hqn)
    have HDT : ∀ y, Hid (Calls Tryz.prog 40 #[.int .i64 1, .int .i64 ((q : Int) + 1)] y fun r z => ∃ v, r = .returned v ∧ Owns y.heap.size z v (dlB (q + 1)) ∧ Below y.heap.size y z) := fun y => by
     have e : ((q : Int) + 1) = ((q + 1 : Nat) : Int) := by omega
     rw [e]
     exact data_any _ y (by omega) (by omega)
    have HQ := hide hqn
    clear hqn
    go_upto_region 12 with (first
     | (go_at_call 40; refine (unhide (HDT _)).mono ?_; rintro r y1 ⟨dv, rfl, ho, hy⟩; have HM1 := hide ((unhide HM).below hy); have HB1 := hide ((unhide HB).trans (hy.mono (unhide HB).size)); have HFD := (unhide HM1).feed (by omega) (i := q + 1) (by omega) (by omega) dv (Owns.at ho); rw [← unhide hAS] at HFD; replace HFD := hide HFD; obtain ⟨dad, dcap, rfl, _⟩ := ho.shape; generalize (dlB (q + 1)).length = dlen at HFD ⊢; unfold ptrTo at HFD; clear ho hy)
     | (go_at_call 27; refine (unhide HFD).mono ?_; rintro r y2 ⟨lad, llen, lcap, rfl, k1, k2⟩; have HM2 := hide k1; have HB2 := hide ((unhide HB1).trans k2); clear k1 k2))
    go_wp2
    go_roundw
    case rel => exact ⟨q + 1, by omega, by go_num, (unhide HM2).mono (by omega), unhide HB2⟩
    case measure => simp [intOf]; omega
  ·have hqe : q = n + 2 + h := by omega
   subst hqe
   have hji : ¬ (((n + 2 + h : Nat) : Int) + 1 ≤ (n : Int) + 2 + (h : Int)) := by omega
   have HLG0 := (unhide HM).log
   rw [unhide F1] at HLG0
   have HLG := hide HLG0
   have HF := fun v y hl => hide (first_any y v n (n : Int) hl (by omega))
   have hfe : decide ((n : Int) = (n : Int)) = true := by simp
   rw [hfe] at HF
   clear HLG0 hfe
   unfold ptrTo at HLG
   go_upto_region 15 with (first
    | (go_at_call 32; refine (unhide HLG).mono ?_; rintro r y1 ⟨lv, rfl, k1, k2⟩; have HL1 := hide k1; have HM1 := hide ((unhide HM).below k2); have HB1 := hide ((unhide HB).trans (k2.mono (unhide HB).size)); obtain ⟨lad, lcap, rfl, _⟩ := k1; clear k2)
    | (go_at_call 41; refine (unhide (HF _ _ (unhide HL1))).mono ?_; rintro r y2 ⟨rfl, k2⟩; have HM2 := hide ((unhide HM1).below k2); have HB2 := hide ((unhide HB1).trans (k2.mono (unhide HB1).size)); clear k2))
   clear HM HB HM1 HB1 HLG HL1
   have HAR := hide ((unhide HM2).arm (1 + (j : Int)) (by omega))
   unfold ptrTo at HAR
   go_upto_region 16 with (first
    | (go_at_call 22; refine (unhide (HP3 _)).mono ?_; rintro r y ⟨rfl, rfl⟩)
    | (go_at_call 35; refine (unhide HAR).mono ?_; rintro r x3 ⟨rfl, k1, k2⟩; have HM3 := hide k1; have HB3 := hide ((unhide HB2).trans k2); clear k1 k2))
   have htn : (1 + (j : Int)).toNat = 1 + j := by omega
   rw [htn] at HM3
   clear HAR HM2 HB2 htn
   have HDT : ∀ y, Hid (Calls Tryz.prog 40 #[.int .i64 1, .int .i64 ((n : Int) + 1)] y fun r z => ∃ v, r = .returned v ∧ Owns y.heap.size z v (dlB (n + 1)) ∧ Below y.heap.size y z) := fun y => by
    have e : ((n : Int) + 1) = ((n + 1 : Nat) : Int) := by omega
    rw [e]
    exact data_any _ y (by omega) (by omega)
   by_cases hcr : 1 + j ≤ 2 + h
   ·have HFB := hide hcr
    obtain ⟨AX, hAX⟩ : ∃ AX : Mod.Sk, AX = { epoch := 0, logs := skBadR (A (n + 2 + h)) 3 1 (n + 1) (dig (n + 1)) (1 + j), held := [] } := ⟨_, rfl⟩
    have g5 := (unhide F5) j (by omega)
    have hl5 : (skBadR (A (n + 2 + h)) 3 1 (n + 1) (dig (n + 1)) (1 + j)) = AX.logs := by rw [hAX]
    rw [← hAX, hl5] at g5
    have HL5 := hide g5.1
    have HFX := hide g5.2
    have hlen5 : n + j < 90 := by omega
    have HAX := hide (And.intro hAX hl5)
    clear g5 hl5 hAX
    go_upto_region 17 with (first
     | (go_at_call 40; refine (unhide (HDT _)).mono ?_; rintro r y1 ⟨dv, rfl, ho, hy⟩; have HM1 := hide ((unhide HM3).below hy); have HB1 := hide ((unhide HB3).trans (hy.mono (unhide HB3).size)); have HFD := (unhide HM1).bad (unhide F2) (by omega) (i := n + 1) (by omega) (by omega) dv (Owns.at ho) (by rw [unhide F3]; have := unhide HFB; omega); rw [(unhide HAX).2] at HFD; replace HFD := hide HFD; obtain ⟨dad, dcap, rfl, _⟩ := ho.shape; generalize (dlB (n + 1)).length = dlen at HFD ⊢; unfold ptrTo at HFD; clear ho hy)
     | (go_at_call 27; refine (unhide HFD).mono ?_; rintro r y2 ⟨lad2, llen2, lcap2, rfl, k1, k2⟩; have HD2 := hide k1; have HB4 := hide ((unhide HB1).trans k2); clear k1 k2))
    clear HFD HM1 HB1 HM3 HB3
    obtain ⟨IL, ic, ihd, hsk, himg0⟩ := (unhide HD2).img
    have HIMG := hide (himg0 keep)
    have HSK := hide hsk
    clear hsk himg0
    unfold ptrTo at HIMG
    go_upto_region 21 with (first
     | (go_at_call 30; refine (unhide HIMG).mono ?_; rintro r y3 ⟨iv, rfl, ho, hy⟩; have HB5 := hide ((unhide HB4).trans (hy.mono (unhide HB4).size)); have HOP := hide (mid_open (X := X) (unhide HSK) (by omega) (unhide HB5).size iv (Owns.at ho)); obtain ⟨iad, icap, rfl, _⟩ := ho.shape; generalize IL.length = ilen at HOP ⊢; clear ho hy)
     | (go_at_call 38; refine (unhide HOP).mono ?_; rintro r y4 ⟨v5, rfl, k1, k2⟩; have HM5 := hide k1; have HB6 := hide ((unhide HB5).trans (k2.mono (unhide HB5).size)); clear k1 k2))
    have hmx : Hid (MidAt X w.heap.size (1 + 1) 1 0 y4 v5 AX) := by
     have := unhide HM5
     rw [(unhide HAX).1, (unhide HAX).2]
     exact this
    clear HM5 HOP HIMG HSK HD2 HB4 HB5
    unfold ptrTo
    have HLG0 := (unhide hmx).log
    rw [unhide HL5] at HLG0
    have HLG := hide HLG0
    have HF := fun v y hl => hide (first_any y v (n + j) ((n + j : Nat) : Int) hl hlen5)
    have hfe : decide (((n + j : Nat) : Int) = ((n + j : Nat) : Int)) = true := by simp
    rw [hfe] at HF
    clear HLG0 hfe
    unfold ptrTo at HLG
    go_upto_region 25 with (go_at_call 32; refine (unhide HLG).mono ?_; rintro r y5 ⟨lv, rfl, k1, k2⟩; have HL1 := hide k1; have HM7 := hide ((unhide hmx).below k2); have HB7 := hide ((unhide HB6).trans (k2.mono (unhide HB6).size)); obtain ⟨lad3, lcap3, rfl, _⟩ := k1; clear k2)
    rw [strs_length, digs_len] at HL1 ⊢
    clear hmx HB6 HLG
    go_upto_region 26 with (go_at_call 41; refine (unhide (HF _ _ (unhide HL1))).mono ?_; rintro r x6 ⟨rfl, k2⟩; have HM6 := hide ((unhide HM7).below k2); have HB6 := hide ((unhide HB7).trans (k2.mono (unhide HB7).size)); clear k2)
    clear HM7 HB7 HL1
    have hl1 : ¬ ((n + j : Nat) : Int) < (n : Int) := by omega
    have hl2 : ¬ ((n : Int) + 2 + (h : Int)) < ((n + j : Nat) : Int) := by omega
    replace HM6 := hide ((unhide HM6).mono (K' := 5000) (by omega))
    generalize (1 + 1 : Nat) = op2 at HM6
    have HARM := hide ((unhide HM6).arm 0 (by omega))
    unfold ptrTo at HARM
    go_upto_region 29 with (go_at_call 35; refine (unhide HARM).mono ?_; rintro r x7 ⟨rfl, k1, k2⟩; have HM7 := hide k1; have HB7 := hide ((unhide HB6).trans k2); clear k1 k2)
    clear HARM HM6 HB6
    have hfz : mdFeed AX n 0 = AX := rfl
    have hfs : ∀ k, mdFeed AX n (k + 1) = mdS (mdFeed AX n k) (n + k + 1) := fun _ => rfl
    generalize mdFeed AX n = FX at HFX hfz hfs
    have HFZ := hide hfz
    have HFS := hide hfs
    clear hfz hfs
    go_wp2
    go_loopw [23] (fun i wr => ∃ k : Nat, k ≤ 2 + h ∧ i = .int .i64 ((n : Int) + 1 + k) ∧ MidAt X w.heap.size op2 (5000 + 120 * k) 0 wr v5 (FX k) ∧ Below w.heap.size w wr) (fun i _ => n + 3 + h - (intOf i).toNat)
    case atStart =>
     refine ⟨0, by omega, by simp, ?_, unhide HB7⟩
     rw [unhide HFZ]
     exact (unhide HM7).mono (by omega)
    case round =>
     obtain ⟨k, hk, rfl, hM, hB⟩ := hrel
     clear HM7 HB7
     have HM := hide hM
     have HB := hide hB
     clear hM hB
     by_cases hlt : k < 2 + h
     ·have hji : (n : Int) + 1 + (k : Int) ≤ (n : Int) + 2 + (h : Int) := by omega
      have HDT : ∀ y, Hid (Calls Tryz.prog 40 #[.int .i64 1, .int .i64 ((n : Int) + 1 + k)] y fun r z => ∃ v, r = .returned v ∧ Owns y.heap.size z v (dlB (n + k + 1)) ∧ Below y.heap.size y z) := fun y => by
       have e : ((n : Int) + 1 + k) = ((n + k + 1 : Nat) : Int) := by omega
       rw [e]
       exact data_any _ y (by omega) (by omega)
      have HKB := hide hlt
      go_upto_region 33 with (first
       | (go_at_call 40; refine (unhide (HDT _)).mono ?_; rintro r y1 ⟨dv, rfl, ho, hy⟩; have HM1 := hide ((unhide HM).below hy); have HB1 := hide ((unhide HB).trans (hy.mono (unhide HB).size)); have HFD := (unhide HM1).feed (by omega) (i := n + k + 1) (by omega) (by omega) dv (Owns.at ho); rw [← unhide HFS] at HFD; replace HFD := hide HFD; obtain ⟨dad, dcap, rfl, _⟩ := ho.shape; generalize (dlB (n + k + 1)).length = dlen at HFD ⊢; unfold ptrTo at HFD; clear ho hy)
       | (go_at_call 27; refine (unhide HFD).mono ?_; rintro r y2 ⟨lad, llen, lcap, rfl, k1, k2⟩; have HM2 := hide k1; have HB2 := hide ((unhide HB1).trans k2); clear k1 k2))
      go_wp2
      go_roundw
      case rel => exact ⟨k + 1, by omega, by go_num, (unhide HM2).mono (by omega), unhide HB2⟩
      case measure => simp [intOf]; omega
     ·have hke : k = 2 + h := by omega
      subst hke
      have hji : ¬ ((n : Int) + 1 + ((2 + h : Nat) : Int) ≤ (n : Int) + 2 + (h : Int)) := by omega
      have HLG0 := (unhide HM).log
      rw [unhide HFX] at HLG0
      have HLG := hide HLG0
      have HF := fun v y hl => hide (first_any y v (n + 2 + h) ((n : Int) + 2 + h) hl (by omega))
      have hfe : decide (((n + 2 + h : Nat) : Int) = (n : Int) + 2 + h) = true := by simp
      rw [hfe] at HF
      clear HLG0 hfe
      unfold ptrTo at HLG
      go_wp2_with (first
       | (go_at_call 32; refine (unhide HLG).mono ?_; rintro r y1 ⟨lv, rfl, k1, k2⟩; have HL1 := hide k1; have HB1 := hide ((unhide HB).trans (k2.mono (unhide HB).size)); obtain ⟨lad, lcap, rfl, _⟩ := k1; clear k2)
       | (go_at_call 41; refine (unhide (HF _ _ (unhide HL1))).mono ?_; rintro r y2 ⟨rfl, k2⟩; have HB2 := hide ((unhide HB1).trans (k2.mono (unhide HB1).size)); clear k2))
      go_ret
      exact ⟨rfl, unhide HB2⟩
   ·have HFB := hide hcr
    obtain ⟨AX, hAX⟩ : ∃ AX : Mod.Sk, AX = mdS (A (n + 2 + h)) (n + 1) := ⟨_, rfl⟩
    have HFX := hide (unhide F4)
    rw [← hAX] at HFX
    have HAX := hide hAX
    clear hAX
    go_upto_region 17 with (first
     | (go_at_call 40; refine (unhide (HDT _)).mono ?_; rintro r y1 ⟨dv, rfl, ho, hy⟩; have HM1 := hide ((unhide HM3).below hy); have HB1 := hide ((unhide HB3).trans (hy.mono (unhide HB3).size)); have HFD := (unhide HM1).ok (by omega) (i := n + 1) (by omega) (by omega) dv (Owns.at ho) (by rw [unhide F3]; have := unhide HFB; omega); rw [← unhide HAX] at HFD; replace HFD := hide HFD; obtain ⟨dad, dcap, rfl, _⟩ := ho.shape; generalize (dlB (n + 1)).length = dlen at HFD ⊢; unfold ptrTo at HFD; clear ho hy)
     | (go_at_call 27; refine (unhide HFD).mono ?_; rintro r y2 ⟨lad2, llen2, lcap2, rfl, k1, k2⟩; have HM6 := hide (k1.mono (K' := 5000) (by omega)); have HB6 := hide ((unhide HB1).trans k2); clear k1 k2))
    clear HFD HM1 HB1 HM3 HB3
    have HARM := hide ((unhide HM6).arm 0 (by omega))
    unfold ptrTo at HARM
    go_upto_region 29 with (go_at_call 35; refine (unhide HARM).mono ?_; rintro r x7 ⟨rfl, k1, k2⟩; have HM7 := hide k1; have HB7 := hide ((unhide HB6).trans k2); clear k1 k2)
    clear HARM HM6 HB6
    have hfz : mdFeed AX n 0 = AX := rfl
    have hfs : ∀ k, mdFeed AX n (k + 1) = mdS (mdFeed AX n k) (n + k + 1) := fun _ => rfl
    generalize mdFeed AX n = FX at HFX hfz hfs
    have HFZ := hide hfz
    have HFS := hide hfs
    clear hfz hfs
    go_wp2
    go_loopw [23] (fun i wr => ∃ k : Nat, k ≤ 2 + h ∧ i = .int .i64 ((n : Int) + 1 + k) ∧ MidAt X w.heap.size 1 (5000 + 120 * k) 0 wr v (FX k) ∧ Below w.heap.size w wr) (fun i _ => n + 3 + h - (intOf i).toNat)
    case atStart =>
     refine ⟨0, by omega, by simp, ?_, unhide HB7⟩
     rw [unhide HFZ]
     exact (unhide HM7).mono (by omega)
    case round =>
     obtain ⟨k, hk, rfl, hM, hB⟩ := hrel
     clear HM7 HB7
     have HM := hide hM
     have HB := hide hB
     clear hM hB
     by_cases hlt : k < 2 + h
     ·have hji : (n : Int) + 1 + (k : Int) ≤ (n : Int) + 2 + (h : Int) := by omega
      have HDT : ∀ y, Hid (Calls Tryz.prog 40 #[.int .i64 1, .int .i64 ((n : Int) + 1 + k)] y fun r z => ∃ v, r = .returned v ∧ Owns y.heap.size z v (dlB (n + k + 1)) ∧ Below y.heap.size y z) := fun y => by
       have e : ((n : Int) + 1 + k) = ((n + k + 1 : Nat) : Int) := by omega
       rw [e]
       exact data_any _ y (by omega) (by omega)
      have HKB := hide hlt
      go_upto_region 33 with (first
       | (go_at_call 40; refine (unhide (HDT _)).mono ?_; rintro r y1 ⟨dv, rfl, ho, hy⟩; have HM1 := hide ((unhide HM).below hy); have HB1 := hide ((unhide HB).trans (hy.mono (unhide HB).size)); have HFD := (unhide HM1).feed (by omega) (i := n + k + 1) (by omega) (by omega) dv (Owns.at ho); rw [← unhide HFS] at HFD; replace HFD := hide HFD; obtain ⟨dad, dcap, rfl, _⟩ := ho.shape; generalize (dlB (n + k + 1)).length = dlen at HFD ⊢; unfold ptrTo at HFD; clear ho hy)
       | (go_at_call 27; refine (unhide HFD).mono ?_; rintro r y2 ⟨lad, llen, lcap, rfl, k1, k2⟩; have HM2 := hide k1; have HB2 := hide ((unhide HB1).trans k2); clear k1 k2))
      go_wp2
      go_roundw
      case rel => exact ⟨k + 1, by omega, by go_num, (unhide HM2).mono (by omega), unhide HB2⟩
      case measure => simp [intOf]; omega
     ·have hke : k = 2 + h := by omega
      subst hke
      have hji : ¬ ((n : Int) + 1 + ((2 + h : Nat) : Int) ≤ (n : Int) + 2 + (h : Int)) := by omega
      have HLG0 := (unhide HM).log
      rw [unhide HFX] at HLG0
      have HLG := hide HLG0
      have HF := fun v y hl => hide (first_any y v (n + 2 + h) ((n : Int) + 2 + h) hl (by omega))
      have hfe : decide (((n + 2 + h : Nat) : Int) = (n : Int) + 2 + h) = true := by simp
      rw [hfe] at HF
      clear HLG0 hfe
      unfold ptrTo at HLG
      go_wp2_with (first
       | (go_at_call 32; refine (unhide HLG).mono ?_; rintro r y1 ⟨lv, rfl, k1, k2⟩; have HL1 := hide k1; have HB1 := hide ((unhide HB).trans (k2.mono (unhide HB).size)); obtain ⟨lad, lcap, rfl, _⟩ := k1; clear k2)
       | (go_at_call 41; refine (unhide (HF _ _ (unhide HL1))).mono ?_; rintro r y2 ⟨rfl, k2⟩; have HB2 := hide ((unhide HB1).trans (k2.mono (unhide HB1).size)); clear k2))
      go_ret
      exact ⟨rfl, unhide HB2⟩
end Go.Proofs.YtamafdcnbcoegaaGreat
namespace Go.Proofs.YtamafdcnbcoegaaGreat
open Go.ChangeShapes Go.WideShapes Go.ChangeAt Go.RowKit
theorem Tryz.own : ownKnob Tryz.prog.godebug = none := by kernel_rfl
theorem Tryz.laidOut : laidOutB Tryz.prog = true := by kernel_rfl
theorem strCells : Tryz.prog.cellsOf 9 = 1 := by kernel_rfl
end Go.Proofs.YtamafdcnbcoegaaGreat
namespace Go.Proofs.YtamafdcnbcoegaaGreat
open Go.ChangeShapes Go.WideShapes Go.ChangeAt Go.RowKit
theorem i64_wf {n : Int} (h : (Lit.int .i64 n).wf = true) : -9223372036854775808 ≤ n ∧ n ≤ 9223372036854775807 := by
 simp only [Lit.wf, Bool.and_eq_true, decide_eq_true_eq] at h
 rw [show IntKind.i64.min = -9223372036854775808 from by decide, show IntKind.i64.max = 9223372036854775807 from by decide] at h
 exact h
theorem open_int {H : Type} {enc : TypeId × Value → H} {w : World} {base : Nat} {spare : Nat → Bool} {held : Bool} {v : Value} {d : DataW H} {p : List MemPlace}
  (h : DataW.Trod enc Tryz.prog w base spare held 3 v d p) (hv : ∃ n, v = .int .i64 n) : ∃ n : Int, v = .int .i64 n ∧ -9223372036854775808 ≤ n ∧ n ≤ 9223372036854775807 := by
 obtain ⟨n, rfl⟩ := hv
 obtain ⟨fuel, hf⟩ := h
 have hcs : (Value.int .i64 n).cells.toList = [.int .i64 n] := rfl
 rw [hcs] at hf
 obtain ⟨c, e, _, wf⟩ := DataW.trod_int Tryz.underlying3 hf
 simp at e
 subst e
 exact ⟨n, rfl, i64_wf wf⟩
end Go.Proofs.YtamafdcnbcoegaaGreat
namespace Go.Proofs.YtamafdcnbcoegaaGreat
open Go.ChangeShapes Go.WideShapes Go.ChangeAt Go.RowKit
theorem keep_wf {n : Int} (h : (Lit.int .u64 n).wf = true) : 0 ≤ n ∧ n ≤ 18446744073709551615 := by
 simp only [Lit.wf, Bool.and_eq_true, decide_eq_true_eq] at h
 rw [show IntKind.u64.min = 0 from by decide, show IntKind.u64.max = 18446744073709551615 from by decide] at h
 exact h
theorem open_keep {H : Type} {enc : TypeId × Value → H} {w : World} {base : Nat} {spare : Nat → Bool} {held : Bool} {v : Value} {d : DataW H} {p : List MemPlace}
  (h : DataW.Trod enc Tryz.prog w base spare held 27 v d p) (hv : ∃ n, v = .int .u64 n) : ∃ n : Int, v = .int .u64 n ∧ 0 ≤ n ∧ n ≤ 18446744073709551615 := by
 obtain ⟨n, rfl⟩ := hv
 obtain ⟨fuel, hf⟩ := h
 have hcs : (Value.int .u64 n).cells.toList = [.int .u64 n] := rfl
 rw [hcs] at hf
 obtain ⟨c, e, _, wf⟩ := DataW.trod_int Tryz.underlying27 hf
 simp at e
 subst e
 exact ⟨n, rfl, keep_wf wf⟩
set_option maxRecDepth 100000 in
theorem midst_lifted {top : Nat} (C : AgentC top) (D : SinkC) (X : SinkX) (ht : 1000 ≤ top) (os : Os) (started : os.Started) (H : Type) (enc : TypeId × Value → H) :
  ReturnsInHanded {} Tryz.checked os 10 .any (Rows.midstSpec.pre6 enc Tryz.prog Tryz.f10 Rows.midstRow.domain false) (Rows.midstSpec.post enc Tryz.prog Tryz.f10 false true false false) := by
 refine returnsInHanded_of_change_sized (C := Tryz.checked) Tryz.own started (by kernel_rfl) Tryz.func10
  (ChangeSpec.witness6 (enc := enc) (C := Tryz.checked) false ⟨#[], #[.int .i64 0, .int .i64 0, .int .i64 0, .int .u64 0], []⟩ 8 (by kernel_rfl) (by kernel_rfl) (by kernel_rfl) (by kernel_rfl)) ?_
 intro W base args ds gs before hval0 hW hcnd hsz0 hholds
 have hval : ∀ (j : Nat) t v, Tryz.f10.params[j]? = some t → args[j]? = some v → Value.okWide Tryz.prog W .any base t v := hval0
 have hsz : (DataW.weightsEach Tryz.prog (Tryz.f10.params.toList ++ Rows.midstSpec.plain.varTypes Tryz.prog) (ds ++ gs)).all (· ≤ reachBytes) = true := hsz0
 have hW' := hW
 obtain ⟨p, q, hA0, hV, rfl, hfz, hnd⟩ := hW
 have hA : DataW.TrodAll enc Tryz.prog W 0 (fun _ => true) true Tryz.f10.params.toList args.toList ds p := hA0
 rw [Tryz.params10] at hA hval hsz
 obtain ⟨v0, vs0, d0, ds0, p0, q0, hargs, rfl, rfl, h0, r0⟩ := trodAll_cons hA
 obtain ⟨v1, vs1, d1, ds1, p1, q1, rfl, rfl, rfl, h1, r1⟩ := trodAll_cons r0
 obtain ⟨v2, vs2, d2, ds2, p2, q2, rfl, rfl, rfl, h2, r2⟩ := trodAll_cons r1
 obtain ⟨v3, vs3, d3, ds3, p3, q3, rfl, rfl, rfl, h3, r3⟩ := trodAll_cons r2
 obtain ⟨rfl, rfl, rfl⟩ := trodAll_nil r3
 obtain rfl : args = #[v0, v1, v2, v3] := by cases args; simp_all
 obtain ⟨rfl, rfl⟩ := trodVars_none hV
 have k0 := h0
 have k1 := h1
 have k2 := h2
 have k3 := h3
 have lt0 : ∀ x ∈ p0, x.block < W.heap.size := by obtain ⟨m, hm⟩ := k0; exact DataW.trod_lt m _ _ _ hm
 have lt1 : ∀ x ∈ p1, x.block < W.heap.size := by obtain ⟨m, hm⟩ := k1; exact DataW.trod_lt m _ _ _ hm
 have lt2 : ∀ x ∈ p2, x.block < W.heap.size := by obtain ⟨m, hm⟩ := k2; exact DataW.trod_lt m _ _ _ hm
 have lt3 : ∀ x ∈ p3, x.block < W.heap.size := by obtain ⟨m, hm⟩ := k3; exact DataW.trod_lt m _ _ _ hm
 obtain ⟨n0, rfl, hn0⟩ := open_int h0 (okWide_int Tryz.underlying3 (hval 0 3 v0 rfl rfl))
 obtain ⟨n1, rfl, hn1⟩ := open_int h1 (okWide_int Tryz.underlying3 (hval 1 3 v1 rfl rfl))
 obtain ⟨n2, rfl, hn2⟩ := open_int h2 (okWide_int Tryz.underlying3 (hval 2 3 v2 rfl rfl))
 obtain ⟨n3, rfl, hn3⟩ := open_keep h3 (okWide_int Tryz.underlying27 (hval 3 27 v3 rfl rfl))
 clear hA0 hval0 hsz0
 refine (midst_any C D X ht n0 n1 n2 n3 W hn0 hn1 hn2).mono fun e W' ⟨he, bel⟩ => ?_
 subst he
 exact ⟨_, rfl, _, _, _, [], _, [], hW', trodAll_mk1 (shut_bool Tryz.underlying4 _), (trodAll_cons_mk (Below.trod Tryz.laidOut (by kernel_rfl) (of_decide_eq_true (by kernel_rfl)) k0 bel lt0) (trodAll_cons_mk (Below.trod Tryz.laidOut (by kernel_rfl) (of_decide_eq_true (by kernel_rfl)) k1 bel lt1) (trodAll_cons_mk (Below.trod Tryz.laidOut (by kernel_rfl) (of_decide_eq_true (by kernel_rfl)) k2 bel lt2) (trodAll_cons_mk (Below.trod Tryz.laidOut (by kernel_rfl) (of_decide_eq_true (by kernel_rfl)) k3 bel lt3) trodAll_mk0)))), rfl, bel.frame _, fun h => by cases h⟩
theorem midst_holds {top : Nat} (C : AgentC top) (D : SinkC) (X : SinkX) (ht : 1000 ≤ top) : Rows.MidstSaid :=
 OpenClaim.holds_of_wide 10 Tryz.f10 rfl rfl rfl rfl rfl rfl rfl ⟨rfl, rfl, rfl, rfl, rfl⟩ rfl rfl rfl rfl rfl (by kernel_rfl) Tryz.func10 (by kernel_rfl)
  (of_decide_eq_true (by kernel_rfl)) (by unfold Func.isWrapper; rw [if_neg (by decide +kernel)]; exact ⟨rfl, rfl⟩)
  (fun os started H enc _ => midst_lifted C D X ht os started H enc)
end Go.Proofs.YtamafdcnbcoegaaGreat
namespace Go.Proofs.YtamafdcnbcoegaaGreat
open Go.RowKit
theorem takeIt_count (a : Mod.Sk) {s : Nat} (hs : s < 3) (got : List ByteArray) : (takeIt a s got).count = a.count + got.length ∧ (takeIt a s got).epoch = a.epoch := by
 refine ⟨?_, rfl⟩
 obtain rfl | rfl | rfl : s = 0 ∨ s = 1 ∨ s = 2 := by omega
 all_goals
  simp [takeIt, grown, Mod.Sk.forget, Mod.Sk.count]
  omega
theorem skAfter_count (a : Mod.Sk) {s : Nat} (hs : s < 3) (q : Nat) (b : ByteArray) : (skAfter a 3 a.epoch s q b).count = a.count + (a.commits 3 a.epoch s q b).length ∧ (skAfter a 3 a.epoch s q b).epoch = a.epoch := by
 unfold skAfter
 split
 ·rename_i h
  rw [h]
  refine ⟨?_, holdIt_epoch _ _ _ _⟩
  unfold Mod.Sk.count
  rw [holdIt_logs]
  rfl
 ·exact takeIt_count a hs _
theorem skW_says (a : Mod.Sk) (l : List UInt8) : a.count + a.epoch + skW a l ≤ (skSays a l).2.1.count + (skSays a l).2.1.epoch := by
 cases hr : Wire.reads l
 ·rw [skSays_no hr, skW_no hr]
  exact Nat.le_refl _
 ·obtain ⟨k, e, s, q, b, h1, h2, h3, h4, h5, g1, g2, g3, g4⟩ := reads_parts hr
  rw [skSays_yes hr h1 h2 h3 h4 h5, (skW_yes hr h1 h2 h3 h4 h5).1]
  unfold skReply skWr
  by_cases k1 : k = 1
  ·simp only [if_pos k1]
   by_cases hlt : (e : Int) < a.epoch
   ·simp only [if_pos hlt]
    exact Nat.le_refl _
   ·simp only [if_neg hlt]
    have hE : (e : Int).toNat = e := by omega
    rw [hE]
    have h1 : (helloIt a e).epoch = e := rfl
    have h2 : (helloIt a e).count = a.count := rfl
    rw [h1, h2]
    unfold hiW
    split <;> omega
  ·simp only [if_neg k1]
   by_cases k3 : k = 3
   ·simp only [if_pos k3]
    by_cases he : (e : Int) = a.epoch
    ·simp only [if_pos he]
     subst k3
     rw [he]
     obtain ⟨c1, c2⟩ := skAfter_count a g2 q b
     rw [c1, c2]
     omega
    ·simp only [if_neg he]
     exact Nat.le_refl _
   ·simp only [if_neg k3]
    exact Nat.le_refl _
def CsY (w : World) (v : Nat) (a : Mod.Sk) (U : Nat → Prop) : Prop := ∃ ct, CxAt 1 ct 0 w v a U ∧ ct ≤ 1 + (a.count + a.epoch)
theorem csY_deliver {w : World} {v : Nat} {a : Mod.Sk} {U : Nat → Prop} (bs : Value) (l : List UInt8) (h : CsY w v a U) (G : SkGood a) (hat : BytesAt w bs l) :
  Calls Tryz.prog 27 #[ptrTo v, bs] w fun r w' =>
   ∃ lv fs U', r = .returned (.tuple #[lv, .int .i64 (skSays a l).1]) ∧ FramesOut w.heap.size w' lv fs (skSays a l).2.2 U' ∧ CsY w' v (skSays a l).2.1 U' ∧ Far U w w' ∧ ∀ k, U' k → U k ∨ w.heap.size ≤ k := by
 obtain ⟨ct, h1, h2⟩ := h
 have g1 := G.room
 have g2 := G.ep
 have hw := skW_says a l
 refine (cxDeliver_ok bs l h1 (by omega) G hat (.inl rfl)).mono ?_
 rintro r y ⟨lv, fs, U', rfl, m1, m2, m3, m4⟩
 rw [Nat.zero_sub] at m2
 exact ⟨lv, fs, U', rfl, m1, ⟨_, m2, by omega⟩, m3, m4⟩
def theSinkY : SinkC where
 At := CsY
 lt := fun ⟨_, h, _⟩ => cxAt_lt h
 far := fun ⟨ct, h, hc⟩ hF hE => ⟨ct, cxAt_far h hF hE, hc⟩
 deliver := csY_deliver
 epoch := fun ⟨_, h, _⟩ => (cxEpoch h).mono fun _ _ ⟨e, e2⟩ => ⟨e, by rw [e2]; exact Below.refl _ _⟩
 log := fun i ⟨_, h, _⟩ _ => cxLog i h
 opened := fun bs hat => (cxOpen_zero bs hat).mono fun _ _ ⟨v, U, e, h, hb, hn⟩ => ⟨v, U, e, ⟨1, h, by omega⟩, hb, hn⟩
end Go.Proofs.YtamafdcnbcoegaaGreat
