/-
  Part 7 of a proof: T5, T6, T7, T8, T9.
-/
import Derived.Test.YtamafdcnbcoegaaGreatTk6
namespace Go.Proofs.YtamafdcnbcoegaaGreat
open Go.RowKit

theorem share {P G : Prop} (h : P → G) (k : P) : G := h k

set_option maxRecDepth 100000 in
set_option maxHeartbeats 40000000 in
theorem taken_any (C : SinkC) (A : Nat → Nat → Prop) (w : World) (wb : Nat) (as_ ss hv : Value) (hs : List Nat) (kd nn i : Int) (s : ByteArray) (kp fk fe fst fq : Int) (fb : ByteArray) (q sv rp : Nat) (a : Mod.Sk) (r : SRest) (lv : Nat → Value) (hk : Value) (U : Nat → Prop) (left : Int)
    (H : WorldAt A w wb as_ ss hv hs) (P : PairAt C w q sv rp a r lv hk U left) (hA : ∀ b o, A b o → b < w.heap.size ∧ ¬ Us wb hv b ∧ ¬ PairU q rp lv hk U b) (hPU : ∀ k, PairU q rp lv hk U k → ¬ Us wb hv k) (zs : s.size ≤ 140737488353980) (zh : hs.length + 12 ≤ 17592186044416) :
    Calls Tryz.prog 125 #[ptrTo wb, ptrTo q, opVal kd nn i s kp fk fe fst fq fb] w fun x w' => x = .returned (.bool true) ∧ TakenAt C A w w' wb q sv rp as_ ss hv (skSays a s.data.toList).2.1 r lv hk U (hs.length + 12) := by
  obtain ⟨n8, hn⟩ : ∃ n8 : Nat, s.size + 8 = n8 := ⟨_, rfl⟩
  have HL := fun w O e h => hide (lent_lay s w O e n8 hn zs h)
  have HP := hide P
  have HH := hide H
  have HN := hide hn
  have hn0 : ¬ n8 = 0 := by omega
  have hle : s.size ≤ n8 := by omega
  have hlei : (s.size : Int) ≤ n8 := by omega
  have q0 : ∀ x : World, Below w.heap.size w x → x.cell? ⟨q, 0, none⟩ = some (ptrTo sv) := fun x hb => by
    rw [hb.cell (p := ⟨q, 0, none⟩) (lt_of_block P.blk)]
    exact blk_cell (i := 0) P.blk
  have HD := fun x (hx : Below w.heap.size w x) (bs : Value) (hb : BytesAt x bs s.data.toList) => hide (C.deliver bs s.data.toList (P.far (far_below (E := fun _ => False) hx) (fun _ _ h => h)).prog P.good hb)
  have HQ := hide q0
  have HAA := hide hA
  have HPU := hide hPU
  obtain ⟨k1, e1, s1, q1, b1, hrv⟩ := readVal_shape s.data.toList
  have HR := fun w' => hide (refRead_any s w' (by omega))
  rw [hrv] at HR
  have HRV := hide hrv
  clear P H hn q0 hA hPU hrv
  unfold ptrTo at *
  unfold opVal
  go_enter Tryz.func125, Tryz.ntmps125
  go_upto_region 1 with fail
  go_upto_region 2 with (go_at_call 77; refine (unhide (HL _ _ _ (by simp))).mono ?_; rintro r1 w1 ⟨g, rfl, L1⟩; have LL1 := hide L1; clear L1)
  refine wp_region_cut (by kernel_rfl)
    [fun v _ => v = .pointer (some ⟨q, 0, none⟩), fun v _ => v = .pointer (some ⟨q, 0, none⟩), fun v _ => v = .pointer (some ⟨q, 0, none⟩), fun v _ => v = .pointer (some ⟨sv, 0, none⟩), fun v _ => v = .slice (some ⟨g, 0, none⟩) n8 n8, fun v _ => v = .pointer (some ⟨w.heap.size, 3, none⟩), fun v _ => v = .string s, fun v _ => v = .int .i64 s.size, fun v _ => v = .slice (some ⟨g, 0, none⟩) s.size n8, fun _ _ => True, fun _ _ => True, fun _ _ => True, fun _ _ => True, fun _ _ => True, fun _ _ => True]
    [[(1, none)], [(22, some 0)], [(23, some 1)], [(24, some 2)], [(7, none)], [(5, none)], [(27, some 5)], [(28, some 6)], [(26, some 4), (29, some 7)], [(25, some 3), (30, some 8)], [(31, some 9)], [(21, some 10)], [(21, some 10)], [(32, some 11)], [(33, some 12)]]
    [some 22, some 23, some 24, some 25, some 26, some 27, some 28, some 29, some 30, some 31, some 21, some 32, some 33, some 8, some 9]
    [false, false, false, false, false, false, false, false, true, true, false, false, false, false, false, false, false, false, false, false, false, true, true, true, true, true, true, true, true, true, true, true, true, true, false, false, false, false, false, false, false, false, false, false, false, false, false, false, false, false, false, false, false, false, false, false, false, false, false, false, false, false, false, false, false, false, false, false, false, false, false, false, false, false, false, false, false, false, false, false, false, false, false, false, false, false, false, false, false, false, false, false, false, false, false, false, false, false, false, false, false, false, false, false, false, false, false, false, false, false, false, false, false, false, false, false, false, false, false, false, false, false, false, false, false, false, false, false, false, false, false, false, false, false, false, false, false, false, false, false, false, false, false, false, false, false, false]
    9 _ rfl (Nat.le_of_ble_eq_true (n := 10) (by kernel_rfl)) (by kernel_rfl) (by kernel_rfl) (by kernel_rfl) (by kernel_rfl) (by kernel_rfl) (by kernel_rfl) ?_ ?_ ?_ ?_
  · repeat' (first | exact stable_eq _ | exact stable_true | exact trivial | apply And.intro)
  · refine ⟨?_, ?_, ?_, ?_, ?_, ?_, ?_, ?_, ?_, trivial⟩
    all_goals
      intro b x hb hf
      have y0 := (unhide HQ) x ((unhide LL1).bel.trans (hb.mono (unhide LL1).bel.size))
      have y1 := (hb.cell (p := ⟨w.heap.size, 3, none⟩) (by have := (unhide LL1).lt; have := (unhide LL1).glt; show w.heap.size < _; omega)).trans (unhide LL1).s3
      clear hb
      simp only [PlanFacts, List.getD_cons_zero, List.getD_cons_succ, Array.getD_eq_getD_getElem?] at hf
      try simp at hf
      try go_simp
      try exact Below.refl _ _
    all_goals first | exact ⟨rfl, Below.refl _ _⟩ | skip
  · intro f x hwd
    rfl
  · intro f x2 hb hwd
    simp only [AllWords, List.take] at hwd
    obtain ⟨_, _, _, hf25, _, _, _, _, hf30, _⟩ := hwd
    simp only [mergeT, hf25, hf30]
    go_simp
    have hL2 := hide ((unhide LL1).below hb)
    have hb2 := hide ((unhide LL1).bel.trans (hb.mono (unhide LL1).bel.size))
    clear hb
    refine (unhide (HD x2 (unhide hb2) _ ((unhide hL2).at (unhide HN) zs))).mono ?_
    rintro r' x3 ⟨fv, fs, U', rfl, hO, hA, hF, hNew⟩
    intro fuel hfu
    obtain ⟨n, rfl⟩ : ∃ n, fuel = n + 5 := ⟨fuel - 5, by omega⟩
    apply share
    · intro KEY
      refine wpAny_one (i := 10) (by kernel_rfl) rfl rfl ?_
      go_simp
      refine wpAny_two (i := 11) (j := 12) (by kernel_rfl) rfl rfl rfl rfl ?_ ?_
      · go_simp
        refine wpAny_two (i := 12) (j := 13) (by kernel_rfl) rfl rfl rfl rfl ?_ ?_
        · go_simp
          refine wpAny_one (i := 13) (by kernel_rfl) rfl rfl ?_
          go_simp
          refine wpAny_one (i := 14) (by kernel_rfl) rfl rfl ?_
          go_simp
          refine wpAny_end (by kernel_rfl) ?_
          exact KEY
        · go_simp
          refine wpAny_one (i := 12) (by kernel_rfl) rfl rfl ?_
          go_simp
          refine wpAny_one (i := 14) (by kernel_rfl) rfl rfl ?_
          go_simp
          refine wpAny_end (by kernel_rfl) ?_
          exact KEY
      · go_simp
        refine wpAny_one (i := 11) (by kernel_rfl) rfl rfl ?_
        go_simp
        refine wpAny_one (i := 13) (by kernel_rfl) rfl rfl ?_
        go_simp
        refine wpAny_one (i := 14) (by kernel_rfl) rfl rfl ?_
        go_simp
        refine wpAny_end (by kernel_rfl) ?_
        exact KEY
    · have T3 := hide (TL.start (unhide HP) (unhide hL2) hO hA hF hNew)
      have hfw := hide hF.size
      clear hO hA hF hNew hL2 LL1 HL HD hb2 HQ
      obtain ⟨er, her⟩ : ∃ er, er = (skSays a s.data.toList).1 := ⟨_, rfl⟩
      rw [← her]
      have HER := hide her
      clear her
      go_upto_region 3 with fail
      refine wp_world (fun x => TL C w x q sv rp a (skSays a s.data.toList).2.1 r lv hk U U' left s g n8 x2.heap.size fv fs (skSays a s.data.toList).2.2) (unhide T3) ?_
      clear T3
      intro x4 T4
      have s3 := T4.s3
      have TT4 := hide T4
      clear T4
      go_upto_region 4 with (go_at_call 117; refine (unhide (HR _)).mono ?_; rintro r5 x5 ⟨rfl, hb5⟩; have T5 := hide ((unhide TT4).below hb5); clear hb5)
      have FX : Hid (w.heap.size ≤ x5.heap.size ∧ x5.heap.size ≠ g ∧ ¬ U' x5.heap.size ∧ x5.heap.size ≠ q) :=
        ⟨(unhide T5).far.size, by have := (unhide T5).gB; have := (unhide T5).bx; omega, fun h => by have := C.lt (unhide T5).prog _ h; omega, by have := lt_of_block (unhide T5).blk; omega⟩
      refine wp_world (fun x => TL C w x q sv rp a (skSays a s.data.toList).2.1 r lv hk U U' left s g n8 x2.heap.size fv fs (skSays a s.data.toList).2.2 ∧ FrBox x x5.heap.size k1 e1 s1 q1 b1 ∧ x5.heap.size < x.heap.size)
        ⟨(unhide T5).below ((Below.refl _ _).alloc (Nat.le_refl _) _), frBox_new _ _ _ _ _ _ _, by simp⟩ ?_
      clear T5 TT4 s3 HR
      generalize x5.heap.size = f at FX ⊢
      rintro x6 ⟨T6, hbx6, hfl6⟩
      have s3 := T6.s3
      have BT := hide (T6.bat (unhide HN))
      have TT6 := hide T6
      have BX6 := hide hbx6
      have FL6 := hide hfl6
      clear T6 hbx6 hfl6
      go_upto_region 5 with (go_at_call 79; refine (still_any _ _ s x6 (unhide BT) (by omega)).mono ?_; rintro r7 w7 ⟨rfl, nq, rfl⟩)
      refine wp_world (fun x => TL C w x q sv rp a (skSays a s.data.toList).2.1 r lv hk U U' left s g n8 x2.heap.size fv fs (skSays a s.data.toList).2.2 ∧ FrBox x f k1 e1 s1 q1 b1 ∧ f < x.heap.size)
        ⟨(unhide TT6).below (below_drewN (Below.refl _ _) _), (unhide BX6).below (C := x6.heap.size) (below_drewN (Below.refl _ _) _) (unhide FL6), unhide FL6⟩ ?_
      clear TT6 BX6 FL6 BT s3
      rintro x7 ⟨T7, hbx7, hfl7⟩
      have TT7 := hide T7
      have BX7 := hide hbx7
      have FL7 := hide hfl7
      have HK := hide (keepAll_any A (x7.alloc (.cells #[.slice none 0 0, .slice (some ⟨g, 0, none⟩) n8 n8, .slice none 0 0, .int .i64 0, .string ⟨#[]⟩, .string ⟨#[]⟩] 110)) wb x7.heap.size as_ ss hv (.slice none 0 0) (.slice (some ⟨g, 0, none⟩) n8 n8) (.slice none 0 0) hs [] [] (lentL s)
        (T7.world (unhide HH) (unhide HAA) (unhide HPU) _) (heap_alloc_new x7 _) (World.ownsRow_nil _ _ _ _) (by rw [lentL_length, unhide HN]; exact T7.own.alloc _) (World.ownsRow_nil _ _ _ _) (T7.keepA (unhide HAA) _) (by omega) (by rw [lentL_length]; omega) (by simp) (by simp))
      unfold ptrTo at HK
      clear T7 hbx7 hfl7
      go_upto_region 6 with (go_at_call 76; refine (unhide HK).mono ?_; rintro r8 x8 ⟨rfl, hv2, hs2, hn2, W8, F8, L8⟩; have M8 := hide (TM.start (unhide HP) (unhide TT7) (unhide HH) (unhide HAA) (unhide HPU) (unhide BX7) (unhide FL7) (unhide FX).1 (unhide FX).2.1 (unhide FX).2.2.1 W8 F8 L8); have HN2 := hide hn2; clear W8 F8 L8 hn2)
      clear HK TT7 BX7 FL7
      generalize hA2 : (fun b o => (b < x8.heap.size ∧ ¬ Us wb hv2 b) ∧ (A b o ∨ b = x7.heap.size ∨ ((Value.slice none 0 0).ownBlock = some b ∨ (Value.slice (some ⟨g, 0, none⟩) n8 n8).ownBlock = some b ∨ (Value.slice none 0 0).ownBlock = some b) ∨ _)) = A2 at M8
      clear hA2
      have hd := hide (unhide HP).dead
      have c1 := blk_cell (i := 1) (unhide M8).blk
      have d1 := blk_cell (i := 1) (unhide M8).ref.blk
      have d0 := blk_cell (i := 0) (unhide M8).ref.blk
      simp [skCells] at c1 d1 d0
      rw [unhide hd] at d1
      have GG := hide (unhide HP).good
      have SM := hide (skSays_small a s.data.toList)
      cases hr : Wire.reads s.data.toList
      · have hS : skSays a s.data.toList = (1, a, []) := by unfold skSays; rw [hr]; rfl
        rw [hS] at M8 HER SM
        have HS := hide hS
        have e1' := unhide HER
        simp only at e1'
        subst e1'
        clear hS HER
        have KS := hide ((unhide M8).same (unhide hd) (unhide GG) (.slice none 0 0) (listAt_own (B := 0) (World.ownsRow_nil _ _ 9 _)) (unhide SM) (unhide HN2) zh)
        clear M8 HP HH HAA HPU GG SM
        unfold ptrTo at *
        go_upto_region 22 with fail
        go_wp2_with (go_at_call 120; refine (unhide KS).mono ?_; rintro r9 x9 ⟨rfl, KT⟩)
        go_ret
        rw [unhide HS]
        exact ⟨rfl, KT⟩
      · have hv := unhide HRV
        rw [readVal_yes hr] at hv
        unfold frVal at hv
        simp only [Value.agg.injEq, Array.mk.injEq, List.cons.injEq, Value.int.injEq, Value.string.injEq, true_and, and_true] at hv
        obtain ⟨hk1, he1, hs1, hq1, hb1⟩ := hv
        have hp := hr
        unfold Wire.reads at hp
        rw [Bool.and_eq_true] at hp
        have hp2 := proper_small hp.2
        rw [hk1, he1, hs1, hq1, hb1] at hp2
        clear hp
        obtain ⟨sn, rfl⟩ : ∃ sn : Nat, s1 = sn := ⟨s1.toNat, by omega⟩
        obtain ⟨qn, rfl⟩ : ∃ qn : Nat, q1 = qn := ⟨q1.toNat, by omega⟩
        have hS : skSays a s.data.toList = (0, skReply a k1 e1 sn qn b1) := by
          unfold skSays
          rw [hr, hk1, he1, hs1, hq1, hb1]
          rfl
        rw [hS] at M8 HER SM
        have HS := hide hS
        have e1' := unhide HER
        simp only at e1'
        subst e1'
        have HP2 := hide hp2
        clear hS HER hk1 he1 hs1 hq1 hb1 HRV hr hp2 HP HH HAA HPU
        have GR := hide (skGood_reply (unhide GG) k1 e1 sn qn b1 (by have := (unhide HP2).2.2.1; omega) (unhide HP2).2.1.2)
        have hql := lt_of_block (unhide M8).blk
        have hfl := (unhide M8).fl
        obtain ⟨b0, b1', b2, b3, b4⟩ := (unhide M8).box
        unfold ptrTo at *
        obtain ⟨cn, hcn⟩ : ∃ cn, cn = (a.commits k1 e1 sn qn b1).length := ⟨_, rfl⟩
        have HC : ∀ x, Below x8.heap.size x8 x → Hid (Calls Tryz.prog 178 #[.pointer (some ⟨rp, 0, none⟩), .agg #[.int .i64 k1, .int .i64 e1, .int .i64 sn, .int .i64 qn, .string b1]] x fun e x' => (∃ v, e = .returned v ∧ ∃ ad cap, v = .slice ad cn cap) ∧ Below x.heap.size x x') := fun x hb => by
          refine hide ((commits_any ((unhide M8).below hb).ref k1 e1 sn qn b1 (by have := (unhide HP2).2.2.1; omega)).mono ?_)
          rintro e x' ⟨v, n, rfl, h, hb2⟩
          obtain ⟨ad, cap, hv, _⟩ := listAt_own h
          rw [strs_length, ← hcn] at hv
          exact ⟨⟨v, rfl, ad, cap, hv⟩, hb2⟩
        clear hcn
        go_upto_region 8 with fail
        refine wp_region_frame (by kernel_rfl)
          [fun v _ => v = .pointer (some ⟨q, 0, none⟩), fun v _ => v = .pointer (some ⟨q, 0, none⟩), fun v _ => v = .pointer (some ⟨q, 1, none⟩), fun v _ => v = .pointer (some ⟨rp, 0, none⟩), fun v _ => v = .agg #[.int .i64 k1, .int .i64 e1, .int .i64 sn, .int .i64 qn, .string b1], fun v _ => ∃ ad cap, v = .slice ad cn cap, fun v _ => ∃ ad cap, v = .slice ad cn cap]
          [[(1, none)], [(49, some 0)], [(50, some 1)], [(51, some 2)], [(10, none)], [(52, some 3), (53, some 4)], [(54, some 5)]]
          [some 49, some 50, some 51, some 52, some 53, some 54, some 15]
          [false, false, false, false, false, false, false, false, false, false, false, false, false, false, false, true, false, false, false, false, false, false, false, false, false, false, false, false, false, false, false, false, false, false, false, false, false, false, false, false, false, false, false, false, false, false, false, false, false, true, true, true, true, true, true, false, false, false, false, false, false, false, false, false, false, false, false, false, false, false, false, false, false, false, false, false, false, false, false, false, false, false, false, false, false, false, false, false, false, false, false, false, false, false, false, false, false, false, false, false, false, false, false, false, false, false, false, false, false, false, false, false, false, false, false, false, false, false, false, false, false, false, false, false, false, false, false, false, false, false, false, false, false, false, false, false, false, false, false, false, false, false, false, false, false, false, false]
          (by kernel_rfl) (by kernel_rfl) (by kernel_rfl) (by kernel_rfl) ?_ ?_ ?_
        · repeat' (first | exact stable_eq _ | exact stable_true | exact (fun _ _ _ h _ => h) | exact trivial | apply And.intro)
        · refine ⟨?_, ?_, ?_, ?_, ?_, ?_, ?_, trivial⟩
          all_goals
            intro b x hb hf
            have y1 := (hb.cell (p := ⟨q, 1, none⟩) hql).trans c1
            have z0 := (hb.cell (p := ⟨f, 0, none⟩) hfl).trans b0
            have z1 := (hb.cell (p := ⟨f, 1, none⟩) hfl).trans b1'
            have z2 := (hb.cell (p := ⟨f, 2, none⟩) hfl).trans b2
            have z3 := (hb.cell (p := ⟨f, 3, none⟩) hfl).trans b3
            have z4 := (hb.cell (p := ⟨f, 4, none⟩) hfl).trans b4
            have HCx := HC x hb
            clear hb
            simp only [PlanFacts, List.getD_cons_zero, List.getD_cons_succ, Array.getD_eq_getD_getElem?] at hf
            try simp at hf
            try (obtain ⟨had, hcap, hf⟩ : ∃ ad cap, _ = Value.slice ad cn cap := hf)
            try go_simp
            try exact Below.refl _ _
          all_goals first
            | exact ⟨_, rfl, Below.refl _ _, _, _, rfl⟩
            | exact ⟨rfl, Below.refl _ _⟩
            | (refine (unhide HCx).mono ?_; rintro e x' ⟨⟨v, rfl, ad, cap, rfl⟩, hb2⟩; exact ⟨_, rfl, hb2, ad, cap, rfl⟩)
            | skip
        · intro f8 x9 hb hwd
          simp only [AllWords] at hwd
          have hf15 := hwd.2.2.2.2.2.2.1
          have M9 := hide ((unhide M8).below hb)
          clear hwd hb M8 HC c1 d1 d0 b0 b1' b2 b3 b4 hql hfl
          have hql := lt_of_block (unhide M9).blk
          have hfl := (unhide M9).fl
          have c1 := blk_cell (i := 1) (unhide M9).blk
          have d1 := blk_cell (i := 1) (unhide M9).ref.blk
          have d0 := blk_cell (i := 0) (unhide M9).ref.blk
          simp [skCells, ptrTo] at c1 d1 d0
          obtain ⟨b0, b1', b2, b3, b4⟩ := (unhide M9).box
          obtain ⟨cad, ccap, hf15⟩ := hf15
          simp only [mergeT, hf15]
          go_simp
          by_cases hc : 0 < cn
          · have hci : (0 : Int) < cn := by omega
            go_upto_region 9 with fail
            go_quiet (fail)
            go_upto_region 11 with (go_at_call 171; refine (wrote_any _ q sv rp left (by first | exact (unhide M9).blk | simpa using (unhide M9).blk)).mono ?_; rintro r10 x10 ⟨rfl, left', rfl⟩)
            go_upto_region 12 with fail
            refine wp_world (fun x => ∃ left', TM C A A2 w x wb q sv rp as_ ss hv hv2 hs2 a (skReply a k1 e1 sn qn b1).1 r lv lv hk hk U U' left' x2.heap.size f k1 e1 sn qn b1 fv fs (skReply a k1 e1 sn qn b1).2) (by first | exact ⟨_, (unhide M9).wrote (unhide FX).2.2.2 _⟩ | exact ⟨_, (TM.below (unhide M9) (below_drewN (Below.refl _ _) _)).wrote (unhide FX).2.2.2 _⟩) ?_
            clear M9 c1 d1 d0 b0 b1' b2 b3 b4 hql hfl
            try clear hee
            try clear hk2
            try clear hk1
            try clear hci
            rintro x11 ⟨left', T11⟩
            have hql := lt_of_block T11.blk
            have hfl := T11.fl
            have c1 := blk_cell (i := 1) T11.blk
            simp [ptrTo] at c1
            obtain ⟨b0, b1', b2, b3, b4⟩ := T11.box
            have M11 := hide T11
            clear T11
            refine wp_region_cut (by kernel_rfl)
              [fun v _ => v = .pointer (some ⟨q, 0, none⟩), fun v _ => v = .pointer (some ⟨q, 0, none⟩), fun v _ => v = .pointer (some ⟨q, 1, none⟩), fun v _ => v = .pointer (some ⟨rp, 0, none⟩), fun v _ => v = .agg #[.int .i64 k1, .int .i64 e1, .int .i64 sn, .int .i64 qn, .string b1], fun _ _ => True, fun _ _ => True]
              [[(1, none)], [(83, some 0)], [(84, some 1)], [(85, some 2)], [(10, none)], [(86, some 3), (87, some 4)], [(88, some 5)]]
              [some 83, some 84, some 85, some 86, some 87, some 88, some 13]
              [false, false, false, false, false, false, false, false, false, false, false, false, false, true, false, false, false, false, false, false, false, false, false, false, false, false, false, false, false, false, false, false, false, false, false, false, false, false, false, false, false, false, false, false, false, false, false, false, false, false, false, false, false, false, false, false, false, false, false, false, false, false, false, false, false, false, false, false, false, false, false, false, false, false, false, false, false, false, false, false, false, false, false, true, true, true, true, true, true, false, false, false, false, false, false, false, false, false, false, false, false, false, false, false, false, false, false, false, false, false, false, false, false, false, false, false, false, false, false, false, false, false, false, false, false, false, false, false, false, false, false, false, false, false, false, false, false, false, false, false, false, false, false, false, false, false, false]
              5 _ rfl (Nat.le_of_ble_eq_true (n := 6) (by kernel_rfl)) (by kernel_rfl) (by kernel_rfl) (by kernel_rfl) (by kernel_rfl) (by kernel_rfl) (by kernel_rfl) ?_ ?_ ?_ ?_
            · repeat' (first | exact stable_eq _ | exact stable_true | exact trivial | apply And.intro)
            · refine ⟨?_, ?_, ?_, ?_, ?_, trivial⟩
              all_goals
                intro b x hb hf
                have y1 := (hb.cell (p := ⟨q, 1, none⟩) hql).trans c1
                have z0 := (hb.cell (p := ⟨f, 0, none⟩) hfl).trans b0
                have z1 := (hb.cell (p := ⟨f, 1, none⟩) hfl).trans b1'
                have z2 := (hb.cell (p := ⟨f, 2, none⟩) hfl).trans b2
                have z3 := (hb.cell (p := ⟨f, 3, none⟩) hfl).trans b3
                have z4 := (hb.cell (p := ⟨f, 4, none⟩) hfl).trans b4
                clear hb
                simp only [PlanFacts, List.getD_cons_zero, List.getD_cons_succ, Array.getD_eq_getD_getElem?] at hf
                try simp at hf
                try go_simp
                try exact Below.refl _ _
              all_goals first | exact ⟨rfl, Below.refl _ _⟩ | skip
            · intro f9 x9 hwd
              rfl
            · intro f9 x12 hb hwd
              simp only [AllWords, List.take] at hwd
              obtain ⟨_, _, _, hf86, hf87, _⟩ := hwd
              have M12 := hide (TM.below (unhide M11) hb)
              clear hb M11 c1 b0 b1' b2 b3 b4 hql hfl
              simp only [mergeT, hf86, hf87]
              go_simp
              refine (skDeliver_any (unhide M12).ref (unhide GG) k1 e1 sn qn b1 (unhide HP2).2.1.1 (unhide HP2).2.1.2 (by have := (unhide HP2).2.2.1; omega) (by have := (unhide HP2).2.2.2.1; omega)).mono ?_
              rintro r13 x13 ⟨wv, rfl, hown, hst⟩
              obtain ⟨lvd, hkd, T13⟩ := (unhide M12).step hst
              have KS := hide (T13.same (unhide hd) (unhide GR) wv (listAt_own hown) (unhide SM) (unhide HN2) zh)
              clear M12 hown hst T13
              intro fuel hfu
              obtain ⟨m, rfl⟩ : ∃ m, fuel = m + 1 := ⟨fuel - 1, by omega⟩
              refine wpAny_one (i := 6) (by kernel_rfl) rfl rfl ?_
              go_simp
              refine wpAny_end (by kernel_rfl) ?_
              unfold ptrTo at KS
              go_upto_region 22 with fail
              go_wp2_with (go_at_call 120; refine (unhide KS).mono ?_; rintro r14 x14 ⟨rfl, KT⟩)
              go_ret
              rw [unhide HS]
              exact ⟨rfl, KT⟩
          · have hci : ¬ (0 : Int) < cn := by omega
            by_cases hk1 : k1 = 1
            · have hk2 : (k1 == 1) = true := by simp [hk1]
              by_cases hee : (a.epoch : Int) < e1
              · go_upto_region 9 with fail
                go_quiet (fail)
                go_upto_region 11 with (go_at_call 171; refine (wrote_any _ q sv rp left (by first | exact (unhide M9).blk | simpa using (unhide M9).blk)).mono ?_; rintro r10 x10 ⟨rfl, left', rfl⟩)
                go_upto_region 12 with fail
                refine wp_world (fun x => ∃ left', TM C A A2 w x wb q sv rp as_ ss hv hv2 hs2 a (skReply a k1 e1 sn qn b1).1 r lv lv hk hk U U' left' x2.heap.size f k1 e1 sn qn b1 fv fs (skReply a k1 e1 sn qn b1).2) (by first | exact ⟨_, (unhide M9).wrote (unhide FX).2.2.2 _⟩ | exact ⟨_, (TM.below (unhide M9) (below_drewN (Below.refl _ _) _)).wrote (unhide FX).2.2.2 _⟩) ?_
                clear M9 c1 d1 d0 b0 b1' b2 b3 b4 hql hfl
                try clear hee
                try clear hk2
                try clear hk1
                try clear hci
                rintro x11 ⟨left', T11⟩
                have hql := lt_of_block T11.blk
                have hfl := T11.fl
                have c1 := blk_cell (i := 1) T11.blk
                simp [ptrTo] at c1
                obtain ⟨b0, b1', b2, b3, b4⟩ := T11.box
                have M11 := hide T11
                clear T11
                refine wp_region_cut (by kernel_rfl)
                  [fun v _ => v = .pointer (some ⟨q, 0, none⟩), fun v _ => v = .pointer (some ⟨q, 0, none⟩), fun v _ => v = .pointer (some ⟨q, 1, none⟩), fun v _ => v = .pointer (some ⟨rp, 0, none⟩), fun v _ => v = .agg #[.int .i64 k1, .int .i64 e1, .int .i64 sn, .int .i64 qn, .string b1], fun _ _ => True, fun _ _ => True]
                  [[(1, none)], [(83, some 0)], [(84, some 1)], [(85, some 2)], [(10, none)], [(86, some 3), (87, some 4)], [(88, some 5)]]
                  [some 83, some 84, some 85, some 86, some 87, some 88, some 13]
                  [false, false, false, false, false, false, false, false, false, false, false, false, false, true, false, false, false, false, false, false, false, false, false, false, false, false, false, false, false, false, false, false, false, false, false, false, false, false, false, false, false, false, false, false, false, false, false, false, false, false, false, false, false, false, false, false, false, false, false, false, false, false, false, false, false, false, false, false, false, false, false, false, false, false, false, false, false, false, false, false, false, false, false, true, true, true, true, true, true, false, false, false, false, false, false, false, false, false, false, false, false, false, false, false, false, false, false, false, false, false, false, false, false, false, false, false, false, false, false, false, false, false, false, false, false, false, false, false, false, false, false, false, false, false, false, false, false, false, false, false, false, false, false, false, false, false, false]
                  5 _ rfl (Nat.le_of_ble_eq_true (n := 6) (by kernel_rfl)) (by kernel_rfl) (by kernel_rfl) (by kernel_rfl) (by kernel_rfl) (by kernel_rfl) (by kernel_rfl) ?_ ?_ ?_ ?_
                · repeat' (first | exact stable_eq _ | exact stable_true | exact trivial | apply And.intro)
                · refine ⟨?_, ?_, ?_, ?_, ?_, trivial⟩
                  all_goals
                    intro b x hb hf
                    have y1 := (hb.cell (p := ⟨q, 1, none⟩) hql).trans c1
                    have z0 := (hb.cell (p := ⟨f, 0, none⟩) hfl).trans b0
                    have z1 := (hb.cell (p := ⟨f, 1, none⟩) hfl).trans b1'
                    have z2 := (hb.cell (p := ⟨f, 2, none⟩) hfl).trans b2
                    have z3 := (hb.cell (p := ⟨f, 3, none⟩) hfl).trans b3
                    have z4 := (hb.cell (p := ⟨f, 4, none⟩) hfl).trans b4
                    clear hb
                    simp only [PlanFacts, List.getD_cons_zero, List.getD_cons_succ, Array.getD_eq_getD_getElem?] at hf
                    try simp at hf
                    try go_simp
                    try exact Below.refl _ _
                  all_goals first | exact ⟨rfl, Below.refl _ _⟩ | skip
                · intro f9 x9 hwd
                  rfl
                · intro f9 x12 hb hwd
                  simp only [AllWords, List.take] at hwd
                  obtain ⟨_, _, _, hf86, hf87, _⟩ := hwd
                  have M12 := hide (TM.below (unhide M11) hb)
                  clear hb M11 c1 b0 b1' b2 b3 b4 hql hfl
                  simp only [mergeT, hf86, hf87]
                  go_simp
                  refine (skDeliver_any (unhide M12).ref (unhide GG) k1 e1 sn qn b1 (unhide HP2).2.1.1 (unhide HP2).2.1.2 (by have := (unhide HP2).2.2.1; omega) (by have := (unhide HP2).2.2.2.1; omega)).mono ?_
                  rintro r13 x13 ⟨wv, rfl, hown, hst⟩
                  obtain ⟨lvd, hkd, T13⟩ := (unhide M12).step hst
                  have KS := hide (T13.same (unhide hd) (unhide GR) wv (listAt_own hown) (unhide SM) (unhide HN2) zh)
                  clear M12 hown hst T13
                  intro fuel hfu
                  obtain ⟨m, rfl⟩ : ∃ m, fuel = m + 1 := ⟨fuel - 1, by omega⟩
                  refine wpAny_one (i := 6) (by kernel_rfl) rfl rfl ?_
                  go_simp
                  refine wpAny_end (by kernel_rfl) ?_
                  unfold ptrTo at KS
                  go_upto_region 22 with fail
                  go_wp2_with (go_at_call 120; refine (unhide KS).mono ?_; rintro r14 x14 ⟨rfl, KT⟩)
                  go_ret
                  rw [unhide HS]
                  exact ⟨rfl, KT⟩
              · go_upto_region 9 with fail
                go_quiet (fail)
                go_upto_region 12 with fail
                refine wp_world (fun x => ∃ left', TM C A A2 w x wb q sv rp as_ ss hv hv2 hs2 a (skReply a k1 e1 sn qn b1).1 r lv lv hk hk U U' left' x2.heap.size f k1 e1 sn qn b1 fv fs (skReply a k1 e1 sn qn b1).2) (by first | exact ⟨_, unhide M9⟩ | exact ⟨_, TM.below (unhide M9) (below_drewN (Below.refl _ _) _)⟩) ?_
                clear M9 c1 d1 d0 b0 b1' b2 b3 b4 hql hfl
                try clear hee
                try clear hk2
                try clear hk1
                try clear hci
                rintro x11 ⟨left', T11⟩
                have hql := lt_of_block T11.blk
                have hfl := T11.fl
                have c1 := blk_cell (i := 1) T11.blk
                simp [ptrTo] at c1
                obtain ⟨b0, b1', b2, b3, b4⟩ := T11.box
                have M11 := hide T11
                clear T11
                refine wp_region_cut (by kernel_rfl)
                  [fun v _ => v = .pointer (some ⟨q, 0, none⟩), fun v _ => v = .pointer (some ⟨q, 0, none⟩), fun v _ => v = .pointer (some ⟨q, 1, none⟩), fun v _ => v = .pointer (some ⟨rp, 0, none⟩), fun v _ => v = .agg #[.int .i64 k1, .int .i64 e1, .int .i64 sn, .int .i64 qn, .string b1], fun _ _ => True, fun _ _ => True]
                  [[(1, none)], [(83, some 0)], [(84, some 1)], [(85, some 2)], [(10, none)], [(86, some 3), (87, some 4)], [(88, some 5)]]
                  [some 83, some 84, some 85, some 86, some 87, some 88, some 13]
                  [false, false, false, false, false, false, false, false, false, false, false, false, false, true, false, false, false, false, false, false, false, false, false, false, false, false, false, false, false, false, false, false, false, false, false, false, false, false, false, false, false, false, false, false, false, false, false, false, false, false, false, false, false, false, false, false, false, false, false, false, false, false, false, false, false, false, false, false, false, false, false, false, false, false, false, false, false, false, false, false, false, false, false, true, true, true, true, true, true, false, false, false, false, false, false, false, false, false, false, false, false, false, false, false, false, false, false, false, false, false, false, false, false, false, false, false, false, false, false, false, false, false, false, false, false, false, false, false, false, false, false, false, false, false, false, false, false, false, false, false, false, false, false, false, false, false, false]
                  5 _ rfl (Nat.le_of_ble_eq_true (n := 6) (by kernel_rfl)) (by kernel_rfl) (by kernel_rfl) (by kernel_rfl) (by kernel_rfl) (by kernel_rfl) (by kernel_rfl) ?_ ?_ ?_ ?_
                · repeat' (first | exact stable_eq _ | exact stable_true | exact trivial | apply And.intro)
                · refine ⟨?_, ?_, ?_, ?_, ?_, trivial⟩
                  all_goals
                    intro b x hb hf
                    have y1 := (hb.cell (p := ⟨q, 1, none⟩) hql).trans c1
                    have z0 := (hb.cell (p := ⟨f, 0, none⟩) hfl).trans b0
                    have z1 := (hb.cell (p := ⟨f, 1, none⟩) hfl).trans b1'
                    have z2 := (hb.cell (p := ⟨f, 2, none⟩) hfl).trans b2
                    have z3 := (hb.cell (p := ⟨f, 3, none⟩) hfl).trans b3
                    have z4 := (hb.cell (p := ⟨f, 4, none⟩) hfl).trans b4
                    clear hb
                    simp only [PlanFacts, List.getD_cons_zero, List.getD_cons_succ, Array.getD_eq_getD_getElem?] at hf
                    try simp at hf
                    try go_simp
                    try exact Below.refl _ _
                  all_goals first | exact ⟨rfl, Below.refl _ _⟩ | skip
                · intro f9 x9 hwd
                  rfl
                · intro f9 x12 hb hwd
                  simp only [AllWords, List.take] at hwd
                  obtain ⟨_, _, _, hf86, hf87, _⟩ := hwd
                  have M12 := hide (TM.below (unhide M11) hb)
                  clear hb M11 c1 b0 b1' b2 b3 b4 hql hfl
                  simp only [mergeT, hf86, hf87]
                  go_simp
                  refine (skDeliver_any (unhide M12).ref (unhide GG) k1 e1 sn qn b1 (unhide HP2).2.1.1 (unhide HP2).2.1.2 (by have := (unhide HP2).2.2.1; omega) (by have := (unhide HP2).2.2.2.1; omega)).mono ?_
                  rintro r13 x13 ⟨wv, rfl, hown, hst⟩
                  obtain ⟨lvd, hkd, T13⟩ := (unhide M12).step hst
                  have KS := hide (T13.same (unhide hd) (unhide GR) wv (listAt_own hown) (unhide SM) (unhide HN2) zh)
                  clear M12 hown hst T13
                  intro fuel hfu
                  obtain ⟨m, rfl⟩ : ∃ m, fuel = m + 1 := ⟨fuel - 1, by omega⟩
                  refine wpAny_one (i := 6) (by kernel_rfl) rfl rfl ?_
                  go_simp
                  refine wpAny_end (by kernel_rfl) ?_
                  unfold ptrTo at KS
                  go_upto_region 22 with fail
                  go_wp2_with (go_at_call 120; refine (unhide KS).mono ?_; rintro r14 x14 ⟨rfl, KT⟩)
                  go_ret
                  rw [unhide HS]
                  exact ⟨rfl, KT⟩
            · have hk2 : (k1 == 1) = false := by simp [hk1]
              go_upto_region 9 with fail
              go_quiet (fail)
              go_upto_region 12 with fail
              refine wp_world (fun x => ∃ left', TM C A A2 w x wb q sv rp as_ ss hv hv2 hs2 a (skReply a k1 e1 sn qn b1).1 r lv lv hk hk U U' left' x2.heap.size f k1 e1 sn qn b1 fv fs (skReply a k1 e1 sn qn b1).2) (by first | exact ⟨_, unhide M9⟩ | exact ⟨_, TM.below (unhide M9) (below_drewN (Below.refl _ _) _)⟩) ?_
              clear M9 c1 d1 d0 b0 b1' b2 b3 b4 hql hfl
              try clear hee
              try clear hk2
              try clear hk1
              try clear hci
              rintro x11 ⟨left', T11⟩
              have hql := lt_of_block T11.blk
              have hfl := T11.fl
              have c1 := blk_cell (i := 1) T11.blk
              simp [ptrTo] at c1
              obtain ⟨b0, b1', b2, b3, b4⟩ := T11.box
              have M11 := hide T11
              clear T11
              refine wp_region_cut (by kernel_rfl)
                [fun v _ => v = .pointer (some ⟨q, 0, none⟩), fun v _ => v = .pointer (some ⟨q, 0, none⟩), fun v _ => v = .pointer (some ⟨q, 1, none⟩), fun v _ => v = .pointer (some ⟨rp, 0, none⟩), fun v _ => v = .agg #[.int .i64 k1, .int .i64 e1, .int .i64 sn, .int .i64 qn, .string b1], fun _ _ => True, fun _ _ => True]
                [[(1, none)], [(83, some 0)], [(84, some 1)], [(85, some 2)], [(10, none)], [(86, some 3), (87, some 4)], [(88, some 5)]]
                [some 83, some 84, some 85, some 86, some 87, some 88, some 13]
                [false, false, false, false, false, false, false, false, false, false, false, false, false, true, false, false, false, false, false, false, false, false, false, false, false, false, false, false, false, false, false, false, false, false, false, false, false, false, false, false, false, false, false, false, false, false, false, false, false, false, false, false, false, false, false, false, false, false, false, false, false, false, false, false, false, false, false, false, false, false, false, false, false, false, false, false, false, false, false, false, false, false, false, true, true, true, true, true, true, false, false, false, false, false, false, false, false, false, false, false, false, false, false, false, false, false, false, false, false, false, false, false, false, false, false, false, false, false, false, false, false, false, false, false, false, false, false, false, false, false, false, false, false, false, false, false, false, false, false, false, false, false, false, false, false, false, false]
                5 _ rfl (Nat.le_of_ble_eq_true (n := 6) (by kernel_rfl)) (by kernel_rfl) (by kernel_rfl) (by kernel_rfl) (by kernel_rfl) (by kernel_rfl) (by kernel_rfl) ?_ ?_ ?_ ?_
              · repeat' (first | exact stable_eq _ | exact stable_true | exact trivial | apply And.intro)
              · refine ⟨?_, ?_, ?_, ?_, ?_, trivial⟩
                all_goals
                  intro b x hb hf
                  have y1 := (hb.cell (p := ⟨q, 1, none⟩) hql).trans c1
                  have z0 := (hb.cell (p := ⟨f, 0, none⟩) hfl).trans b0
                  have z1 := (hb.cell (p := ⟨f, 1, none⟩) hfl).trans b1'
                  have z2 := (hb.cell (p := ⟨f, 2, none⟩) hfl).trans b2
                  have z3 := (hb.cell (p := ⟨f, 3, none⟩) hfl).trans b3
                  have z4 := (hb.cell (p := ⟨f, 4, none⟩) hfl).trans b4
                  clear hb
                  simp only [PlanFacts, List.getD_cons_zero, List.getD_cons_succ, Array.getD_eq_getD_getElem?] at hf
                  try simp at hf
                  try go_simp
                  try exact Below.refl _ _
                all_goals first | exact ⟨rfl, Below.refl _ _⟩ | skip
              · intro f9 x9 hwd
                rfl
              · intro f9 x12 hb hwd
                simp only [AllWords, List.take] at hwd
                obtain ⟨_, _, _, hf86, hf87, _⟩ := hwd
                have M12 := hide (TM.below (unhide M11) hb)
                clear hb M11 c1 b0 b1' b2 b3 b4 hql hfl
                simp only [mergeT, hf86, hf87]
                go_simp
                refine (skDeliver_any (unhide M12).ref (unhide GG) k1 e1 sn qn b1 (unhide HP2).2.1.1 (unhide HP2).2.1.2 (by have := (unhide HP2).2.2.1; omega) (by have := (unhide HP2).2.2.2.1; omega)).mono ?_
                rintro r13 x13 ⟨wv, rfl, hown, hst⟩
                obtain ⟨lvd, hkd, T13⟩ := (unhide M12).step hst
                have KS := hide (T13.same (unhide hd) (unhide GR) wv (listAt_own hown) (unhide SM) (unhide HN2) zh)
                clear M12 hown hst T13
                intro fuel hfu
                obtain ⟨m, rfl⟩ : ∃ m, fuel = m + 1 := ⟨fuel - 1, by omega⟩
                refine wpAny_one (i := 6) (by kernel_rfl) rfl rfl ?_
                go_simp
                refine wpAny_end (by kernel_rfl) ?_
                unfold ptrTo at KS
                go_upto_region 22 with fail
                go_wp2_with (go_at_call 120; refine (unhide KS).mono ?_; rintro r14 x14 ⟨rfl, KT⟩)
                go_ret
                rw [unhide HS]
                exact ⟨rfl, KT⟩
end Go.Proofs.YtamafdcnbcoegaaGreat
namespace Go.Proofs.YtamafdcnbcoegaaGreat
open Go.RowKit

def skLogs (a : Mod.Sk) (i : Int) : List ByteArray := if 0 ≤ i ∧ i < 3 then a.logs i.toNat else []
def skLogV (lv : Nat → Value) (i : Int) : Value := if 0 ≤ i ∧ i < 3 then lv i.toNat else .slice none 0 0

set_option maxRecDepth 100000 in
theorem skLog_no {w : World} {p : Nat} {a : Mod.Sk} {r : SRest} {lv : Nat → Value} {hv : Value} (R : SkAt w p a r lv hv) (hd : r.dead = false) (i : Int) (hi : ¬ (0 ≤ i ∧ i < 3)) :
    Calls Tryz.prog 126 #[.pointer (some ⟨p, 0, none⟩), .int .i64 i] w fun e w' => e = .returned (.slice none 0 0) ∧ w' = w := by
  have c1 := blk_cell (i := 1) R.blk
  simp [skCells, hd] at c1
  clear R hd
  by_cases h0 : i < 0
  · go_enter Tryz.func126, Tryz.ntmps126
    go_wp2
    go_ret
    exact ⟨rfl, rfl⟩
  · have h3 : 3 ≤ i := by omega
    go_enter Tryz.func126, Tryz.ntmps126
    go_wp2
    go_ret
    exact ⟨rfl, rfl⟩
theorem skLog_word {w : World} {p : Nat} {a : Mod.Sk} {r : SRest} {lv : Nat → Value} {hv : Value} (R : SkAt w p a r lv hv) (hd : r.dead = false) (i : Int) :
    Calls Tryz.prog 126 #[.pointer (some ⟨p, 0, none⟩), .int .i64 i] w fun e w' => e = .returned (skLogV lv i) ∧ w' = w := by
  unfold skLogV
  by_cases h : 0 ≤ i ∧ i < 3
  · rw [if_pos h]
    obtain ⟨n, rfl⟩ := Int.eq_ofNat_of_zero_le h.1
    exact skLog_any R hd n (by omega)
  · rw [if_neg h]
    exact skLog_no R hd i h
theorem skLog_list {w : World} {p : Nat} {a : Mod.Sk} {r : SRest} {lv : Nat → Value} {hv : Value} (R : SkAt w p a r lv hv) (i : Int) : ListAt w (skLogV lv i) (strs (skLogs a i)) := by
  unfold skLogV skLogs
  by_cases h : 0 ≤ i ∧ i < 3
  · rw [if_pos h, if_pos h]
    have hr := R.logs i.toNat (by omega)
    have hl := hr.lt
    obtain ⟨ad, cap, e, h1, h2, h3⟩ := hr.shape
    refine ⟨ad, cap, by rw [strs_length]; exact e, by rw [strs_length]; exact h1, h2, fun h0 => ?_⟩
    rw [strs_length] at h0 ⊢
    obtain ⟨g, o, rfl, hc⟩ := h3 h0
    exact ⟨g, o, rfl, hl g (by rw [e]; rfl), fun j hj => hc j (by omega)⟩
  · rw [if_neg h, if_neg h]
    exact listAt_own (B := 0) (World.ownsRow_nil _ _ 9 _)
theorem skLogs_len {a : Mod.Sk} (G : SkGood a) (i : Int) : (skLogs a i).length ≤ 120 := by
  unfold skLogs
  split
  · have := count_len (a := a) (s := i.toNat) (by omega)
    have := G.room
    omega
  · simp
theorem stable_row (B : Nat) (e : TypeId) (n : Nat) (xs : List Value) : Stable (fun v w => w.ownsRow B e 1 v n xs) := fun _ _ _ h hb => ownsRow_keep h (fun g hg => hb.block g (World.ownsRow.lt h g hg).2)
theorem sink_log {C : SinkC} {w : World} {v : Nat} {a : Mod.Sk} {U : Nat → Prop} (i : Int) (h : C.At w v a U) (G : SkGood a) : Calls Tryz.prog 32 #[ptrTo v, .int .i64 i] w fun r w' =>
    ∃ lv, r = .returned lv ∧ w'.ownsRow w.heap.size 9 1 lv (skLogs a i).length (strs (skLogs a i)) ∧ Below w.heap.size w w' := C.log i h G
theorem row_base {B B' : Nat} {w : World} {e : TypeId} {size n : Nat} {v : Value} {xs : List Value} (h : w.ownsRow B e size v n xs) (hb : B' ≤ B) : w.ownsRow B' e size v n xs := by
  obtain ⟨h1, h2⟩ := h
  refine ⟨h1, ?_⟩
  rcases h2 with h2 | ⟨g, cap, cur, h3, h4, h5⟩
  · exact .inl h2
  · exact .inr ⟨g, cap, cur, h3, Nat.le_trans hb h4, h5⟩

/-- What told leaves. -/
theorem TakenAt.told {C : SinkC} {A : Nat → Nat → Prop} {w x y : World} {wb q sv rp N : Nat} {as_ ss hv hv2 lw : Value} {hs2 : List Nat} {a : Mod.Sk} {r : SRest} {lv : Nat → Value} {hk : Value} {U : Nat → Prop} {left : Int}
    (P : PairAt C w q sv rp a r lv hk U left) (hA : ∀ b o, A b o → b < w.heap.size ∧ ¬ Us wb hv b ∧ ¬ PairU q rp lv hk U b) (hPU : ∀ k, PairU q rp lv hk U k → ¬ Us wb hv k) (hb : Below w.heap.size w x) (hlw : ∀ g, lw.ownBlock = some g → w.heap.size ≤ g)
    (W : WorldAt (fun b o => (b < y.heap.size ∧ ¬ Us wb hv2 b) ∧ (A b o ∨ lw.ownBlock = some b ∨ x.heap.size ≤ b)) y wb as_ ss hv2 hs2) (F : Far (fun k => lw.ownBlock = some k ∨ Us wb hv k) x y) (L : Loc x hv hv2) (hN : hs2.length ≤ N) : TakenAt C A w y wb q sv rp as_ ss hv a r lv hk U N := by
  have hpl := P.lt
  have hx := hb.size
  have hE : ∀ k, PairU q rp lv hk U k → ¬ (lw.ownBlock = some k ∨ Us wb hv k) := by
    rintro k h (e | e)
    · have := hlw k e; have := hpl k h; omega
    · exact hPU k h e
  refine ⟨hv2, hs2, lv, hk, U, left, hN, W.mono ?_, (P.far (far_below (E := fun _ => False) hb) (fun _ _ h => h)).far F hE, fun k h => .inl h, ?_, ?_, L.mono hx⟩
  · rintro b o ⟨⟨h1, h2⟩, h3⟩
    refine ⟨h1, h2, fun hp => ?_, ?_⟩
    · rcases h3 with h | h | h
      · exact (hA b o h).2.2 hp
      · have := hlw b h; have := hpl b hp; omega
      · have := hpl b hp; omega
    · rcases h3 with h | h | h
      · exact .inl h
      · exact .inr (hlw b h)
      · exact .inr (by omega)
  · rintro k h (e | e)
    · exact hPU k h (.inl e)
    · rcases L with h' | h' | ⟨g', h', hg'⟩
      · rw [h'] at e; cases e
      · exact hPU k h (.inr (h' ▸ e))
      · rw [h'] at e; injection e with e; have := hpl k h; omega
  · refine (far_below (E := fun k => PairU q rp lv hk U k ∨ Us wb hv k) hb).trans F ?_
    rintro k hk' (e | e)
    · have := hlw k e; omega
    · exact .inr e

set_option maxRecDepth 100000 in
set_option maxHeartbeats 8000000 in
theorem onSink_log (C : SinkC) (A : Nat → Nat → Prop) (w : World) (wb : Nat) (as_ ss hv : Value) (hs : List Nat) (nn i : Int) (s : ByteArray) (kp fk fe fst fq : Int) (fb : ByteArray) (q sv rp : Nat) (a : Mod.Sk) (r : SRest) (lv : Nat → Value) (hk : Value) (U : Nat → Prop) (left : Int)
    (H : WorldAt A w wb as_ ss hv hs) (P : PairAt C w q sv rp a r lv hk U left) (hA : ∀ b o, A b o → b < w.heap.size ∧ ¬ Us wb hv b ∧ ¬ PairU q rp lv hk U b) (hPU : ∀ k, PairU q rp lv hk U k → ¬ Us wb hv k) (zh : hs.length + 12 ≤ 17592186044416) :
    Calls Tryz.prog 82 #[ptrTo wb, ptrTo q, opVal 10 nn i s kp fk fe fst fq fb] w fun x w' => x = .returned (.bool true) ∧ TakenAt C A w w' wb q sv rp as_ ss hv a r lv hk U (hs.length + 12) := by
  have HP := hide P
  have HH := hide H
  have HAA := hide hA
  have HPU := hide hPU
  have PX := fun (x : World) (hb : Below w.heap.size w x) => hide (P.far (far_below (E := fun _ => False) hb) (fun _ _ h => h))
  have hq := lt_of_block P.blk
  have q0 : ∀ x : World, Below w.heap.size w x → x.cell? ⟨q, 0, none⟩ = some (ptrTo sv) := fun x hb => blk_cell (i := 0) (unhide (PX x hb)).blk
  have q1 : ∀ x : World, Below w.heap.size w x → x.cell? ⟨q, 1, none⟩ = some (ptrTo rp) := fun x hb => blk_cell (i := 1) (unhide (PX x hb)).blk
  have HB := hide ((Below.refl w.heap.size w).alloc (Nat.le_refl _) (.cells #[.int .i64 10, .int .i64 nn, .int .i64 i, .string s, .int .u64 kp, .int .i64 fk, .int .i64 fe, .int .i64 fst, .int .i64 fq, .string fb] 86))
  have HQ0 := hide q0
  have HQ1 := hide q1
  have z0 := q0 _ (unhide HB)
  have HE := fun x (hb : Below w.heap.size w x) => hide (C.epoch (unhide (PX x hb)).prog)
  have HLg := fun x (hb : Below w.heap.size w x) => hide (sink_log i (unhide (PX x hb)).prog P.good)
  have HRl := fun x (hb : Below w.heap.size w x) => hide (skLog_word (unhide (PX x hb)).ref P.dead i)
  clear P H hA hPU q0 q1
  unfold ptrTo at *
  unfold opVal
  go_enter Tryz.func82, Tryz.ntmps82
  go_upto_region 5 with fail
  go_upto_region 6 with (go_at_call 42; refine (unhide (HE _ (by first | exact unhide HB | exact below_drewN (unhide HB) _))).mono ?_; rintro r1 x1 ⟨rfl, hb1⟩)
  have hbx := boxed_cells hb1 2
  refine wp_world (fun x => Below w.heap.size w x ∧ w.heap.size < x.heap.size ∧ x.cell? ⟨w.heap.size, 2, none⟩ = some (.int .i64 i)) ⟨(unhide HB).trans (hb1.mono (by simp)), Nat.lt_of_lt_of_le (by simp) hb1.size, hbx⟩ ?_
  clear hbx hb1 z0 HB
  rintro x2 ⟨B2, hl2, c2⟩
  have BB2 := hide B2
  have hq2 : q < x2.heap.size := Nat.lt_of_lt_of_le hq B2.size
  have y0 := (unhide HQ0) x2 B2
  clear B2
  refine wp_region_frame (by kernel_rfl)
    [fun v _ => v = .pointer (some ⟨q, 0, none⟩), fun v _ => v = .pointer (some ⟨q, 0, none⟩), fun v _ => v = .pointer (some ⟨q, 0, none⟩), fun v _ => v = .pointer (some ⟨sv, 0, none⟩), fun v _ => v = .pointer (some ⟨w.heap.size, 2, none⟩), fun v _ => v = .int .i64 i, fun v w' => w'.ownsRow w.heap.size 9 1 v (skLogs a i).length (strs (skLogs a i)), fun v w' => w'.ownsRow w.heap.size 9 1 v (skLogs a i).length (strs (skLogs a i))]
    [[(1, none)], [(26, some 0)], [(27, some 1)], [(28, some 2)], [(5, none)], [(30, some 4)], [(29, some 3), (31, some 5)], [(32, some 6)]]
    [some 26, some 27, some 28, some 29, some 30, some 31, some 32, some 8]
    [false, false, false, false, false, false, false, false, true, false, false, false, false, false, false, false, false, false, false, false, false, false, false, false, false, false, true, true, true, true, true, true, true, false, false, false, false, false, false, false, false, false, false, false, false, false, false, false, false, false, false, false, false, false, false, false, false, false, false, false, false, false, false, false, false, false, false, false, false, false, false, false, false, false, false, false, false, false, false, false, false, false, false, false, false, false, false, false, false, false, false, false, false, false, false, false]
    (by kernel_rfl) (by kernel_rfl) (by kernel_rfl) (by kernel_rfl) ?_ ?_ ?_
  · repeat' (first | exact stable_eq _ | exact stable_row _ _ _ _ | exact trivial | apply And.intro)
  · refine ⟨?_, ?_, ?_, ?_, ?_, ?_, ?_, ?_, trivial⟩
    all_goals
      intro b x hb hf
      have z0 := (hb.cell (p := ⟨q, 0, none⟩) hq2).trans y0
      have z1 := (hb.cell (p := ⟨w.heap.size, 2, none⟩) hl2).trans c2
      have HLx := HLg x ((unhide BB2).trans (hb.mono (unhide BB2).size))
      have hws := Nat.le_trans (unhide BB2).size hb.size
      clear hb
      simp only [PlanFacts, List.getD_cons_zero, List.getD_cons_succ, Array.getD_eq_getD_getElem?] at hf
      try simp only [and_true] at hf
      try go_simp
      try exact Below.refl _ _
    all_goals first
      | exact ⟨rfl, Below.refl _ _⟩
      | (refine (unhide HLx).mono ?_; rintro e x' ⟨v, rfl, ho, hb2⟩; exact ⟨_, rfl, hb2, row_base ho hws⟩)
      | exact ⟨_, rfl, Below.refl _ _, hf⟩
      | skip
  · intro f x3 hb3 hwd
    simp only [AllWords] at hwd
    have hrow := hwd.2.2.2.2.2.2.2.1
    obtain ⟨lw, hlw⟩ : ∃ lw, lw = f 8 := ⟨_, rfl⟩
    rw [← hlw] at hrow
    have HR3 := hide hrow
    have BB3 := hide ((unhide BB2).trans (hb3.mono (unhide BB2).size))
    have hl3 := Nat.lt_of_lt_of_le hl2 hb3.size
    have c3 := (hb3.cell (p := ⟨w.heap.size, 2, none⟩) hl2).trans c2
    have hq3 := Nat.lt_of_lt_of_le hq2 hb3.size
    have y1 := (unhide HQ1) x3 (unhide BB3)
    clear hwd hrow hb3 c2 y0 hl2 hq2 BB2
    simp only [mergeT, ← hlw]
    clear hlw
    go_upto_region 7 with fail
    refine wp_region_frame (by kernel_rfl)
      [fun v _ => v = .pointer (some ⟨q, 0, none⟩), fun v _ => v = .pointer (some ⟨q, 0, none⟩), fun v _ => v = .pointer (some ⟨q, 1, none⟩), fun v _ => v = .pointer (some ⟨rp, 0, none⟩), fun v _ => v = .pointer (some ⟨w.heap.size, 2, none⟩), fun v _ => v = .int .i64 i, fun v _ => v = skLogV lv i, fun v _ => v = skLogV lv i]
      [[(1, none)], [(33, some 0)], [(34, some 1)], [(35, some 2)], [(5, none)], [(37, some 4)], [(36, some 3), (38, some 5)], [(39, some 6)]]
      [some 33, some 34, some 35, some 36, some 37, some 38, some 39, some 9]
      [false, false, false, false, false, false, false, false, false, true, false, false, false, false, false, false, false, false, false, false, false, false, false, false, false, false, false, false, false, false, false, false, false, true, true, true, true, true, true, true, false, false, false, false, false, false, false, false, false, false, false, false, false, false, false, false, false, false, false, false, false, false, false, false, false, false, false, false, false, false, false, false, false, false, false, false, false, false, false, false, false, false, false, false, false, false, false, false, false, false, false, false, false, false, false, false]
      (by kernel_rfl) (by kernel_rfl) (by kernel_rfl) (by kernel_rfl) ?_ ?_ ?_
    · repeat' (first | exact stable_eq _ | exact trivial | apply And.intro)
    · refine ⟨?_, ?_, ?_, ?_, ?_, ?_, ?_, ?_, trivial⟩
      all_goals
        intro b x hb hf
        have z0 := (hb.cell (p := ⟨q, 1, none⟩) hq3).trans y1
        have z1 := (hb.cell (p := ⟨w.heap.size, 2, none⟩) hl3).trans c3
        have HLx := HRl x ((unhide BB3).trans (hb.mono (unhide BB3).size))
        clear hb
        simp only [PlanFacts, List.getD_cons_zero, List.getD_cons_succ, Array.getD_eq_getD_getElem?] at hf
        try simp at hf
        try go_simp
        try exact Below.refl _ _
      all_goals first
        | exact ⟨rfl, Below.refl _ _⟩
        | (refine (unhide HLx).mono ?_; rintro e x' ⟨rfl, rfl⟩; exact ⟨rfl, Below.refl _ _⟩)
        | skip
    · intro f2 x4 hb4 hwd
      simp only [AllWords] at hwd
      have hf9 := hwd.2.2.2.2.2.2.2.1
      have BB4 := hide ((unhide BB3).trans (hb4.mono (unhide BB3).size))
      have HR4 := hide (stable_row _ _ _ _ _ _ _ (unhide HR3) hb4)
      clear hwd hb4 c3 y1 hl3 hq3 BB3 HR3
      simp only [mergeT, hf9]
      have HX := (unhide HH).far (far_below (E := fun _ => False) (unhide BB4)) (fun _ _ h => h) (fun b o h => ⟨((unhide HAA) b o h).1, fun h => h⟩)
      have hlt4 := fun g (hg : lw.ownBlock = some g) => (World.ownsRow.lt (unhide HR4) g hg).1
      have KT := hide (told_yes A x4 wb as_ ss hv lw (skLogV lv i) hs (skLogs a i) HX (row_zero (unhide HR4)) (skLog_list (unhide (PX x4 (unhide BB4))).ref i)
        (fun b o h => ⟨Nat.lt_of_lt_of_le ((unhide HAA) b o h).1 (unhide BB4).size, fun e => e.elim (fun e => by have := hlt4 b e; have := ((unhide HAA) b o h).1; omega) ((unhide HAA) b o h).2.1⟩) (by omega) (by have := skLogs_len (unhide HP).good i; omega))
      have HL4 := hide hlt4
      clear HX hlt4 HR4 HLg HRl HE HQ0 HQ1 PX
      unfold ptrTo at KT
      go_upto_region 8 with fail
      go_upto_region 9 with (go_at_call 123; refine (unhide KT).mono ?_; rintro r5 x5 ⟨rfl, hv2, hs2, hn2, W, F, L⟩; have TT := hide (TakenAt.told (N := hs.length + 12) (unhide HP) (unhide HAA) (unhide HPU) (unhide BB4) (unhide HL4) W F L (by omega)); clear W F L hn2)
      obtain ⟨hv3, hs3, lvd, hkd, U', left', hN3, W3, P3, r3, u3, F3, L3⟩ := (unhide TT).all
      have c1 := blk_cell (i := 1) P3.blk
      have d0 := blk_cell (i := 0) P3.ref.blk
      simp [skCells, ptrTo] at c1 d0
      clear hN3 W3 P3 r3 u3 F3 L3 KT HP HH HAA HPU BB4 HL4
      go_wp2
      go_ret
      exact ⟨rfl, unhide TT⟩

set_option maxRecDepth 100000 in
set_option maxHeartbeats 8000000 in
theorem onSink_take (C : SinkC) (A : Nat → Nat → Prop) (w : World) (wb : Nat) (as_ ss hv : Value) (hs : List Nat) (nn i : Int) (s : ByteArray) (kp fk fe fst fq : Int) (fb : ByteArray) (q sv rp : Nat) (a : Mod.Sk) (r : SRest) (lv : Nat → Value) (hk : Value) (U : Nat → Prop) (left : Int)
    (H : WorldAt A w wb as_ ss hv hs) (P : PairAt C w q sv rp a r lv hk U left) (hA : ∀ b o, A b o → b < w.heap.size ∧ ¬ Us wb hv b ∧ ¬ PairU q rp lv hk U b) (hPU : ∀ k, PairU q rp lv hk U k → ¬ Us wb hv k) (zs : s.size ≤ 140737488353980) (zh : hs.length + 12 ≤ 17592186044416) :
    Calls Tryz.prog 82 #[ptrTo wb, ptrTo q, opVal 9 nn i s kp fk fe fst fq fb] w fun x w' => x = .returned (.bool true) ∧ TakenAt C A w w' wb q sv rp as_ ss hv (skSays a s.data.toList).2.1 r lv hk U (hs.length + 12) := by
  have HB := hide ((Below.refl w.heap.size w).alloc (Nat.le_refl _) (.cells #[.int .i64 9, .int .i64 nn, .int .i64 i, .string s, .int .u64 kp, .int .i64 fk, .int .i64 fe, .int .i64 fst, .int .i64 fq, .string fb] 86))
  have P1 := P.far (far_below (E := fun _ => False) (unhide HB)) (fun _ _ h => h)
  have H1 := H.far (far_below (E := fun _ => False) (unhide HB)) (fun _ _ h => h) (fun b o h => ⟨(hA b o h).1, fun h => h⟩)
  have KT := hide (taken_any C A _ wb as_ ss hv hs 9 nn i s kp fk fe fst fq fb q sv rp a r lv hk U left H1 P1 (fun b o h => ⟨Nat.lt_of_lt_of_le (hA b o h).1 (unhide HB).size, (hA b o h).2⟩) hPU zs zh)
  have hpl := hide P.lt
  have hul := hide H.us_lt
  clear P1 H1 P H hA hPU
  unfold ptrTo opVal at *
  go_enter Tryz.func82, Tryz.ntmps82
  go_wp2_with (go_at_call 125; refine (unhide KT).mono ?_; rintro r5 x5 ⟨rfl, TT⟩)
  go_ret
  refine ⟨rfl, ?_⟩
  obtain ⟨hv3, hs3, lvd, hkd, U', left', hN3, W3, P3, r3, u3, F3, L3⟩ := TT.all
  have hsz := (unhide HB).size
  exact ⟨hv3, hs3, lvd, hkd, U', left', hN3, W3.mono (fun b o h => ⟨h.1, h.2.1, h.2.2.1, h.2.2.2.imp id (fun h => Nat.le_trans hsz h)⟩), P3, fun k h => (r3 k h).imp id (fun h => Nat.le_trans hsz h), u3, (far_below (E := fun k => PairU q rp lv hk U k ∨ Us wb hv k) (unhide HB)).trans F3 (fun _ _ h => h), L3.mono hsz⟩
end Go.Proofs.YtamafdcnbcoegaaGreat
namespace Go.Proofs.YtamafdcnbcoegaaGreat
open Go.RowKit

structure Item where
  q : Nat
  sv : Nat
  rp : Nat
  a : Mod.Sk
  r : SRest
  lv : Nat → Value
  hk : Value
  U : Nat → Prop
  left : Int
def Item.In (it : Item) (k : Nat) : Prop := PairU it.q it.rp it.lv it.hk it.U k
def Item.Is (C : SinkC) (x : World) (it : Item) : Prop := PairAt C x it.q it.sv it.rp it.a it.r it.lv it.hk it.U it.left
structure SinksAt (C : SinkC) (B n : Nat) (A : Nat → Nat → Prop) (x : World) (wb : Nat) (as_ ssv hv : Value) (hs : List Nat) (its : List Item) : Prop where
  hn : hs.length ≤ n
  wat : WorldAt A x wb as_ ssv hv hs
  row : x.ownsRow 0 117 1 ssv its.length (its.map fun it => ptrTo it.q)
  six : its.length ≤ 6
  each : ∀ (i : Nat) (u : Item), its[i]? = some u → u.Is C x
  apart : ∀ (i j : Nat) (u v : Item), its[i]? = some u → its[j]? = some v → i ≠ j → ∀ k, u.In k → ¬ v.In k
  us : ∀ (i : Nat) (u : Item), its[i]? = some u → ∀ k, u.In k → B ≤ k ∧ ¬ Us wb hv k ∧ ssv.ownBlock ≠ some k
  ssu : ∀ k, ssv.ownBlock = some k → B ≤ k ∧ ¬ Us wb hv k
  usB : ∀ k, Us wb hv k → B ≤ k
  bx : B ≤ x.heap.size
  a2 : ∀ b o, A b o → b < x.heap.size ∧ ¬ Us wb hv b ∧ ssv.ownBlock ≠ some b ∧ ∀ (i : Nat) (u : Item), its[i]? = some u → ¬ u.In b

/-- All their blocks lie below D. -/
def Bnd (D wb : Nat) (ssv hv : Value) (its : List Item) : Prop := ∀ k, (Us wb hv k ∨ ssv.ownBlock = some k ∨ ∃ (i : Nat) (u : Item), its[i]? = some u ∧ u.In k) → k < D
theorem SinksAt.bnd {C : SinkC} {B n : Nat} {A : Nat → Nat → Prop} {x : World} {wb : Nat} {as_ ssv hv : Value} {hs : List Nat} {its : List Item} (S : SinksAt C B n A x wb as_ ssv hv hs its) : Bnd x.heap.size wb ssv hv its := by
  rintro k (h | h | ⟨i, u, hu, h⟩)
  · exact S.wat.us_lt k h
  · exact (World.ownsRow.lt S.row k h).2
  · exact (S.each i u hu).lt k h
theorem SinksAt.below {C : SinkC} {B n : Nat} {A : Nat → Nat → Prop} {x y : World} {wb : Nat} {as_ ssv hv : Value} {hs : List Nat} {its : List Item} (S : SinksAt C B n A x wb as_ ssv hv hs its) (hb : Below x.heap.size x y) : SinksAt C B n A y wb as_ ssv hv hs its := by
  have F : Far (fun _ => False) x y := far_below hb
  exact ⟨S.hn, S.wat.far F (fun _ _ h => h) (fun b o h => ⟨(S.a2 b o h).1, fun h => h⟩), F.own S.row (fun _ _ h => h), S.six, fun i u hu => (S.each i u hu).far F (fun _ _ h => h), S.apart, S.us, S.ssu, S.usB, Nat.le_trans S.bx hb.size, fun b o h => ⟨Nat.lt_of_lt_of_le (S.a2 b o h).1 hb.size, (S.a2 b o h).2⟩⟩
theorem map_set_same {α β : Type} (f : α → β) (l : List α) (i : Nat) (u v : α) (hu : l[i]? = some u) (h : f v = f u) : (l.set i v).map f = l.map f := by
  rw [List.map_set]
  apply List.ext_getElem?
  intro j
  rw [List.getElem?_set]
  split
  · rename_i e
    subst e
    have hl := (List.getElem?_eq_some_iff.1 hu).1
    rw [if_pos (by simpa using hl), List.getElem?_map, hu, h]
    rfl
  · rfl
/-- What a step on one of them leaves. -/
theorem SinksAt.step {C : SinkC} {B n N : Nat} {A : Nat → Nat → Prop} {x y : World} {wb : Nat} {as_ ssv hv : Value} {hs : List Nat} {its : List Item} (S : SinksAt C B n A x wb as_ ssv hv hs its) (i : Nat) (it : Item) (hi : its[i]? = some it) {a' : Mod.Sk} {D : Nat} (hD : Bnd D wb ssv hv its)
    (T : TakenAt C A x y wb it.q it.sv it.rp as_ ssv hv a' it.r it.lv it.hk it.U N) : ∃ A' hv' hs' its', SinksAt C B N A' y wb as_ ssv hv' hs' its' ∧ Far (fun k => B ≤ k ∧ k < D) x y := by
  obtain ⟨hv3, hs3, lvd, hkd, U', left', hN3, W3, P3, r3, u3, F3, L3⟩ := T.all
  have hil := (List.getElem?_eq_some_iff.1 hi).1
  have hssl := fun k h => (World.ownsRow.lt S.row k h).2
  have hIl : ∀ (j : Nat) (u : Item), its[j]? = some u → ∀ k, u.In k → k < x.heap.size := fun j u hu => (S.each j u hu).lt
  have hE : ∀ k, (PairU it.q it.rp it.lv it.hk it.U k ∨ Us wb hv k) → B ≤ k := fun k h => h.elim (fun h => (S.us i it hi k h).1) (S.usB k)
  have hset : ∀ (j : Nat) (u : Item), (its.set i ⟨it.q, it.sv, it.rp, a', it.r, lvd, hkd, U', left'⟩)[j]? = some u → (j = i ∧ u = ⟨it.q, it.sv, it.rp, a', it.r, lvd, hkd, U', left'⟩) ∨ (j ≠ i ∧ its[j]? = some u) := by
    intro j u hu
    rw [List.getElem?_set] at hu
    split at hu
    · rename_i e
      injection hu with hu
      exact .inl ⟨e.symm, hu.symm⟩
    · rename_i e
      exact .inr ⟨fun h => e h.symm, hu⟩
  have hus3 : ∀ k, k < x.heap.size → ¬ Us wb hv k → ¬ Us wb hv3 k := by
    rintro k hk h (e | e)
    · exact h (.inl e)
    · rcases L3 with h' | h' | ⟨g', h', hg'⟩
      · rw [h'] at e; cases e
      · exact h (.inr (h' ▸ e))
      · rw [h'] at e; injection e with e; omega
  have hno : ∀ (j : Nat) (u : Item), j ≠ i → its[j]? = some u → ∀ k, u.In k → ¬ (PairU it.q it.rp it.lv it.hk it.U k ∨ Us wb hv k) := by
    rintro j u hj hu k hk (e | e)
    · exact S.apart j i u it hu hi hj k hk e
    · exact (S.us j u hu k hk).2.1 e
  refine ⟨_, hv3, hs3, its.set i ⟨it.q, it.sv, it.rp, a', it.r, lvd, hkd, U', left'⟩, ⟨hN3, W3, ?_, by rw [List.length_set]; exact S.six, ?_, ?_, ?_, ?_, ?_, Nat.le_trans S.bx F3.size, ?_⟩, F3.mono (fun k _ h => ⟨hE k h, hD k (h.elim (fun h => .inr (.inr ⟨i, it, hi, h⟩)) .inl)⟩)⟩
  · rw [List.length_set, map_set_same (fun it : Item => ptrTo it.q) its i it ⟨it.q, it.sv, it.rp, a', it.r, lvd, hkd, U', left'⟩ hi rfl]
    refine F3.own S.row (fun g hg => ?_)
    rintro (e | e)
    · exact (S.us i it hi g e).2.2 hg
    · exact (S.ssu g hg).2 e
  · intro j u hu
    rcases hset j u hu with ⟨rfl, rfl⟩ | ⟨hj, hu⟩
    · exact P3
    · exact (S.each j u hu).far F3 (hno j u hj hu)
  · intro j k u v hu hv' hjk g hg hg'
    rcases hset j u hu with ⟨rfl, rfl⟩ | ⟨hj, hu1⟩
    · rcases hset k v hv' with ⟨rfl, rfl⟩ | ⟨hk, hv1⟩
      · exact hjk rfl
      · rcases r3 g hg with h | h
        · exact S.apart j k it v hi hv1 hjk g h hg'
        · have := hIl k v hv1 g hg'; omega
    · rcases hset k v hv' with ⟨rfl, rfl⟩ | ⟨hk, hv1⟩
      · rcases r3 g hg' with h | h
        · exact S.apart j k u it hu1 hi hjk g hg h
        · have := hIl j u hu1 g hg; omega
      · exact S.apart j k u v hu1 hv1 hjk g hg hg'
  · intro j u hu k hk
    rcases hset j u hu with ⟨rfl, rfl⟩ | ⟨hj, hu⟩
    · refine ⟨?_, u3 k hk, fun e => ?_⟩
      · rcases r3 k hk with h | h
        · exact (S.us j it hi k h).1
        · have := S.bx; omega
      · rcases r3 k hk with h | h
        · exact (S.us j it hi k h).2.2 e
        · have := hssl k e; omega
    · have h := S.us j u hu k hk
      exact ⟨h.1, hus3 k (hIl j u hu k hk) h.2.1, h.2.2⟩
  · intro k h
    have h1 := S.ssu k h
    exact ⟨h1.1, hus3 k (hssl k h) h1.2⟩
  · rintro k (e | e)
    · exact S.usB k (.inl e)
    · rcases L3 with h' | h' | ⟨g', h', hg'⟩
      · rw [h'] at e; cases e
      · exact S.usB k (.inr (h' ▸ e))
      · rw [h'] at e; injection e with e; have := S.bx; omega
  · rintro b o ⟨h1, h2, h3, h4⟩
    refine ⟨h1, h2, fun e => ?_, fun j u hu hb => ?_⟩
    · rcases h4 with h4 | h4
      · exact (S.a2 b o h4).2.2.1 e
      · have := hssl b e; omega
    · rcases hset j u hu with ⟨rfl, rfl⟩ | ⟨hj, hu⟩
      · exact h3 hb
      · rcases h4 with h4 | h4
        · exact (S.a2 b o h4).2.2.2 j u hu hb
        · have := hIl j u hu b hb; omega
/-- What one more sink makes of them. -/
theorem SinksAt.more {C : SinkC} {B n : Nat} {A : Nat → Nat → Prop} {x y : World} {wb : Nat} {as_ ssv hv ss2 : Value} {hs : List Nat} {its : List Item} (S : SinksAt C B n A x wb as_ ssv hv hs its) (it : Item) (h6 : its.length < 6)
    (hF : Far (fun k => k = wb ∨ ssv.ownBlock = some k) x y) (hwb : y.heap[wb]? = some (.cells #[as_, ss2, hv] 83 (0, 0))) (hrow : y.ownsRow 0 117 1 ss2 (its.length + 1) (its.map (fun it => ptrTo it.q) ++ [ptrTo it.q]))
    (hss : ∀ g, ss2.ownBlock = some g → ssv.ownBlock = some g ∨ x.heap.size ≤ g) (hI : it.Is C y) (hnew : ∀ k, it.In k → x.heap.size ≤ k ∧ ss2.ownBlock ≠ some k) : SinksAt C B n A y wb as_ ss2 hv hs (its ++ [it]) := by
  have hssl := fun k h => (World.ownsRow.lt S.row k h).2
  have hIl : ∀ (j : Nat) (u : Item), its[j]? = some u → ∀ k, u.In k → k < x.heap.size := fun j u hu => (S.each j u hu).lt
  have husl := S.wat.us_lt
  have hget : ∀ (j : Nat) (u : Item), (its ++ [it])[j]? = some u → its[j]? = some u ∨ (j = its.length ∧ u = it) := by
    intro j u hu
    rcases Nat.lt_or_ge j its.length with h | h
    · rw [List.getElem?_append_left h] at hu
      exact .inl hu
    · rw [List.getElem?_append_right h] at hu
      by_cases e : j = its.length
      · subst e
        simp at hu
        exact .inr ⟨rfl, hu.symm⟩
      · rw [List.getElem?_eq_none (by simp; omega)] at hu
        cases hu
  have hno : ∀ (j : Nat) (u : Item), its[j]? = some u → ∀ k, u.In k → ¬ (k = wb ∨ ssv.ownBlock = some k) := by
    rintro j u hu k hk (e | e)
    · exact (S.us j u hu k hk).2.1 (.inl e)
    · exact (S.us j u hu k hk).2.2 e
  have hhv : ∀ g, hv.ownBlock = some g → ¬ (g = wb ∨ ssv.ownBlock = some g) := by
    rintro g hg (e | e)
    · exact own_ne S.wat.row S.wat.blk (by decide) (by rw [← e]; exact hg)
    · exact (S.ssu g e).2 (.inr hg)
  refine ⟨S.hn, ⟨hwb, hF.own S.wat.row hhv, fun p hp => (S.wat.all p hp).keep (fun b o h => World.cell?_of_block (hF.rest b (S.a2 b o h).1 (fun e => e.elim (fun e => (S.a2 b o h).2.1 (.inl e)) (S.a2 b o h).2.2.1)))⟩, by simpa using hrow, by simp; omega, ?_, ?_, ?_, ?_, S.usB, Nat.le_trans S.bx hF.size, ?_⟩
  · intro j u hu
    rcases hget j u hu with hu | ⟨rfl, rfl⟩
    · exact (S.each j u hu).far hF (hno j u hu)
    · exact hI
  · intro j k u v hu hv' hjk g hg hg'
    rcases hget j u hu with hu1 | ⟨rfl, rfl⟩
    · rcases hget k v hv' with hv1 | ⟨rfl, rfl⟩
      · exact S.apart j k u v hu1 hv1 hjk g hg hg'
      · have := hIl j u hu1 g hg; have := (hnew g hg').1; omega
    · rcases hget k v hv' with hv1 | ⟨rfl, rfl⟩
      · have := hIl k v hv1 g hg'; have := (hnew g hg).1; omega
      · exact hjk rfl
  · intro j u hu k hk
    rcases hget j u hu with hu | ⟨rfl, rfl⟩
    · have h := S.us j u hu k hk
      refine ⟨h.1, h.2.1, fun e => ?_⟩
      rcases hss k e with e | e
      · exact h.2.2 e
      · have := hIl j u hu k hk; omega
    · have h := hnew k hk
      exact ⟨Nat.le_trans S.bx h.1, fun e => by have := husl k e; omega, h.2⟩
  · intro k h
    rcases hss k h with e | e
    · exact S.ssu k e
    · exact ⟨Nat.le_trans S.bx e, fun e' => by have := husl k e'; omega⟩
  · rintro b o h
    have h1 := S.a2 b o h
    refine ⟨Nat.lt_of_lt_of_le h1.1 hF.size, h1.2.1, fun e => ?_, fun j u hu hb => ?_⟩
    · rcases hss b e with e | e
      · exact h1.2.2.1 e
      · omega
    · rcases hget j u hu with hu | ⟨rfl, rfl⟩
      · exact h1.2.2.2 j u hu hb
      · have := (hnew b hb).1; omega
end Go.Proofs.YtamafdcnbcoegaaGreat
namespace Go.Proofs.YtamafdcnbcoegaaGreat
open Go.RowKit

def pickN (c : Int) (n : Nat) : Nat := ((if c < 0 then -(c + 1) else c) % (n : Int)).toNat
theorem pickN_lt (c : Int) {n : Nat} (hn : 0 < n) : pickN c n < n := by
  unfold pickN
  have h1 := Int.emod_lt_of_pos (if c < 0 then -(c + 1) else c) (show (0 : Int) < n by omega)
  have h2 := Int.emod_nonneg (if c < 0 then -(c + 1) else c) (show (n : Int) ≠ 0 by omega)
  omega
set_option maxRecDepth 100000 in
theorem pick_any (c : Int) (n : Nat) (w : World) (hc : -9223372036854775808 ≤ c ∧ c ≤ 9223372036854775807) (hn : 0 < n) (hn6 : n ≤ 1000) :
    Calls Tryz.prog 81 #[.int .i64 c, .int .i64 n] w fun r w' => r = .returned (.int .i64 (pickN c n)) ∧ w' = w := by
  have hn0 : ¬ (n : Int) = 0 := by omega
  have hn1 : ¬ (n : Int) = -1 := by omega
  have hb : ((n : Int) == 0) = false := by simp; omega
  have HJ : Hid ((pickN c n : Int) = (if c < 0 then -(c + 1) else c) % (n : Int)) := by
    have h2 := Int.emod_nonneg (if c < 0 then -(c + 1) else c) hn0
    unfold pickN
    show _ = _
    omega
  generalize pickN c n = j at HJ
  obtain ⟨d, hd⟩ : ∃ d, d = if c < 0 then -(c + 1) else c := ⟨_, rfl⟩
  rw [← hd] at HJ
  have hd0 : 0 ≤ d ∧ d ≤ 9223372036854775807 := by rw [hd]; split <;> omega
  by_cases h : c < 0
  · rw [if_pos h] at hd
    have hw1 : IntKind.i64.wrap (c + 1) = c + 1 := by rw [IntKind.wrap_i64]; omega
    have hw2 : IntKind.i64.wrap (-(c + 1)) = d := by rw [IntKind.wrap_i64]; omega
    clear hd
    go_enter Tryz.func81, Tryz.ntmps81
    go_wp2
    go_ret
    exact ⟨ret_i (unhide HJ).symm, rfl⟩
  · rw [if_neg h] at hd
    subst hd
    go_enter Tryz.func81, Tryz.ntmps81
    go_wp2
    go_ret
    exact ⟨ret_i (unhide HJ).symm, rfl⟩

theorem tmp_bool {t : Array Value} {k : Nat} {c : Bool} (h : t[k]?.getD undef = .bool c) : t[k]? = some (.bool c) := by
  cases hx : t[k]? with
  | none => rw [hx] at h; simp [undef] at h
  | some v => rw [hx] at h; simp at h; rw [h]
/-- All the sinks of a script. -/
def Sinks (C : SinkC) (B D n : Nat) (x : World) (wb : Nat) : Prop := ∃ A as_ ssv hv hs its, SinksAt C B n A x wb as_ ssv hv hs its ∧ Bnd D wb ssv hv its

set_option maxRecDepth 100000 in
set_option maxHeartbeats 8000000 in
theorem step_gen (C : SinkC) (B D n : Nat) (A : Nat → Nat → Prop) (w : World) (wb : Nat) (as_ ssv hv : Value) (hs : List Nat) (its : List Item) (kd nn i : Int) (s : ByteArray) (kp fk fe fst fq : Int) (fb : ByteArray)
    (S : SinksAt C B n A w wb as_ ssv hv hs its) (hc : -9223372036854775808 ≤ nn ∧ nn ≤ 9223372036854775807) (h0 : 0 < its.length) (it : Item) (hit : its[pickN nn its.length]? = some it) (hkd : kd = 9 ∨ kd = 10)
    (HO : ∀ x, Below w.heap.size w x → Calls Tryz.prog 82 #[ptrTo wb, ptrTo it.q, opVal kd nn i s kp fk fe fst fq fb] x fun r y => r = .returned (.bool true) ∧ Sinks C B y.heap.size (n + 12) y wb ∧ Far (fun k => B ≤ k ∧ k < D) x y) :
    Calls Tryz.prog 48 #[ptrTo wb, opVal kd nn i s kp fk fe fst fq fb] w fun r w' => r = .returned (.bool true) ∧ Sinks C B w'.heap.size (n + 12) w' wb ∧ Far (fun k => B ≤ k ∧ k < D) w w' := by
  have HOO := fun x h => hide (HO x h)
  have hrow := S.row
  have hbx := hide S.bx
  have hwl := lt_of_block S.wat.blk
  have hjl := pickN_lt nn h0
  have h6 := S.six
  obtain ⟨g, cap, hg1⟩ : ∃ g cap, ssv = .slice (some ⟨g, 0, none⟩) its.length cap := by
    obtain ⟨g, cap, h⟩ := own_shape hrow (by omega)
    exact ⟨g, cap, h⟩
  subst hg1
  have hcell := World.ownsRow.cellAt hrow (pickN nn its.length) (by omega)
  rw [List.getElem?_map, hit] at hcell
  have hgl := (World.ownsRow.lt hrow g rfl).2
  have hlc : its.length ≤ cap := by
    have h := hrow.2
    rcases h with ⟨_, h⟩ | ⟨g', cap', cur, h1, _, _, h2, _⟩
    · omega
    · injection h1 with _ _ h3; omega
  have cj : w.cell? ⟨g, pickN nn its.length, none⟩ = some (ptrTo it.q) := by simpa using hcell
  have c1 := blk_cell (i := 1) S.wat.blk
  simp at c1
  have HP := fun x => hide (pick_any nn its.length x hc h0 (by omega))
  have HJL := hide hjl
  have HH0 := hide h0
  clear S hrow hcell HO hit
  generalize hln : its.length = ln at *
  clear hln
  generalize hpj : pickN nn ln = j at *
  clear hpj
  have hn0 : ¬ ln = 0 := by omega
  have hnb : ((ln : Int) == 0) = false := by simp; omega
  have hjz : (0 : Int) ≤ j := by omega
  have hjn : (j : Int) < ln := by omega
  unfold ptrTo opVal at *
  go_enter Tryz.func48, Tryz.ntmps48
  rcases hkd with rfl | rfl
  · go_upto_region 21 with fail
    have HB := hide ((Below.refl w.heap.size w).alloc (Nat.le_refl _) (.cells #[.int .i64 9, .int .i64 nn, .int .i64 i, .string s, .int .u64 kp, .int .i64 fk, .int .i64 fe, .int .i64 fst, .int .i64 fq, .string fb] 86))
    refine wp_region_cut (by kernel_rfl)
      [fun v _ => v = .pointer (some ⟨wb, 0, none⟩), fun v _ => v = .pointer (some ⟨wb, 0, none⟩), fun v _ => v = .pointer (some ⟨wb, 1, none⟩), fun v _ => v = .slice (some ⟨g, 0, none⟩) ln cap, fun v _ => v = .int .i64 ln, fun v _ => v = .bool false, fun v _ => v = .bool false,
       fun v _ => v = .pointer (some ⟨wb, 0, none⟩), fun v _ => v = .pointer (some ⟨wb, 0, none⟩), fun v _ => v = .pointer (some ⟨wb, 0, none⟩), fun v _ => v = .pointer (some ⟨wb, 1, none⟩), fun v _ => v = .slice (some ⟨g, 0, none⟩) ln cap, fun v _ => v = .pointer (some ⟨w.heap.size, 1, none⟩), fun v _ => v = .int .i64 nn,
       fun v _ => v = .pointer (some ⟨wb, 0, none⟩), fun v _ => v = .pointer (some ⟨wb, 0, none⟩), fun v _ => v = .pointer (some ⟨wb, 1, none⟩), fun v _ => v = .slice (some ⟨g, 0, none⟩) ln cap, fun v _ => v = .int .i64 ln, fun v _ => v = .int .i64 j, fun v _ => v = .pointer (some ⟨g, j, none⟩), fun v _ => v = .pointer (some ⟨it.q, 0, none⟩),
       fun v _ => v = .agg #[.int .i64 9, .int .i64 nn, .int .i64 i, .string s, .int .u64 kp, .int .i64 fk, .int .i64 fe, .int .i64 fst, .int .i64 fq, .string fb], fun _ _ => True, fun _ _ => True, fun _ _ => True]
      [[(0, none)], [(80, some 0)], [(81, some 1)], [(82, some 2)], [(83, some 3)], [(84, some 4)], [(85, some 5)], [(0, none), (86, some 6)], [(0, none), (86, some 6)], [(88, some 8), (86, some 6)], [(89, some 9), (86, some 6)], [(90, some 10), (86, some 6)], [(3, none), (86, some 6)], [(92, some 12), (86, some 6)], [(0, none), (86, some 6)], [(94, some 14), (86, some 6)], [(95, some 15), (86, some 6)], [(96, some 16), (86, some 6)], [(97, some 17), (86, some 6)], [(93, some 13), (98, some 18), (86, some 6)], [(91, some 11), (99, some 19), (86, some 6)], [(100, some 20), (86, some 6)], [(3, none), (86, some 6)], [(87, some 7), (101, some 21), (102, some 22), (86, some 6)], [(86, some 6), (103, some 23)], [(104, some 24)]]
      [some 80, some 81, some 82, some 83, some 84, some 85, some 86, some 87, some 88, some 89, some 90, some 91, some 92, some 93, some 94, some 95, some 96, some 97, some 98, some 99, some 100, some 101, some 102, some 103, some 104, some 4]
      [false, false, false, false, true, false, false, false, false, false, false, false, false, false, false, false, false, false, false, false, false, false, false, false, false, false, false, false, false, false, false, false, false, false, false, false, false, false, false, false, false, false, false, false, false, false, false, false, false, false, false, false, false, false, false, false, false, false, false, false, false, false, false, false, false, false, false, false, false, false, false, false, false, false, false, false, false, false, false, false, true, true, true, true, true, true, true, true, true, true, true, true, true, true, true, true, true, true, true, true, true, true, true, true, true]
      23 _ rfl (Nat.le_of_ble_eq_true (n := 24) (by kernel_rfl)) (by kernel_rfl) (by kernel_rfl) (by kernel_rfl) (by kernel_rfl) (by kernel_rfl) (by kernel_rfl) ?_ ?_ ?_ ?_
    · repeat' (first | exact stable_eq _ | exact stable_true | exact trivial | apply And.intro)
    · refine ⟨?_, ?_, ?_, ?_, ?_, ?_, ?_, ?_, ?_, ?_, ?_, ?_, ?_, ?_, ?_, ?_, ?_, ?_, ?_, ?_, ?_, ?_, ?_, trivial⟩
      all_goals
        intro b x hb hf
        have hb2 := (unhide HB).trans (hb.mono (by simp))
        have y1 := (hb2.cell (p := ⟨wb, 1, none⟩) hwl).trans c1
        have yj := (hb2.cell (p := ⟨g, j, none⟩) hgl).trans cj
        have bc := fun k => boxed_cells hb k
        have b0 := bc 0
        have b1 := bc 1
        have b2 := bc 2
        have b3 := bc 3
        have b4 := bc 4
        have b5 := bc 5
        have b6 := bc 6
        have b7 := bc 7
        have b8 := bc 8
        have b9 := bc 9
        clear hb hb2 bc
        simp at b0 b1 b2 b3 b4 b5 b6 b7 b8 b9
        simp only [PlanFacts, List.getD_cons_zero, List.getD_cons_succ, Array.getD_eq_getD_getElem?] at hf
        try simp at hf
        try (have hg : b.tmps[86]? = some (.bool false) := tmp_bool (by first | exact hf | exact hf.2 | exact hf.2.2))
        try go_simp
        try simp only [hg, if_true]
        try go_simp
        try exact Below.refl _ _
      all_goals first
        | exact ⟨rfl, Below.refl _ _⟩
        | (refine (unhide (HP _)).mono ?_; rintro e x' ⟨rfl, rfl⟩; exact ⟨rfl, Below.refl _ _⟩)
        | skip
    · intro f x hwd
      simp only [AllWords, List.take] at hwd
      have hf86 := hwd.2.2.2.2.2.2.1
      clear hwd
      simp only [mergeT, hf86]
      rfl
    · intro f x2 hb hwd
      simp only [AllWords, List.take] at hwd
      have hf86 := hwd.2.2.2.2.2.2.1
      have hf87 := hwd.2.2.2.2.2.2.2.1
      have hf101 := hwd.2.2.2.2.2.2.2.2.2.2.2.2.2.2.2.2.2.2.2.2.2.1
      have hf102 := hwd.2.2.2.2.2.2.2.2.2.2.2.2.2.2.2.2.2.2.2.2.2.2.1
      have BB := hide ((unhide HB).trans (hb.mono (by simp)))
      clear hwd hb
      simp only [mergeT, hf86, hf87, hf101, hf102]
      go_simp
      refine (unhide (HOO x2 (unhide BB))).mono ?_
      rintro r3 x3 ⟨rfl, S3, B3⟩
      have SS3 := hide S3
      have BB3 := hide ((far_below (E := fun k => B ≤ k ∧ k < D) (unhide BB)).trans B3 (fun _ _ h => h))
      clear S3 B3
      intro fuel hfu
      obtain ⟨m, rfl⟩ : ∃ m, fuel = m + 2 := ⟨fuel - 2, by omega⟩
      refine wpAny_one (i := 24) (by kernel_rfl) rfl rfl ?_
      go_simp
      refine wpAny_one (i := 25) (by kernel_rfl) rfl rfl ?_
      go_simp
      refine wpAny_end (by kernel_rfl) ?_
      go_wp2
      go_ret
      exact ⟨rfl, unhide SS3, unhide BB3⟩
  · go_upto_region 21 with fail
    have HB := hide ((Below.refl w.heap.size w).alloc (Nat.le_refl _) (.cells #[.int .i64 10, .int .i64 nn, .int .i64 i, .string s, .int .u64 kp, .int .i64 fk, .int .i64 fe, .int .i64 fst, .int .i64 fq, .string fb] 86))
    refine wp_region_cut (by kernel_rfl)
      [fun v _ => v = .pointer (some ⟨wb, 0, none⟩), fun v _ => v = .pointer (some ⟨wb, 0, none⟩), fun v _ => v = .pointer (some ⟨wb, 1, none⟩), fun v _ => v = .slice (some ⟨g, 0, none⟩) ln cap, fun v _ => v = .int .i64 ln, fun v _ => v = .bool false, fun v _ => v = .bool false,
       fun v _ => v = .pointer (some ⟨wb, 0, none⟩), fun v _ => v = .pointer (some ⟨wb, 0, none⟩), fun v _ => v = .pointer (some ⟨wb, 0, none⟩), fun v _ => v = .pointer (some ⟨wb, 1, none⟩), fun v _ => v = .slice (some ⟨g, 0, none⟩) ln cap, fun v _ => v = .pointer (some ⟨w.heap.size, 1, none⟩), fun v _ => v = .int .i64 nn,
       fun v _ => v = .pointer (some ⟨wb, 0, none⟩), fun v _ => v = .pointer (some ⟨wb, 0, none⟩), fun v _ => v = .pointer (some ⟨wb, 1, none⟩), fun v _ => v = .slice (some ⟨g, 0, none⟩) ln cap, fun v _ => v = .int .i64 ln, fun v _ => v = .int .i64 j, fun v _ => v = .pointer (some ⟨g, j, none⟩), fun v _ => v = .pointer (some ⟨it.q, 0, none⟩),
       fun v _ => v = .agg #[.int .i64 10, .int .i64 nn, .int .i64 i, .string s, .int .u64 kp, .int .i64 fk, .int .i64 fe, .int .i64 fst, .int .i64 fq, .string fb], fun _ _ => True, fun _ _ => True, fun _ _ => True]
      [[(0, none)], [(80, some 0)], [(81, some 1)], [(82, some 2)], [(83, some 3)], [(84, some 4)], [(85, some 5)], [(0, none), (86, some 6)], [(0, none), (86, some 6)], [(88, some 8), (86, some 6)], [(89, some 9), (86, some 6)], [(90, some 10), (86, some 6)], [(3, none), (86, some 6)], [(92, some 12), (86, some 6)], [(0, none), (86, some 6)], [(94, some 14), (86, some 6)], [(95, some 15), (86, some 6)], [(96, some 16), (86, some 6)], [(97, some 17), (86, some 6)], [(93, some 13), (98, some 18), (86, some 6)], [(91, some 11), (99, some 19), (86, some 6)], [(100, some 20), (86, some 6)], [(3, none), (86, some 6)], [(87, some 7), (101, some 21), (102, some 22), (86, some 6)], [(86, some 6), (103, some 23)], [(104, some 24)]]
      [some 80, some 81, some 82, some 83, some 84, some 85, some 86, some 87, some 88, some 89, some 90, some 91, some 92, some 93, some 94, some 95, some 96, some 97, some 98, some 99, some 100, some 101, some 102, some 103, some 104, some 4]
      [false, false, false, false, true, false, false, false, false, false, false, false, false, false, false, false, false, false, false, false, false, false, false, false, false, false, false, false, false, false, false, false, false, false, false, false, false, false, false, false, false, false, false, false, false, false, false, false, false, false, false, false, false, false, false, false, false, false, false, false, false, false, false, false, false, false, false, false, false, false, false, false, false, false, false, false, false, false, false, false, true, true, true, true, true, true, true, true, true, true, true, true, true, true, true, true, true, true, true, true, true, true, true, true, true]
      23 _ rfl (Nat.le_of_ble_eq_true (n := 24) (by kernel_rfl)) (by kernel_rfl) (by kernel_rfl) (by kernel_rfl) (by kernel_rfl) (by kernel_rfl) (by kernel_rfl) ?_ ?_ ?_ ?_
    · repeat' (first | exact stable_eq _ | exact stable_true | exact trivial | apply And.intro)
    · refine ⟨?_, ?_, ?_, ?_, ?_, ?_, ?_, ?_, ?_, ?_, ?_, ?_, ?_, ?_, ?_, ?_, ?_, ?_, ?_, ?_, ?_, ?_, ?_, trivial⟩
      all_goals
        intro b x hb hf
        have hb2 := (unhide HB).trans (hb.mono (by simp))
        have y1 := (hb2.cell (p := ⟨wb, 1, none⟩) hwl).trans c1
        have yj := (hb2.cell (p := ⟨g, j, none⟩) hgl).trans cj
        have bc := fun k => boxed_cells hb k
        have b0 := bc 0
        have b1 := bc 1
        have b2 := bc 2
        have b3 := bc 3
        have b4 := bc 4
        have b5 := bc 5
        have b6 := bc 6
        have b7 := bc 7
        have b8 := bc 8
        have b9 := bc 9
        clear hb hb2 bc
        simp at b0 b1 b2 b3 b4 b5 b6 b7 b8 b9
        simp only [PlanFacts, List.getD_cons_zero, List.getD_cons_succ, Array.getD_eq_getD_getElem?] at hf
        try simp at hf
        try (have hg : b.tmps[86]? = some (.bool false) := tmp_bool (by first | exact hf | exact hf.2 | exact hf.2.2))
        try go_simp
        try simp only [hg, if_true]
        try go_simp
        try exact Below.refl _ _
      all_goals first
        | exact ⟨rfl, Below.refl _ _⟩
        | (refine (unhide (HP _)).mono ?_; rintro e x' ⟨rfl, rfl⟩; exact ⟨rfl, Below.refl _ _⟩)
        | skip
    · intro f x hwd
      simp only [AllWords, List.take] at hwd
      have hf86 := hwd.2.2.2.2.2.2.1
      clear hwd
      simp only [mergeT, hf86]
      rfl
    · intro f x2 hb hwd
      simp only [AllWords, List.take] at hwd
      have hf86 := hwd.2.2.2.2.2.2.1
      have hf87 := hwd.2.2.2.2.2.2.2.1
      have hf101 := hwd.2.2.2.2.2.2.2.2.2.2.2.2.2.2.2.2.2.2.2.2.2.1
      have hf102 := hwd.2.2.2.2.2.2.2.2.2.2.2.2.2.2.2.2.2.2.2.2.2.2.1
      have BB := hide ((unhide HB).trans (hb.mono (by simp)))
      clear hwd hb
      simp only [mergeT, hf86, hf87, hf101, hf102]
      go_simp
      refine (unhide (HOO x2 (unhide BB))).mono ?_
      rintro r3 x3 ⟨rfl, S3, B3⟩
      have SS3 := hide S3
      have BB3 := hide ((far_below (E := fun k => B ≤ k ∧ k < D) (unhide BB)).trans B3 (fun _ _ h => h))
      clear S3 B3
      intro fuel hfu
      obtain ⟨m, rfl⟩ : ∃ m, fuel = m + 2 := ⟨fuel - 2, by omega⟩
      refine wpAny_one (i := 24) (by kernel_rfl) rfl rfl ?_
      go_simp
      refine wpAny_one (i := 25) (by kernel_rfl) rfl rfl ?_
      go_simp
      refine wpAny_end (by kernel_rfl) ?_
      go_wp2
      go_ret
      exact ⟨rfl, unhide SS3, unhide BB3⟩
end Go.Proofs.YtamafdcnbcoegaaGreat
namespace Go.Proofs.YtamafdcnbcoegaaGreat
open Go.RowKit

theorem infoSk : (Tryz.prog.info? 117).map (fun i => (i.zero, i.size, i.bytes)) = some (some (.pointer none), 1, 8) := by kernel_rfl

set_option maxRecDepth 100000 in
set_option maxHeartbeats 1000000 in
theorem none_any (n : Nat) (hn : n ≤ 10000) (w : World) :
    Calls Tryz.prog 84 #[.int .i64 n] w fun r w' => r = .returned (.string ⟨(List.replicate n 0).toArray⟩) ∧ Below w.heap.size w w' := by
  go_enter Tryz.func84, Tryz.ntmps84
  go_wp2_with (at_make; refine wp_make_full rfl _ _ rfl w.heap.size _ _ _ _ n rfl rfl rfl rfl (by omega) (Nat.le_refl _) ?_; intro w1 hown1 hg1; have b1 := hide (below_grown_new (B := w.heap.size) hg1 (Nat.le_refl _) (by simp)); have hcs := (bat_of_row (A := fun _ _ => True) (l := List.replicate n 0) (by unfold Owns at hown1; rw [bv_length]; rw [List.length_replicate] at hown1 ⊢; exact row_zero hown1) (fun _ _ _ _ => trivial)).str; clear hown1 hg1)
  go_ret
  exact ⟨rfl, unhide b1⟩

def sk0 : Mod.Sk := { epoch := 0, logs := fun _ => [], held := [] }
def r0 : SRest := { dead := false, next := 0, inn := 0, more := .slice none 0 0 }
theorem skAt_new (w : World) (p : Nat) (h : w.heap[p]? = some (.cells #[.int .i64 0, .bool false, .slice none 0 0, .slice none 0 0, .slice none 0 0, .slice none 0 0, .int .i64 0, .int .i64 0, .slice none 0 0] 132 (0, 0))) : SkAt w p sk0 r0 (fun _ => .slice none 0 0) (.slice none 0 0) :=
  ⟨h, fun _ _ => rowO_nil _ _ _, rowO_nil _ _ _, fun _ _ _ _ _ _ h => by (cases h), by simp [sk0], by simp [sk0, Mod.Sk.count], by simp [sk0], by simp [sk0]⟩

def refNew : Array Value := #[.int .i64 0, .bool false, .slice none 0 0, .slice none 0 0, .slice none 0 0, .slice none 0 0, .int .i64 0, .int .i64 0, .slice none 0 0]
theorem made_plain {C : SinkC} {B D n : Nat} {A : Nat → Nat → Prop} {w x w1 : World} {wb sv : Nat} {as_ ssv hv v1 : Value} {hs : List Nat} {its : List Item} {U : Nat → Prop} (S : SinksAt C B n A w wb as_ ssv hv hs its) (hD : Bnd D wb ssv hv its) (h6 : its.length < 6) (hb : Below w.heap.size w x) (hAt : C.At x sv sk0 U) (hU : ∀ k, U k → w.heap.size ≤ k)
    (happ : App (((x.alloc (.cells refNew 132)).alloc (.cells #[ptrTo sv, ptrTo x.heap.size, .bool false, .int .i64 0] 134)).alloc (.cells #[ptrTo (x.heap.size + 1)] 117)) w1 ssv v1)
    (hown : w1.ownsRow 0 117 1 v1 (its.map (fun it => ptrTo it.q) ++ [ptrTo (x.heap.size + 1)]).length (its.map (fun it => ptrTo it.q) ++ [ptrTo (x.heap.size + 1)])) :
    Sinks C B (w1.setCell ⟨wb, 1, none⟩ v1).heap.size n (w1.setCell ⟨wb, 1, none⟩ v1) wb ∧ Far (fun k => B ≤ k ∧ k < D) w (w1.setCell ⟨wb, 1, none⟩ v1) := by
  have hsz := hb.size
  have hUl := C.lt hAt
  have hssl := fun k h => (World.ownsRow.lt S.row k h).2
  have hwl := lt_of_block S.wat.blk
  have hss0 : ssv.ownBlock ≠ some wb := fun e => (S.ssu wb e).2 (.inl rfl)
  generalize hX : (((x.alloc (.cells refNew 132)).alloc (.cells #[ptrTo sv, ptrTo x.heap.size, .bool false, .int .i64 0] 134)).alloc (.cells #[ptrTo (x.heap.size + 1)] 117)) = X at happ
  have hXs : X.heap.size = x.heap.size + 3 := by rw [← hX]; simp
  have FX : Far (fun _ => False) x X := by
    rw [← hX]
    exact far_below ((((Below.refl _ _).alloc (Nat.le_refl _) _).alloc (by simp) _).alloc (by simp; omega) _)
  have hr : X.heap[x.heap.size]? = some (.cells refNew 132 (0, 0)) := by
    rw [← hX, Below.heap_alloc _ _ _ (by simp; omega), Below.heap_alloc _ _ _ (by simp)]
    exact heap_alloc_new x _
  have hq : X.heap[x.heap.size + 1]? = some (.cells #[ptrTo sv, ptrTo x.heap.size, .bool false, .int .i64 0] 134 (0, 0)) := by
    rw [← hX, Below.heap_alloc _ _ _ (by simp)]
    have := heap_alloc_new (x.alloc (.cells refNew 132)) (.cells #[ptrTo sv, ptrTo x.heap.size, .bool false, .int .i64 0] 134)
    simpa using this
  have F1 := far_grown happ.grown
  have F2 := far_set w1 wb 1 v1
  have FY : Far (fun k => k = wb ∨ ssv.ownBlock = some k) X (w1.setCell ⟨wb, 1, none⟩ v1) := (F1.mono (E' := fun k => k = wb ∨ ssv.ownBlock = some k) (fun _ _ h => .inr h)).trans F2 (fun _ _ h => .inl h)
  have FW : Far (fun k => k = wb ∨ ssv.ownBlock = some k) w (w1.setCell ⟨wb, 1, none⟩ v1) := ((far_below (E := fun k => k = wb ∨ ssv.ownBlock = some k) hb).trans FX (fun _ _ h => h.elim)).trans FY (fun _ _ h => h)
  have hno : ∀ k, w.heap.size ≤ k → ¬ (k = wb ∨ ssv.ownBlock = some k) := by
    rintro k hk (e | e)
    · omega
    · have := hssl k e; omega
  have hb1 : w1.heap[wb]? = some (.cells #[as_, ssv, hv] 83 (0, 0)) := F1.blk (FX.blk ((far_below (E := fun _ => False) hb).blk S.wat.blk (fun h => h)) (fun h => h)) hss0
  have hv1 : ∀ g, v1.ownBlock = some g → ssv.ownBlock = some g ∨ x.heap.size + 3 ≤ g := by
    intro g hg
    rcases happ.where_ with h | ⟨_, g', h, hg'⟩
    · exact .inl (h ▸ hg)
    · rw [h] at hg; injection hg with hg; exact .inr (by omega)
  have hI : (⟨x.heap.size + 1, sv, x.heap.size, sk0, r0, fun _ => .slice none 0 0, .slice none 0 0, U, 0⟩ : Item).Is C (w1.setCell ⟨wb, 1, none⟩ v1) := by
    refine ⟨FY.blk hq (hno (x.heap.size + 1) (by omega)), C.far (C.far hAt FX (fun _ _ h => h)) FY (fun k hk => hno k (hU k hk)), skAt_new _ x.heap.size (FY.blk hr (hno _ hsz)), rfl, skGood_new, fun h => by have := hUl (x.heap.size + 1) h; omega, ?_, ?_⟩
    · rintro (e | ⟨_, _, e⟩ | e)
      · have : x.heap.size + 1 = x.heap.size := e
        omega
      · cases e
      · cases e
    · rintro k hk (e | ⟨_, _, e⟩ | e)
      · have := hUl k hk; have : k = x.heap.size := e; omega
      · cases e
      · cases e
  have hnew : ∀ k, (⟨x.heap.size + 1, sv, x.heap.size, sk0, r0, fun _ => .slice none 0 0, .slice none 0 0, U, 0⟩ : Item).In k → w.heap.size ≤ k ∧ v1.ownBlock ≠ some k := by
    intro k hk
    have h1 : w.heap.size ≤ k ∧ k < x.heap.size + 3 := by
      rcases hk with e | (e | ⟨_, _, e⟩ | e) | e
      · have : k = x.heap.size + 1 := e
        omega
      · have : k = x.heap.size := e
        omega
      · cases e
      · cases e
      · have := hU k e; have := hUl k e; omega
    refine ⟨h1.1, fun e => ?_⟩
    rcases hv1 k e with h | h
    · have := hssl k h; omega
    · omega
  have hwb2 : (w1.setCell ⟨wb, 1, none⟩ v1).heap[wb]? = some (.cells #[as_, v1, hv] 83 (0, 0)) := by
    have := blk_set (j := 1) (v := v1) hb1
    simpa using this
  have hrow2 : (w1.setCell ⟨wb, 1, none⟩ v1).ownsRow 0 117 1 v1 (its.length + 1) (its.map (fun it => ptrTo it.q) ++ [ptrTo (x.heap.size + 1)]) := by
    have := own_set (u := v1) (j := 1) hown hb1 (by decide)
    simpa using this
  have SM := S.more _ h6 FW hwb2 hrow2 (fun g hg => (hv1 g hg).imp id (by omega)) hI hnew
  refine ⟨⟨A, as_, v1, hv, hs, _, SM, SM.bnd⟩, FW.mono (fun k _ e => ?_)⟩
  rcases e with rfl | e
  · exact ⟨S.usB k (.inl rfl), hD k (.inl (.inl rfl))⟩
  · exact ⟨(S.ssu k e).1, hD k (.inr (.inl e))⟩

set_option maxRecDepth 100000 in
set_option maxHeartbeats 4000000 in
theorem made_sink (C : SinkC) (B D n : Nat) (A : Nat → Nat → Prop) (w : World) (wb : Nat) (as_ ssv hv : Value) (hs : List Nat) (its : List Item) (nn i : Int) (s : ByteArray) (kp fk fe fst fq : Int) (fb : ByteArray)
    (S : SinksAt C B n A w wb as_ ssv hv hs its) (hD : Bnd D wb ssv hv its) (h6 : its.length < 6) :
    Calls Tryz.prog 50 #[ptrTo wb, opVal 8 nn i s kp fk fe fst fq fb] w fun r w' => r = .returned (.bool true) ∧ Sinks C B w'.heap.size n w' wb ∧ Far (fun k => B ≤ k ∧ k < D) w w' := by
  have HS := hide S
  have HDD := hide hD
  have hwl := lt_of_block S.wat.blk
  clear S hD
  unfold ptrTo opVal
  go_enter Tryz.func50, Tryz.ntmps50
  go_upto_region 7 with fail
  refine wp_world (fun x => Below w.heap.size w x) ((Below.refl _ _).alloc (Nat.le_refl _) _) ?_
  intro x0 b0
  have B0 := hide b0
  clear b0
  obtain ⟨Z, hZ⟩ : ∃ Z : ByteArray, Z = ⟨(List.replicate 7808 0).toArray⟩ := ⟨_, rfl⟩
  have HN : ∀ x, Hid (Calls Tryz.prog 84 #[.int .i64 7808] x fun r w' => r = .returned (.string Z) ∧ Below x.heap.size x w') := fun x => by rw [hZ]; exact hide (none_any 7808 (by omega) x)
  have hzs : Z.size ≤ 140737488355328 := by rw [hZ]; simp [ByteArray.size]
  have HZ : Hid (Z.data.toList = List.replicate 7808 0) := by rw [hZ]; show _ = _; simp
  clear hZ
  go_wp2_with (go_at_call 84; refine (unhide (HN _)).mono ?_; rintro r1 x1 ⟨rfl, hb1⟩; obtain ⟨vs, y1, hconv, hat, hby⟩ := conv_bytes x1 Z hzs; rw [unhide HZ] at hat; have HAT := hide hat; have BB1 := hide (((unhide B0).trans (hb1.mono (unhide B0).size)).trans (hby.mono (Nat.le_trans (unhide B0).size hb1.size))); clear hat hb1 hby)
  refine (C.opened vs (unhide HAT)).mono ?_
  rintro r2 x2 ⟨sv, U, rfl, hAt, hb2, hU⟩
  have B2 := hide ((unhide BB1).trans (hb2.mono (unhide BB1).size))
  have HU : Hid (∀ k, U k → w.heap.size ≤ k) := fun k hk => Nat.le_trans (unhide BB1).size (hU k hk)
  have HA2 : Hid (C.At x2 sv sk0 U) := hAt
  clear hAt hb2 hU HAT BB1 hconv B0 HN hzs HZ
  unfold ptrTo
  go_upto_region 10 with fail
  refine wp_world (fun x => Below w.heap.size w x ∧ C.At x sv sk0 U) ⟨unhide B2, unhide HA2⟩ ?_
  clear B2 HA2
  rintro x3 ⟨b3, hAt3⟩
  have F3 : Far (fun _ => False) w x3 := far_below b3
  have S3 := hide (World.ownsRow.alloc (World.ownsRow.alloc (World.ownsRow.alloc (w := x3) (F3.own (unhide HS).row (fun _ _ h => h)) (.cells refNew 132)) (.cells #[ptrTo sv, ptrTo x3.heap.size, .bool false, .int .i64 0] 134)) (.cells #[ptrTo (x3.heap.size + 1)] 117))
  have wb3 := F3.blk (unhide HS).wat.blk (fun h => h)
  have c1 := blk_cell (i := 1) wb3
  have f1 := blk_free (i := 1) wb3
  simp at c1
  have HB3 := hide b3
  have HAT3 := hide hAt3
  have HWB3 := hide wb3
  have HBL := hide (fun (k : Nat) (hk : k < x3.heap.size) => ((Below.heap_alloc ((x3.alloc (.cells refNew 132)).alloc (.cells #[ptrTo sv, ptrTo x3.heap.size, .bool false, .int .i64 0] 134)) (.cells #[ptrTo (x3.heap.size + 1)] 117) k (by simp; omega)).trans ((Below.heap_alloc (x3.alloc (.cells refNew 132)) (.cells #[ptrTo sv, ptrTo x3.heap.size, .bool false, .int .i64 0] 134) k (by simp; omega)).trans (Below.heap_alloc x3 (.cells refNew 132) k hk))))
  have HSZ : Hid (x3.heap.size ≤ (((x3.alloc (.cells refNew 132)).alloc (.cells #[ptrTo sv, ptrTo x3.heap.size, .bool false, .int .i64 0] 134)).alloc (.cells #[ptrTo (x3.heap.size + 1)] 117)).heap.size) := by show _ ≤ _; simp; omega
  have HCU : Hid ((((x3.alloc (.cells refNew 132)).alloc (.cells #[ptrTo sv, ptrTo x3.heap.size, .bool false, .int .i64 0] 134)).alloc (.cells #[ptrTo (x3.heap.size + 1)] 117)).cell? ⟨x3.heap.size + 1 + 1, 0, none⟩ = some (ptrTo (x3.heap.size + 1))) := by
    show _ = _
    have := blk_cell (i := 0) (heap_alloc_new ((x3.alloc (.cells refNew 132)).alloc (.cells #[ptrTo sv, ptrTo x3.heap.size, .bool false, .int .i64 0] 134)) (.cells #[ptrTo (x3.heap.size + 1)] 117))
    simpa using this
  have HMP := fun w1 v1 h1 h2 => hide (made_plain (w1 := w1) (v1 := v1) (unhide HS) (unhide HDD) h6 b3 hAt3 (unhide HU) h1 h2)
  have hss0 := hide (fun (e : ssv.ownBlock = some wb) => ((unhide HS).ssu wb e).2 (.inl rfl))
  have hxl := Nat.lt_of_lt_of_le hwl b3.size
  clear b3 hAt3 F3 wb3
  unfold refNew ptrTo at *
  go_upto_region 11 with (at_builtin; (refine wpList_app1 rfl (.tmp 54) (.tmp 60) 80 rfl 117 (.pointer none) 8 Tryz.underlying80 infoSk rfl ssv (its.map fun it => .pointer (some ⟨it.q, 0, none⟩)) (by rw [List.length_map]; exact unhide S3) rfl ⟨x3.heap.size + 1 + 1, 0, none⟩ (.pointer (some ⟨x3.heap.size + 1, 0, none⟩)) rfl (unhide HCU) rfl (by rw [List.length_map]; omega) (by rw [List.length_map]; omega) ?_; intro v1 w1 hown1 hold1 happ1; have HM := hide (unhide (HMP w1 v1 happ1 hown1)); obtain ⟨g1, cap1, hv1⟩ := own_shape hown1 (by simp); rw [show (its.map (fun it => Value.pointer (some ⟨it.q, 0, none⟩)) ++ [Value.pointer (some ⟨x3.heap.size + 1, 0, none⟩)]).length = its.length + 1 by simp] at hv1; have hwb1 := app_blk happ1 (unhide HBL) (unhide HSZ) (unhide HWB3) (unhide hss0); subst hv1; have c11 := blk_cell (i := 1) hwb1; have f11 := blk_free (i := 1) hwb1; clear hwb1 hown1 hold1 happ1))
  go_wp2
  go_ret
  exact ⟨rfl, unhide HM⟩

set_option maxRecDepth 100000 in
set_option maxHeartbeats 4000000 in
theorem step_made (C : SinkC) (B D n : Nat) (w : World) (wb : Nat) (nn i : Int) (s : ByteArray) (kp fk fe fst fq : Int) (fb : ByteArray) (S : Sinks C B D n w wb) :
    Calls Tryz.prog 48 #[ptrTo wb, opVal 8 nn i s kp fk fe fst fq fb] w fun r w' => r = .returned (.bool true) ∧ Sinks C B w'.heap.size n w' wb ∧ Far (fun k => B ≤ k ∧ k < D) w w' := by
  obtain ⟨A, as_, ssv, hv, hs, its, S, hD⟩ := S
  have hb : ∀ O, Below w.heap.size w (w.alloc O) := fun O => (Below.refl _ _).alloc (Nat.le_refl _) O
  have S1 := fun O => S.below (hb O)
  have c1 := blk_cell (i := 1) S.wat.blk
  simp at c1
  obtain ⟨ad, cap, hsv, hl, _, _⟩ := listAt_own S.row
  rw [List.length_map] at hsv hl
  have hwl := lt_of_block S.wat.blk
  have hbx := hide S.bx
  by_cases h6 : its.length < 6
  · have HM := fun O => hide (made_sink C B D n A (w.alloc O) wb as_ ssv hv hs its nn i s kp fk fe fst fq fb (S1 O) hD h6)
    have h6i : ¬ (6 : Int) ≤ its.length := by omega
    clear S S1 hb
    subst hsv
    unfold ptrTo opVal at *
    go_enter Tryz.func48, Tryz.ntmps48
    go_upto_region 9 with fail
    go_wp2_with (go_at_call 50; refine (unhide (HM _)).mono ?_; rintro r2 x2 ⟨rfl, S2, B2⟩)
    go_ret
    exact ⟨rfl, S2, (far_below (E := fun k => B ≤ k ∧ k < D) ((Below.refl _ _).alloc (Nat.le_refl _) _)).trans B2 (fun _ _ h => h)⟩
  · have h6i : (6 : Int) ≤ its.length := by omega
    have HS := fun O => hide (show Sinks C B (w.alloc O).heap.size n (w.alloc O) wb from ⟨A, as_, ssv, hv, hs, its, S1 O, (S1 O).bnd⟩)
    clear S S1 hb
    subst hsv
    unfold ptrTo opVal at *
    go_enter Tryz.func48, Tryz.ntmps48
    go_wp2
    go_ret
    exact ⟨rfl, unhide (HS _), far_below ((Below.refl _ _).alloc (Nat.le_refl _) _)⟩
end Go.Proofs.YtamafdcnbcoegaaGreat
