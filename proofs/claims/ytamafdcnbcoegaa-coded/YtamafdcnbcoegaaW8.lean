/-
  The walk of courierkeep.Coded.
-/
import Derived.Test.YtamafdcnbcoegaaW7
namespace Go.Proofs.Ytamafdcnbcoegaa
open Go.RowKit

set_option maxRecDepth 100000 in
set_option maxHeartbeats 1000000 in
theorem copied_any (v : Value) (l : List UInt8) (w : World) (hat : BytesAt w v l) (hl : 0 < l.length) (hl2 : l.length ≤ 281474976710656) :
    Calls Try.prog 6 #[v] w fun r w' => ∃ v', r = .returned v' ∧ Owns w.heap.size w' v' l ∧ Below w.heap.size w w' := by
  have HA := hide hat
  obtain ⟨ad, cap, rfl, hc1, hc2, hc3⟩ := hat
  clear hc3
  go_enter Try.func6, Try.ntmps6
  go_upto_region 2 with (at_make; refine wp_make_full rfl _ _ rfl w.heap.size _ _ _ _ l.length rfl rfl rfl rfl hl2 (Nat.le_refl _) ?_; intro w1 hown1 hg1)
  have b1 := below_grown_new (B := w.heap.size) hg1 (Nat.le_refl _) (by simp)
  have HA1 := hide ((unhide HA).below b1)
  have O1 := hide hown1
  have z1 := b1.size
  clear hown1 hg1 HA
  go_wp2_with (refine wp_copy_bytes rfl (.tmp 7) (.tmp 8) rfl w.heap.size w.heap.size l.length _ l _ (unhide O1) rfl (unhide HA1) hl rfl ?_; intro w2 hown2 hg2)
  have b2 := below_grown_new (B := w.heap.size) hg2 z1 (by intro k hk; cases hk; exact Nat.le_refl _)
  go_ret
  exact ⟨_, rfl, hown2, b1.trans b2⟩

/-- What has bytes is read from them. -/
theorem courier_Decode_of (v : Value) (k e s q : Int) (b : ByteArray) (w : World) (hp : Wire.proper k e s q b = true) (h : BytesAt w v (Wire.bytes k e s q b.data.toList)) :
    Calls Try.prog 5 #[v] w fun r w' => r = .returned (.tuple #[.agg #[.int .i64 k, .int .i64 e, .int .i64 s, .int .i64 q, .string b], .int .i64 0]) ∧ Below w.heap.size w w' := by
  obtain ⟨h1, h2, h3, h4, h5⟩ := proper_small hp
  obtain ⟨p0, p1, p2, p3, p4, p5⟩ := Wire.parts_bytes (b := b) (k := k) (e := e) (s := s) (q := q) (by omega) (by omega) (by omega) (by omega) (by omega)
  have := courier_Decode_any v _ w h
  have hr : Wire.reads (Wire.bytes k e s q b.data.toList) = true := by unfold Wire.reads; rw [p0, p1, p2, p3, p4, p5, hp]; rfl
  rw [hr, if_pos rfl] at this
  unfold frVal at this
  rw [p1, p2, p3, p4, p5] at this
  exact this
/-- What is no frame's is refused. -/
theorem courier_Decode_not (v : Value) (l : List UInt8) (w : World) (h : BytesAt w v l) (hr : Wire.reads l = false) :
    Calls Try.prog 5 #[v] w fun r w' => r = .returned (.tuple #[.agg #[.int .i64 0, .int .i64 0, .int .i64 0, .int .i64 0, .string ⟨#[]⟩], .int .i64 1]) ∧ Below w.heap.size w w' := by
  have := courier_Decode_any v _ w h
  rw [hr] at this
  exact this
theorem proper_hello : Wire.proper 1 9 0 0 ⟨#[]⟩ = true := by decide

set_option maxRecDepth 100000 in
set_option maxHeartbeats 2000000 in
theorem coded_any (k e s q : Int) (b str : ByteArray) (w : World) (hstr : str.size ≤ 140737488351232) :
    Calls Try.prog 3 #[.agg #[.int .i64 k, .int .i64 e, .int .i64 s, .int .i64 q, .string b], .string str] w fun r w' => r = .returned (.bool true) ∧ Below w.heap.size w w' := by
  go_enter Try.func3, Try.ntmps3
  go_upto_region 2 with (go_at_call 4; refine (courier_Encode_yes _ _ _ _ _ _ proper_hello).mono ?_; rintro r w1 ⟨v1, rfl, hown1, hb1⟩)
  have z1 := hb1.size
  simp only [World.size_alloc] at z1
  have fb1 := (frBox_new w k e s q b 23).below hb1 (by simp)
  have B1 := ((Below.refl w.heap.size w).alloc (Nat.le_refl _) (.cells #[.int .i64 k, .int .i64 e, .int .i64 s, .int .i64 q, .string b] 23)).trans (hb1.mono (by simp))
  obtain ⟨g1, cap1, rfl, hg1a, hg1b, _, _, _⟩ := hown1.addr (by decide)
  have A1 := hide hown1.at
  rw [show ([] : List UInt8) = (ByteArray.mk #[]).data.toList from rfl, Wire.length_bytes] at A1 ⊢
  clear hb1 hown1 hg1a
  go_upto_region 3 with (go_at_call 5; refine (courier_Decode_of _ _ _ _ _ _ _ proper_hello (unhide A1)).mono ?_; rintro r w2 ⟨rfl, hb2⟩)
  go_upto_region 5 with fail
  refine wp_world (fun X => FrBox X w.heap.size k e s q b ∧ Below w.heap.size w X ∧ w.heap.size < X.heap.size) ⟨?_, ?_, ?_⟩ ?_
  · exact (fb1.below hb2 (by omega)).below ((Below.refl _ _).alloc (Nat.le_refl _) _) (by have := hb2.size; omega)
  · exact (B1.trans (hb2.mono (by omega))).alloc (by have := hb2.size; omega) _
  · have := hb2.size; simp; omega
  clear hb2 B1 fb1 z1 A1 hg1b
  rintro X ⟨fb, BX, zX⟩
  obtain ⟨x0, x1, x2, x3, x4⟩ := id fb
  cases hp : Wire.proper k e s q b
  case' false =>
    go_upto_region 16 with (go_at_call 4; refine (courier_Encode_no _ _ _ _ _ _ hp).mono ?_; rintro r w3 ⟨rfl, hb3⟩)
    refine wp_world (fun X => Below w.heap.size w X) (BX.trans (hb3.mono (by omega))) ?_
    clear hb3 BX fb zX x0 x1 x2 x3 x4
    rintro Y hY
  case' true =>
    go_upto_region 6 with (go_at_call 4; refine (courier_Encode_yes _ _ _ _ _ _ hp).mono ?_; rintro r w3 ⟨v3, rfl, hown3, hb3⟩)
    obtain ⟨h1, h2, h3, h4, h5⟩ := proper_small hp
    have hL := Wire.length_bytes k e s q b.data.toList
    rw [show b.data.toList.length = b.size from by simp] at hL
    obtain ⟨g3, cap3, rfl, hg3a, hg3b, hg3c, hg3d, hg3e⟩ := hown3.addr (by omega)
    have A3 := hide hown3.at
    rw [hL] at A3 hg3c hg3e ⊢
    have HL := hide hL
    clear hL
    have H10 := Wire.at10_bytes k e s q b.data.toList (by simp; omega)
    rw [show b.data.toList.length = b.size from by simp] at H10
    have B3 := BX.trans (hb3.mono (by omega))
    have fb3 := fb.below hb3 (by omega)
    have z3 : w.heap.size < w3.heap.size := by have := hb3.size; omega
    clear hb3 BX fb zX x0 x1 x2 x3 x4 hg3a hown3
    have HH10 := hide H10
    clear H10
    go_upto_region 8 with (go_at_call 5; refine (courier_Decode_of _ _ _ _ _ _ _ hp (unhide A3)).mono ?_; rintro r w4 ⟨rfl, hb4⟩)
    have z4 := hb4.size
    refine wp_world (fun X => BytesAt X (.slice (some ⟨g3, 0, none⟩) (15 + b.size) cap3) (Wire.bytes k e s q b.data.toList) ∧ FrBox X w.heap.size k e s q b ∧ FrBox X w4.heap.size k e s q b ∧ Below w.heap.size w X ∧ w4.heap.size < X.heap.size) ⟨?_, ?_, ?_, ?_, ?_⟩ ?_
    · exact ((unhide A3).below hb4).below ((Below.refl _ _).alloc (Nat.le_refl _) _)
    · exact (fb3.below hb4 (by omega)).below ((Below.refl _ _).alloc (Nat.le_refl _) _) (by omega)
    · exact frBox_new w4 k e s q b 23
    · exact (B3.trans (hb4.mono (by omega))).alloc (by omega) _
    · simp
    clear hb4 B3 fb3 A3 hg3b
    rintro X5 ⟨A5, fb5, fx5, B5, z5⟩
    have z45 : w.heap.size < w4.heap.size := by omega
    -- one byte less
    have hsub : ((15 + b.size - 1 : Nat) : Int) = 15 + (b.size : Int) - 1 := by omega
    have A5' : Hid (BytesAt X5 (.slice (some ⟨g3, 0, none⟩) (14 + b.size) cap3) ((Wire.bytes k e s q b.data.toList).take (14 + b.size))) := by
      obtain ⟨ad, cap, hv, a1, a2, a3⟩ := A5
      rw [unhide HL] at hv a1 a2 a3
      injection hv with e1 e2 e3
      obtain ⟨b', off', rfl, a4⟩ := a3 (by omega)
      have hlen : ((Wire.bytes k e s q b.data.toList).take (14 + b.size)).length = 14 + b.size := by rw [List.length_take, unhide HL]; omega
      refine ⟨some ⟨b', off', none⟩, cap, by rw [hlen, e1, e3], by rw [hlen]; omega, by rw [hlen]; omega, fun _ => ⟨b', off', rfl, fun i hi => ?_⟩⟩
      rw [hlen] at hi
      rw [a4 i (by omega), List.getD_eq_getElem?_getD, List.getD_eq_getElem?_getD, List.getElem?_take, if_pos hi]
    have R5 : Hid (Wire.reads ((Wire.bytes k e s q b.data.toList).take (14 + b.size)) = false) := by
      have hlen : ((Wire.bytes k e s q b.data.toList).take (14 + b.size)).length = 14 + b.size := by rw [List.length_take, unhide HL]; omega
      have h10 : ((Wire.bytes k e s q b.data.toList).take (14 + b.size)).getD 10 0 = (Wire.bytes k e s q b.data.toList).getD 10 0 := by
        rw [List.getD_eq_getElem?_getD, List.getD_eq_getElem?_getD, List.getElem?_take, if_pos (by omega)]
      show _ = _
      unfold Wire.reads
      rw [Wire.whole_not (by rw [hlen, h10, unhide HH10]; omega)]; rfl
    have A5h := hide A5
    clear A5 hsub
    go_upto_region 9 with (go_at_call 5; refine (courier_Decode_not _ _ _ (unhide A5') (unhide R5)).mono ?_; rintro r w6 ⟨rfl, hb6⟩)
    have z6 := hb6.size
    obtain ⟨bx, hbx⟩ : ∃ bx, bx = w4.heap.size := ⟨_, rfl⟩
    refine wp_world (fun X => BytesAt X (.slice (some ⟨g3, 0, none⟩) (15 + b.size) cap3) (Wire.bytes k e s q b.data.toList) ∧ FrBox X w.heap.size k e s q b ∧ FrBox X w4.heap.size k e s q b ∧ Below w.heap.size w X ∧ w4.heap.size < X.heap.size) ⟨?_, ?_, ?_, ?_, ?_⟩ ?_
    · exact ((unhide A5h).below hb6).below ((Below.refl _ _).alloc (Nat.le_refl _) _)
    · exact (fb5.below hb6 (by omega)).below ((Below.refl _ _).alloc (Nat.le_refl _) _) (by omega)
    · exact (fx5.below hb6 (by omega)).below ((Below.refl _ _).alloc (Nat.le_refl _) _) (by omega)
    · exact (B5.trans (hb6.mono (by omega))).alloc (by omega) _
    · simp; omega
    clear hb6 B5 fb5 fx5 A5h A5' R5 z5 z6 bx hbx
    rintro X7 ⟨A7, fb7, fx7, B7, z7⟩
    have A7h := hide A7
    clear A7
    have hlpos : Hid (0 < (Wire.bytes k e s q b.data.toList).length) := by show _ < _; rw [unhide HL]; omega
    have hlsm : Hid ((Wire.bytes k e s q b.data.toList).length ≤ 281474976710656) := by show _ ≤ _; rw [unhide HL]; omega
    go_upto_region 10 with (go_at_call 6; refine (copied_any _ _ _ (unhide A7h) (unhide hlpos) (unhide hlsm)).mono ?_; rintro r w8 ⟨v8, rfl, hown8, hb8⟩)
    have z8 := hb8.size
    have O8 := hide hown8
    have fb8 := fb7.below hb8 (by omega)
    have fx8 := fx7.below hb8 (by omega)
    have B8 := B7.trans (hb8.mono (by omega))
    clear hown8 hb8 fb7 fx7 B7 A7h
    go_upto_region 11 with (at_builtin; refine wp_app_byte rfl _ _ rfl X7.heap.size _ _ 0 (unhide O8) rfl rfl (by omega) (by omega) (by rw [unhide HL]; omega) (by omega) ?_; intro v9 w9 hown9 hg9)
    have b9 := below_grown_new (B := X7.heap.size) hg9 z8 (fun g hg => ((unhide O8).lt g hg).1)
    have z9 := b9.size
    have fb9 := fb8.below b9 (by omega)
    have fx9 := fx8.below b9 (by omega)
    have B9 := B8.trans (b9.mono (by omega))
    have A9 := hide hown9.at
    have R9 : Hid (Wire.reads (Wire.bytes k e s q b.data.toList ++ [UInt8.ofNat ((0 : Int).toNat % 256)]) = false) := by
      have hlen : (Wire.bytes k e s q b.data.toList ++ [UInt8.ofNat ((0 : Int).toNat % 256)]).length = 16 + b.size := by rw [List.length_append, unhide HL]; simp; omega
      have h10 : (Wire.bytes k e s q b.data.toList ++ [UInt8.ofNat ((0 : Int).toNat % 256)]).getD 10 0 = (Wire.bytes k e s q b.data.toList).getD 10 0 := by
        rw [List.getD_eq_getElem?_getD, List.getD_eq_getElem?_getD, List.getElem?_append_left (by rw [unhide HL]; omega)]
      show _ = _
      unfold Wire.reads
      rw [Wire.whole_not (by rw [hlen, h10, unhide HH10]; omega)]; rfl
    clear hown9 hg9 b9 fb8 fx8 B8 O8
    go_upto_region 12 with (go_at_call 5; refine (courier_Decode_not _ _ _ (unhide A9) (unhide R9)).mono ?_; rintro r w10 ⟨rfl, hb10⟩)
    have z10 := hb10.size
    refine wp_world (fun X => FrBox X w.heap.size k e s q b ∧ FrBox X w4.heap.size k e s q b ∧ Below w.heap.size w X) ⟨?_, ?_, ?_⟩ ?_
    · exact (fb9.below hb10 (by omega)).below ((Below.refl _ _).alloc (Nat.le_refl _) _) (by omega)
    · exact (fx9.below hb10 (by omega)).below ((Below.refl _ _).alloc (Nat.le_refl _) _) (by omega)
    · exact (B9.trans (hb10.mono (by omega))).alloc (by omega) _
    clear hb10 B9 fb9 fx9 A9 R9 z10 z9 z8 z7
    rintro X11 ⟨⟨y0, y1, y2, y3, y4⟩, ⟨u0, u1, u2, u3, u4⟩, B11⟩
    go_upto_region 16 with fail
    refine wp_world (fun X => Below w.heap.size w X) B11 ?_
    clear B11 y0 y1 y2 y3 y4 u0 u1 u2 u3 u4 HL HH10 hlpos hlsm z4 z45 z3 h1 h2 h3 h4 h5 hg3c hg3d hg3e
    rintro Y hY
  all_goals
    obtain ⟨vs, Y2, hconv, hat, hbY⟩ := conv_bytes Y str (by omega)
    have HAT := hide hat
    have zY := hY.size
    have zY2 := hbY.size
    have BY := hide (hY.trans (hbY.mono zY))
    clear hat hY hbY
    cases hr : Wire.reads str.data.toList
    · have HR := hide hr
      clear hr
      go_wp2_with (go_at_call 5; refine (courier_Decode_not _ _ _ (unhide HAT) (unhide HR)).mono ?_; rintro r w12 ⟨rfl, hb12⟩)
      go_ret
      exact ⟨rfl, ((unhide BY).trans (hb12.mono (by omega))).alloc (by have := hb12.size; omega) _⟩
    · obtain ⟨hwh, hpr⟩ : Wire.whole str.data.toList = true ∧ Wire.proper (Wire.kindOf str.data.toList) (Wire.epochOf str.data.toList) (Wire.streamOf str.data.toList) (Wire.seqOf str.data.toList) (Wire.bodyOf str.data.toList) = true := by
        unfold Wire.reads at hr; rw [Bool.and_eq_true] at hr; exact hr
      have HD := hide (courier_Decode_any vs str.data.toList Y2 (unhide HAT))
      rw [hr, if_pos rfl] at HD
      unfold frVal at HD
      have HB := hide (Wire.whole_bytes hwh)
      have H0 : Hid (0 < str.data.toList.length) := by
        unfold Wire.whole at hwh; simp only [Bool.and_eq_true, decide_eq_true_eq] at hwh
        show _ < _; omega
      have HE := fun w' => hide (courier_Encode_yes _ _ _ _ _ w' hpr)
      rw [unhide HB] at HE
      clear hr hwh hpr HB
      generalize Wire.kindOf str.data.toList = yk at HD HE
      generalize Wire.epochOf str.data.toList = ye at HD HE
      generalize Wire.streamOf str.data.toList = ys at HD HE
      generalize Wire.seqOf str.data.toList = yq at HD HE
      generalize Wire.bodyOf str.data.toList = yb at HD HE
      go_upto_region 19 with (go_at_call 5; refine (unhide HD).mono ?_; rintro r w12 ⟨rfl, hb12⟩)
      have z12 := hb12.size
      have B12 := hide ((unhide BY).trans (hb12.mono (by omega)))
      clear hb12 BY
      go_upto_region 20 with (go_at_call 4; refine (unhide (HE _)).mono ?_; rintro r w13 ⟨v13, rfl, hown13, hb13⟩)
      have B13 := hide (((unhide B12).alloc (by omega) (.cells #[.int .i64 yk, .int .i64 ye, .int .i64 ys, .int .i64 yq, .string yb] 23)).trans (hb13.mono (by simp; omega)))
      have hsl : str.data.toList.length = str.size := by simp
      have hc13 : (convert 24 9 v13).run Try.prog w13 = .ok (.string str) w13 := by
        obtain ⟨g, cap, rfl, _, _, _, _, hc⟩ := hown13.addr (unhide H0)
        have := conv_str (cap := cap) rfl hc
        rw [this]
      clear hown13 hb13 B12 hsl
      go_wp2
      go_ret
      exact ⟨by simp, unhide B13⟩
end Go.Proofs.Ytamafdcnbcoegaa
