/-
  Walks of courierref's wire: Encode, Read, Decode.
-/
import Derived.Test.YtamafdcnbcoegaaGreatR2
import Derived.Laws.ResultCell
namespace Go.Proofs.YtamafdcnbcoegaaGreat
open Go.RowKit

/-- The document's Encode. -/
theorem refEncode_yes (k e s q : Int) (b : ByteArray) (w : World) (hp : Wire.proper k e s q b = true) :
    Calls Tryz.prog 75 #[.agg #[.int .i64 k, .int .i64 e, .int .i64 s, .int .i64 q, .string b]] w fun r w' => r = .returned (.tuple #[.string ⟨(Wire.bytes k e s q b.data.toList).toArray⟩, .int .i64 0]) ∧ Below w.heap.size w w' := by
  obtain ⟨_, _, _, _, h5⟩ := proper_small hp
  have HP := fun w' => hide (refProper_any k e s q b w' (by omega))
  have HB := fun w' => hide (refBytes_any k e s q b w' hp)
  rw [hp] at HP
  clear hp h5
  generalize (⟨(Wire.bytes k e s q b.data.toList).toArray⟩ : ByteArray) = S at HB ⊢
  go_enter Tryz.func75, Tryz.ntmps75
  go_upto_region 4 with (go_at_call 113; refine (unhide (HP _)).mono ?_; rintro r w1 ⟨rfl, hb1⟩)
  have z1 := hb1.size
  simp only [World.size_alloc] at z1
  obtain ⟨y0, y1, y2, y3, y4⟩ := (frBox_new w k e s q b 41).below hb1 (by simp)
  have B1 := hide (((Below.refl w.heap.size w).alloc (Nat.le_refl _) (.cells #[.int .i64 k, .int .i64 e, .int .i64 s, .int .i64 q, .string b] 41)).trans (hb1.mono (by simp)))
  clear hb1
  go_wp2_with (go_at_call 51; refine (unhide (HB _)).mono ?_; rintro r w2 ⟨rfl, hb2⟩)
  go_ret2
  exact ⟨rfl, (unhide B1).trans (hb2.mono (by omega))⟩
theorem refEncode_no (k e s q : Int) (b : ByteArray) (w : World) (hb : b.size ≤ 9223372036854775807) (hp : Wire.proper k e s q b = false) :
    Calls Tryz.prog 75 #[.agg #[.int .i64 k, .int .i64 e, .int .i64 s, .int .i64 q, .string b]] w fun r w' => r = .returned (.tuple #[.string ⟨#[]⟩, .int .i64 1]) ∧ Below w.heap.size w w' := by
  have HP := fun w' => hide (refProper_any k e s q b w' hb)
  rw [hp] at HP
  clear hp hb
  go_enter Tryz.func75, Tryz.ntmps75
  go_wp2_with (go_at_call 113; refine (unhide (HP _)).mono ?_; rintro r w1 ⟨rfl, hb1⟩)
  go_ret2
  exact ⟨rfl, ((Below.refl _ _).alloc (Nat.le_refl _) _).trans (hb1.mono (by simp))⟩

theorem below_five' {w w1 : World} {B g : Nat} (h : Below B w w1) (hg : B ≤ g) (a b c d e : Value) :
    Below B w (((((w1.setCell ⟨g, 0, none⟩ a).setCell ⟨g, 1, none⟩ b).setCell ⟨g, 2, none⟩ c).setCell ⟨g, 3, none⟩ d).setCell ⟨g, 4, none⟩ e) :=
  ((((h.setCell (p := ⟨g, 0, none⟩) hg a).setCell (p := ⟨g, 1, none⟩) hg b).setCell (p := ⟨g, 2, none⟩) hg c).setCell (p := ⟨g, 3, none⟩) hg d).setCell (p := ⟨g, 4, none⟩) hg e
theorem cell_other {w : World} {b g i j : Nat} {v u : Value} (h : w.cell? ⟨b, i, none⟩ = some v) (hne : g ≠ b) : (w.setCell ⟨g, j, none⟩ u).cell? ⟨b, i, none⟩ = some v := by
  exact (World.cell?_setCell_other (w := w) (a := ⟨g, j, none⟩) (b := ⟨b, i, none⟩) (v := u) (by intro e; injection e with e1; exact hne e1)).trans h
theorem cell_off {w : World} {g i j : Nat} {v u : Value} (h : w.cell? ⟨g, i, none⟩ = some v) (hne : j ≠ i) : (w.setCell ⟨g, j, none⟩ u).cell? ⟨g, i, none⟩ = some v := by
  exact (World.cell?_setCell_other (w := w) (a := ⟨g, j, none⟩) (b := ⟨g, i, none⟩) (v := u) (by intro e; injection e with _ e2; exact hne e2)).trans h
theorem fr_after_other {w : World} {b g : Nat} {k e s q : Int} {body : ByteArray} (h : FrBox w b k e s q body) (hne : g ≠ b) (a0 a1 a2 a3 a4 : Value) :
    FrBox (((((w.setCell ⟨g, 0, none⟩ a0).setCell ⟨g, 1, none⟩ a1).setCell ⟨g, 2, none⟩ a2).setCell ⟨g, 3, none⟩ a3).setCell ⟨g, 4, none⟩ a4) b k e s q body := by
  obtain ⟨h0, h1, h2, h3, h4⟩ := h
  constructor
  all_goals
    refine cell_other (cell_other (cell_other (cell_other (cell_other ?_ hne) hne) hne) hne) hne
    assumption
theorem fr_after (w : World) {g : Nat} (h0 : ∃ v, w.cell? ⟨g, 0, none⟩ = some v) (h1 : ∃ v, w.cell? ⟨g, 1, none⟩ = some v) (h2 : ∃ v, w.cell? ⟨g, 2, none⟩ = some v) (h3 : ∃ v, w.cell? ⟨g, 3, none⟩ = some v) (h4 : ∃ v, w.cell? ⟨g, 4, none⟩ = some v)
    (k e s q : Int) (body : ByteArray) :
    FrBox (((((w.setCell ⟨g, 0, none⟩ (.int .i64 k)).setCell ⟨g, 1, none⟩ (.int .i64 e)).setCell ⟨g, 2, none⟩ (.int .i64 s)).setCell ⟨g, 3, none⟩ (.int .i64 q)).setCell ⟨g, 4, none⟩ (.string body)) g k e s q body := by
  obtain ⟨v0, h0⟩ := h0; obtain ⟨v1, h1⟩ := h1; obtain ⟨v2, h2⟩ := h2; obtain ⟨v3, h3⟩ := h3; obtain ⟨v4, h4⟩ := h4
  constructor
  · exact cell_off (cell_off (cell_off (cell_off (World.cell?_setCell_same _ _ _ h0) (by decide)) (by decide)) (by decide)) (by decide)
  · exact cell_off (cell_off (cell_off (World.cell?_setCell_same _ _ _ (cell_off h1 (by decide))) (by decide)) (by decide)) (by decide)
  · exact cell_off (cell_off (World.cell?_setCell_same _ _ _ (cell_off (cell_off h2 (by decide)) (by decide))) (by decide)) (by decide)
  · exact cell_off (World.cell?_setCell_same _ _ _ (cell_off (cell_off (cell_off h3 (by decide)) (by decide)) (by decide))) (by decide)
  · exact World.cell?_setCell_same _ _ _ (cell_off (cell_off (cell_off (cell_off h4 (by decide)) (by decide)) (by decide)) (by decide))

set_option maxHeartbeats 400000 in
theorem refRead_short (S : ByteArray) (w : World) (h : (S.size : Int) < 15) :
    Calls Tryz.prog 117 #[.string S] w fun r w' => r = .returned (.tuple #[zeroFr, .bool false]) ∧ Below w.heap.size w w' := by
  go_enter Tryz.func117, Tryz.ntmps117
  go_wp2
  refine bodyPost_ret (v := .tuple #[zeroFr, .bool false]) (by simp [results, Tryz.results117, go_sem, zeroFr]) rfl ⟨rfl, ?_⟩
  exact (Below.refl _ _).alloc (Nat.le_refl _) _

/-- A frame's place that a call has made: noughts, and free to be written. -/
def NewFr (B : Nat) (v : Value) (w : World) : Prop := ∃ g, v = .pointer (some ⟨g, 0, none⟩) ∧ B ≤ g ∧ FrBox w g 0 0 0 0 ⟨#[]⟩ ∧ ∀ i, w.frozen? ⟨g, i, none⟩ = false
theorem stable_newFr (B : Nat) : Stable (NewFr B) := by
  rintro v w w' ⟨g, rfl, hB, hf, hz⟩ hb
  have hg : g < w.heap.size := World.block_lt_of_cell? _ _ hf.c0
  exact ⟨g, rfl, hB, hf.below hb hg, fun i => (hb.frozen (p := ⟨g, i, none⟩) hg).trans (hz i)⟩

set_option maxRecDepth 100000 in
set_option maxHeartbeats 2000000 in
theorem refRead_core (S : ByteArray) (k : Nat) (hk : S.size = k + 15) (w : World) (hS : S.size ≤ 9223372036854775807) (kk ee ss qq : Int) (bd : ByteArray) (hbd : S.extract 11 (k + 11) = bd)
    (hkk : 0 ≤ kk ∧ kk < 4294967296) (hss : 0 ≤ ss ∧ ss < 4294967296)
    (p0 : 0 < S.size) (p5 : 5 < S.size) (H0 : (S[0].toNat : Int) = kk) (H5 : (S[5].toNat : Int) = ss)
    (HN1 : ∀ w', Hid (Calls Tryz.prog 166 #[.string S, .int .i64 1] w' fun e w'' => e = .returned (.int .i64 ee) ∧ ∃ n, w'' = w'.drewN n))
    (HN6 : ∀ w', Hid (Calls Tryz.prog 166 #[.string S, .int .i64 6] w' fun e w'' => e = .returned (.int .i64 qq) ∧ ∃ n, w'' = w'.drewN n))
    (p : Bool) (HP : ∀ w', Hid (Calls Tryz.prog 113 #[.agg #[.int .i64 kk, .int .i64 ee, .int .i64 ss, .int .i64 qq, .string bd]] w' fun r w'' => r = .returned (.bool p) ∧ Below w'.heap.size w' w''))
    (T : ByteArray) (HB : p = true → ∀ w', Hid (Calls Tryz.prog 51 #[.agg #[.int .i64 kk, .int .i64 ee, .int .i64 ss, .int .i64 qq, .string bd]] w' fun r w'' => r = .returned (.string T) ∧ Below w'.heap.size w' w'')) :
    Calls Tryz.prog 117 #[.string S] w fun r w' => r = .returned (if p = true then .tuple #[.agg #[.int .i64 kk, .int .i64 ee, .int .i64 ss, .int .i64 qq, .string bd], .bool (T.toList == S.toList)] else .tuple #[zeroFr, .bool false]) ∧ Below w.heap.size w w' := by
  have h15 : (15 : Int) ≤ (S.size : Int) := by omega
  have i0 : (0 : Int) < (S.size : Int) := by omega
  have i5 : (5 : Int) < (S.size : Int) := by omega
  have s4 : (4 : Int) ≤ (S.size : Int) := by omega
  have g1 : IntKind.i64.wrap ((S.size : Int) - 4) = (k : Int) + 11 := by rw [IntKind.wrap_i64]; omega
  have g3 : (S.size : Int) - 4 = (k : Int) + 11 := by omega
  have g4 : IntKind.i64.wrap ((k : Int) + 11) = (k : Int) + 11 := by rw [IntKind.wrap_i64]; omega
  have t1 : ((k : Int) + 11).toNat = k + 11 := by omega
  have l1 : (11 : Int) ≤ (k : Int) + 11 := by omega
  have l2 : (k : Int) + 11 ≤ (S.size : Int) := by omega
  have wk := wrap_small hkk
  have ws := wrap_small hss
  have m1 : k + 11 ≤ S.size := by omega
  clear hk
  go_enter Tryz.func117, Tryz.ntmps117
  go_upto_region 3 with fail
  refine wp_region_last (by kernel_rfl)
    [fun v _ => v = .string S, fun v _ => v = .int .u8 kk, fun v _ => v = .int .i64 kk, fun v _ => v = .string S, fun v _ => v = .int .i64 ee, fun v _ => v = .string S, fun v _ => v = .int .u8 ss, fun v _ => v = .int .i64 ss,
     fun v _ => v = .string S, fun v _ => v = .int .i64 qq, fun v _ => v = .string S, fun v _ => v = .string S, fun v _ => v = .int .i64 S.size, fun v _ => v = .int .i64 ((k : Int) + 11), fun v _ => v = .string bd,
     fun v _ => v = .agg #[.int .i64 kk, .int .i64 ee, .int .i64 ss, .int .i64 qq, .string bd], NewFr (w.heap.size + 1), fun _ _ => True]
    [[(0, none)], [(11, some 0)], [(12, some 1)], [(0, none)], [(14, some 3)], [(0, none)], [(16, some 5)], [(17, some 6)], [(0, none)], [(19, some 8)], [(0, none)], [(0, none)], [(22, some 11)], [(23, some 12)], [(21, some 10), (24, some 13)], [(13, some 2), (15, some 4), (18, some 7), (20, some 9), (25, some 14)], [], [(4, some 16), (26, some 15)]]
    [some 11, some 12, some 13, some 14, some 15, some 16, some 17, some 18, some 19, some 20, some 21, some 22, some 23, some 24, some 25, some 26, some 4, none]
    [false, false, false, false, true, false, false, false, false, false, false, true, true, true, true, true, true, true, true, true, true, true, true, true, true, true, true, false, false, false, false, false, false, false, false, false, false, false]
    17 _ rfl rfl (by kernel_rfl) (by kernel_rfl) (by kernel_rfl) (by kernel_rfl) (by kernel_rfl) (by kernel_rfl) ?_ ?_ ?_
  · repeat' (first | exact stable_eq _ | exact stable_newFr _ | exact stable_true | exact trivial | apply And.intro)
  · refine ⟨?_, ?_, ?_, ?_, ?_, ?_, ?_, ?_, ?_, ?_, ?_, ?_, ?_, ?_, ?_, ?_, ?_, trivial⟩
    all_goals
      intro a x hb hf
      have zx := hb.size
      simp only [World.size_alloc] at zx
      clear hb
      simp only [PlanFacts, List.getD_cons_zero, List.getD_cons_succ, Array.getD_eq_getD_getElem?] at hf
      try simp at hf
      try go_simp
      try exact Below.refl _ _
    · refine (unhide (HN1 _)).mono ?_
      rintro r w1 ⟨rfl, n2, rfl⟩
      exact ⟨rfl, below_drewN (Below.refl _ _) _⟩
    · refine (unhide (HN6 _)).mono ?_
      rintro r w1 ⟨rfl, n2, rfl⟩
      exact ⟨rfl, below_drewN (Below.refl _ _) _⟩
    · exact ⟨_, rfl, (Below.refl _ _).alloc (Nat.le_refl _) _, _, rfl, zx, frBox_new _ _ _ _ _ _ _, by intro i; simp⟩
  · intro f x hb hwd
    simp only [AllWords, List.take] at hwd
    obtain ⟨_, _, _, _, _, _, _, _, _, _, _, _, _, _, _, hf26, ⟨g, hf4, hgB, hfr, hfz⟩, _⟩ := hwd
    have zx := hb.size
    simp only [World.size_alloc] at zx
    have hz := (frBox_new w 0 0 0 0 ⟨#[]⟩ 41).below hb (by simp)
    have hzf : ∀ i, x.frozen? ⟨w.heap.size, i, none⟩ = false := fun i => (hb.frozen (p := ⟨w.heap.size, i, none⟩) (by simp)).trans (by simp)
    have hgl : g < x.heap.size := World.block_lt_of_cell? _ _ hfr.c0
    have BX := hide (((Below.refl w.heap.size w).alloc (Nat.le_refl _) (.cells #[.int .i64 0, .int .i64 0, .int .i64 0, .int .i64 0, .string ⟨#[]⟩] 41)).trans (hb.mono (by simp)))
    obtain ⟨y0, y1, y2, y3, y4⟩ := hfr
    have fz0 := hfz 0
    have fz1 := hfz 1
    have fz2 := hfz 2
    have fz3 := hfz 3
    have fz4 := hfz 4
    clear hb hfz
    simp only [mergeT, hf26, hf4]
    have hgw : g ≠ w.heap.size := by omega
    go_simp
    go_upto_region 4 with fail
    refine wp_world (fun X => FrBox X w.heap.size 0 0 0 0 ⟨#[]⟩ ∧ FrBox X g kk ee ss qq bd ∧ (∀ i, X.frozen? ⟨w.heap.size, i, none⟩ = false) ∧ Below w.heap.size w X ∧ g < X.heap.size) ⟨?_, ?_, ?_, ?_, ?_⟩ ?_
    · exact fr_after_other hz (by omega) _ _ _ _ _
    · exact fr_after _ ⟨_, y0⟩ ⟨_, y1⟩ ⟨_, y2⟩ ⟨_, y3⟩ ⟨_, y4⟩ _ _ _ _ _
    · intro i; simp [hzf]
    · exact below_five' (unhide BX) (by omega) _ _ _ _ _
    · simpa using hgl
    clear hz hzf hgl BX y0 y1 y2 y3 y4 fz0 fz1 fz2 fz3 fz4 zx
    rintro X ⟨z0, f0, hfz, hB, hsz⟩
    obtain ⟨x0, x1, x2, x3, x4⟩ := id f0
    cases p
    · go_upto_if 30 with (go_at_call 113; refine (unhide (HP _)).mono ?_; rintro r w3 ⟨rfl, hb3⟩)
      obtain ⟨z30, z31, z32, z33, z34⟩ := z0.below hb3 (by omega)
      have fz : ∀ i, w3.frozen? ⟨w.heap.size, i, none⟩ = false := fun i => (hb3.frozen (p := ⟨w.heap.size, i, none⟩) (by simp; omega)).trans (hfz i)
      have fz0 := fz 0
      have fz1 := fz 1
      have fz2 := fz 2
      have fz3 := fz 3
      have fz4 := fz 4
      have B3 := hB.trans (hb3.mono (by omega))
      clear fz hb3 z0 f0 hfz x0 x1 x2 x3 x4 HP hB hsz HB HN1 HN6 H0 H5 hbd
      go_wp2
      refine bodyPost_ret (v := .tuple #[zeroFr, .bool false]) (by simp [results, Tryz.results117, go_sem, zeroFr, *]) rfl ⟨rfl, ?_⟩
      exact below_five B3 _ _ _ _ _
    · go_upto_region 7 with (go_at_call 113; refine (unhide (HP _)).mono ?_; rintro r w3 ⟨rfl, hb3⟩)
      have f3 := f0.below hb3 hsz
      have z3 := z0.below hb3 (by omega)
      have fz3 : ∀ i, w3.frozen? ⟨w.heap.size, i, none⟩ = false := fun i => (hb3.frozen (p := ⟨w.heap.size, i, none⟩) (by simp; omega)).trans (hfz i)
      have B3 := hB.trans (hb3.mono (by omega))
      have s3 := hb3.size
      have hgl3 : g < w3.heap.size := by omega
      have HBh := hide (HB trivial)
      clear hb3 z0 f0 hfz x0 x1 x2 x3 x4 HP hB hsz HB HN1 HN6 H0 H5 hbd
      obtain ⟨x0, x1, x2, x3, x4⟩ := id f3
      go_upto_region 8 with (go_at_call 51; refine (unhide (unhide HBh _)).mono ?_; rintro r w4 ⟨rfl, hb4⟩)
      obtain ⟨u0, u1, u2, u3, u4⟩ := f3.below hb4 hgl3
      obtain ⟨z0, z1, z2, z3', z4⟩ := z3.below hb4 (by omega)
      have fz : ∀ i, w4.frozen? ⟨w.heap.size, i, none⟩ = false := fun i => (hb4.frozen (p := ⟨w.heap.size, i, none⟩) (by simp; omega)).trans (fz3 i)
      have fz0 := fz 0
      have fz1 := fz 1
      have fz2 := fz 2
      have fz3 := fz 3
      have fz4 := fz 4
      have B4 := B3.trans (hb4.mono (by omega))
      clear fz hb4 f3 z3 x0 x1 x2 x3 x4 HBh B3
      go_wp2
      refine bodyPost_ret (v := .tuple #[.agg #[.int .i64 kk, .int .i64 ee, .int .i64 ss, .int .i64 qq, .string bd], .bool (T.toList == S.toList)]) (by simp [results, Tryz.results117, go_sem, *]) rfl ⟨rfl, ?_⟩
      exact below_five B4 _ _ _ _ _

theorem extract_body (S : ByteArray) (k : Nat) (hk : S.size = k + 15) : S.extract 11 (k + 11) = Wire.bodyOf S.data.toList := by
  apply ByteArray.ext
  rw [ByteArray.data_extract]
  unfold Wire.bodyOf
  apply Array.ext'
  have hl : S.data.toList.length - 4 = k + 11 := by
    have : S.data.toList.length = S.size := by simp
    omega
  rw [hl]
  simp [List.extract_eq_take_drop, List.drop_take]
theorem toList_data (S : ByteArray) : S.toList = S.data.toList := ByteArray.toList_eq S
theorem byte_at (S : ByteArray) (i : Nat) (h : i < S.size) : S.data.toList.getD i 0 = S[i] := by
  have hl : i < S.data.toList.length := by simpa using h
  rw [List.getD_eq_getElem?_getD, List.getElem?_eq_getElem hl]; rfl

/-- Are the parts a frame's? -/
def partsOk (l : List UInt8) : Bool := decide (15 ≤ l.length) && Wire.proper (Wire.kindOf l) (Wire.epochOf l) (Wire.streamOf l) (Wire.seqOf l) (Wire.bodyOf l)
/-- The frame that the document's reading answers. -/
def readVal (l : List UInt8) : Value := if partsOk l = true then frVal l else zeroFr
theorem readVal_yes {l : List UInt8} (h : Wire.reads l = true) : readVal l = frVal l := by
  unfold Wire.reads at h
  rw [Bool.and_eq_true] at h
  have h2 := h.1
  unfold Wire.whole at h2
  rw [Bool.and_eq_true] at h2
  unfold readVal partsOk
  rw [h2.1, h.2]; rfl
theorem readVal_shape (l : List UInt8) : ∃ k e s q b, readVal l = .agg #[.int .i64 k, .int .i64 e, .int .i64 s, .int .i64 q, .string b] := by
  unfold readVal
  split
  · exact ⟨_, _, _, _, _, rfl⟩
  · exact ⟨_, _, _, _, _, rfl⟩

/-- The document's reading of bytes. -/
theorem refRead_any (S : ByteArray) (w : World) (hS : S.size ≤ 9223372036854775807) :
    Calls Tryz.prog 117 #[.string S] w fun r w' => r = .returned (.tuple #[readVal S.data.toList, .bool (Wire.reads S.data.toList)]) ∧ Below w.heap.size w w' := by
  have hsl : S.data.toList.length = S.size := by simp
  by_cases h15 : S.size < 15
  · refine (refRead_short S w (by omega)).mono ?_
    rintro r w' ⟨rfl, hb⟩
    have hr : Wire.reads S.data.toList = false := by unfold Wire.reads Wire.whole; rw [decide_eq_false (by omega)]; simp
    have hv : readVal S.data.toList = zeroFr := by unfold readVal partsOk; rw [decide_eq_false (by omega)]; simp
    exact ⟨by rw [hr, hv], hb⟩
  · obtain ⟨k, hk⟩ : ∃ k, S.size = k + 15 := ⟨S.size - 15, by omega⟩
    have k1 := kindOf_range S.data.toList
    have k3 := streamOf_range S.data.toList
    have hbs : (Wire.bodyOf S.data.toList).size ≤ 9223372036854775807 := by
      show ((S.data.toList.take (S.data.toList.length - 4)).drop 11).toArray.size ≤ _
      rw [List.size_toArray, List.length_drop, List.length_take]; omega
    refine (refRead_core S k hk w hS (Wire.kindOf S.data.toList) (Wire.epochOf S.data.toList) (Wire.streamOf S.data.toList) (Wire.seqOf S.data.toList) (Wire.bodyOf S.data.toList) (extract_body S k hk) ⟨k1.1, by omega⟩ ⟨k3.1, by omega⟩
      (by omega) (by omega) (by unfold Wire.kindOf; rw [byte_at S 0 (by omega)]) (by unfold Wire.streamOf; rw [byte_at S 5 (by omega)])
      (fun w' => refNumber_any S 1 w' (by omega) hS) (fun w' => refNumber_any S 6 w' (by omega) hS) _ (fun w' => refProper_any _ _ _ _ _ w' hbs) _ (fun hp w' => refBytes_any _ _ _ _ _ w' hp)).mono ?_
    rintro r w' ⟨rfl, hb⟩
    cases hp : Wire.proper (Wire.kindOf S.data.toList) (Wire.epochOf S.data.toList) (Wire.streamOf S.data.toList) (Wire.seqOf S.data.toList) (Wire.bodyOf S.data.toList)
    · have hr : Wire.reads S.data.toList = false := by unfold Wire.reads; rw [hp, Bool.and_false]
      have hv : readVal S.data.toList = zeroFr := by unfold readVal partsOk; rw [hp]; simp
      exact ⟨by rw [hr, hv]; rfl, hb⟩
    · have hv : readVal S.data.toList = frVal S.data.toList := by unfold readVal partsOk; rw [hp, decide_eq_true (by omega)]; rfl
      have hr : ((⟨(Wire.bytes (Wire.kindOf S.data.toList) (Wire.epochOf S.data.toList) (Wire.streamOf S.data.toList) (Wire.seqOf S.data.toList) (Wire.bodyOf S.data.toList).data.toList).toArray⟩ : ByteArray).toList == S.toList) = Wire.reads S.data.toList := by
        unfold Wire.reads
        rw [hp, Bool.and_true, toList_data, toList_data]
        cases hw : Wire.whole S.data.toList
        · apply beq_eq_false_iff_ne.2
          intro e
          obtain ⟨h1, h2, h3, h4, h5⟩ := proper_small hp
          have := (Wire.parts_bytes (k := Wire.kindOf S.data.toList) (e := Wire.epochOf S.data.toList) (s := Wire.streamOf S.data.toList) (q := Wire.seqOf S.data.toList) (b := Wire.bodyOf S.data.toList) (by omega) (by omega) (by omega) (by omega) (by omega)).1
          have e2 : Wire.bytes (Wire.kindOf S.data.toList) (Wire.epochOf S.data.toList) (Wire.streamOf S.data.toList) (Wire.seqOf S.data.toList) (Wire.bodyOf S.data.toList).data.toList = S.data.toList := e
          rw [e2, hw] at this
          cases this
        · apply beq_iff_eq.2
          simpa using Wire.whole_bytes hw
      exact ⟨by rw [if_pos rfl, hr, hv]; rfl, hb⟩

theorem refDecode_gen (S : ByteArray) (w : World) (k e s q : Int) (b : ByteArray) (ok : Bool)
    (H : ∀ w', Hid (Calls Tryz.prog 117 #[.string S] w' fun r w'' => r = .returned (.tuple #[.agg #[.int .i64 k, .int .i64 e, .int .i64 s, .int .i64 q, .string b], .bool ok]) ∧ Below w'.heap.size w' w'')) :
    Calls Tryz.prog 78 #[.string S] w fun r w' => r = .returned (if ok = true then .tuple #[.agg #[.int .i64 k, .int .i64 e, .int .i64 s, .int .i64 q, .string b], .int .i64 0] else .tuple #[zeroFr, .int .i64 1]) ∧ Below w.heap.size w w' := by
  go_enter Tryz.func78, Tryz.ntmps78
  go_upto_region 2 with (go_at_call 117; refine (unhide (H _)).mono ?_; rintro r w1 ⟨rfl, hb1⟩)
  have z1 := hb1.size
  simp only [World.size_alloc] at z1
  have z0 := (frBox_new w 0 0 0 0 ⟨#[]⟩ 41).below hb1 (by simp)
  have hfz : ∀ i, w1.frozen? ⟨w.heap.size, i, none⟩ = false := fun i => (hb1.frozen (p := ⟨w.heap.size, i, none⟩) (by simp)).trans (by simp)
  have B1 := ((Below.refl w.heap.size w).alloc (Nat.le_refl _) (.cells #[.int .i64 0, .int .i64 0, .int .i64 0, .int .i64 0, .string ⟨#[]⟩] 41)).trans (hb1.mono (by simp))
  refine wp_world (fun X => FrBox X w.heap.size 0 0 0 0 ⟨#[]⟩ ∧ FrBox X w1.heap.size k e s q b ∧ (∀ i, X.frozen? ⟨w.heap.size, i, none⟩ = false) ∧ Below w.heap.size w X) ⟨?_, ?_, ?_, ?_⟩ ?_
  · exact z0.below ((Below.refl _ _).alloc (Nat.le_refl _) _) (by omega)
  · exact frBox_new _ _ _ _ _ _ _
  · intro i
    have := hfz i
    rw [← this]
    apply World.frozen?_alloc_old
    show w.heap.size ≠ w1.heap.size
    omega
  · exact B1.alloc (by omega) _
  clear z0 hfz B1 hb1 H
  rintro X ⟨⟨z0, z1', z2, z3, z4⟩, ⟨x0, x1, x2, x3, x4⟩, hfz, hB⟩
  have fz0 := hfz 0
  have fz1 := hfz 1
  have fz2 := hfz 2
  have fz3 := hfz 3
  have fz4 := hfz 4
  have HB := hide hB
  clear hfz hB
  cases ok
  all_goals go_wp2
  · refine bodyPost_ret (v := .tuple #[zeroFr, .int .i64 1]) (by simp [results, Tryz.results78, go_sem, zeroFr, *]) rfl ⟨rfl, ?_⟩
    exact below_five (unhide HB) _ _ _ _ _
  · refine bodyPost_ret (v := .tuple #[.agg #[.int .i64 k, .int .i64 e, .int .i64 s, .int .i64 q, .string b], .int .i64 0]) (by simp [results, Tryz.results78, go_sem, *]) rfl ⟨rfl, ?_⟩
    exact below_five (unhide HB) _ _ _ _ _

/-- The document's Decode. -/
theorem refDecode_any (S : ByteArray) (w : World) (hS : S.size ≤ 9223372036854775807) :
    Calls Tryz.prog 78 #[.string S] w fun r w' => r = .returned (if Wire.reads S.data.toList = true then .tuple #[frVal S.data.toList, .int .i64 0] else .tuple #[zeroFr, .int .i64 1]) ∧ Below w.heap.size w w' := by
  obtain ⟨k, e, s, q, b, hv⟩ := readVal_shape S.data.toList
  have H : ∀ w', Hid (Calls Tryz.prog 117 #[.string S] w' fun r w'' => r = .returned (.tuple #[.agg #[.int .i64 k, .int .i64 e, .int .i64 s, .int .i64 q, .string b], .bool (Wire.reads S.data.toList)]) ∧ Below w'.heap.size w' w'') := fun w' => by
    have := refRead_any S w' hS
    rw [hv] at this
    exact this
  refine (refDecode_gen S w k e s q b _ H).mono ?_
  rintro r w' ⟨rfl, hb⟩
  refine ⟨?_, hb⟩
  split
  · rename_i h
    rw [← readVal_yes h, hv]
  · rfl
end Go.Proofs.YtamafdcnbcoegaaGreat
