/-
  Walks of package frame: Encode.
-/
import Derived.Test.YtamafdcnbcoegaaGreatW3
namespace Go.Proofs.YtamafdcnbcoegaaGreat
open Go.RowKit

/-- The cells of a frame that lies in a block of its own. -/
structure FrBox (w : World) (b : Nat) (k e s q : Int) (body : ByteArray) : Prop where
  c0 : w.cell? ⟨b, 0, none⟩ = some (.int .i64 k)
  c1 : w.cell? ⟨b, 1, none⟩ = some (.int .i64 e)
  c2 : w.cell? ⟨b, 2, none⟩ = some (.int .i64 s)
  c3 : w.cell? ⟨b, 3, none⟩ = some (.int .i64 q)
  c4 : w.cell? ⟨b, 4, none⟩ = some (.string body)
theorem frBox_new (w : World) (k e s q : Int) (body : ByteArray) (t : TypeId) : FrBox (w.alloc (.cells #[.int .i64 k, .int .i64 e, .int .i64 s, .int .i64 q, .string body] t)) w.heap.size k e s q body := by
  constructor <;> simp
theorem FrBox.below {w w' : World} {b C : Nat} {k e s q : Int} {body : ByteArray} (h : FrBox w b k e s q body) (hb : Below C w w') (hC : b < C) : FrBox w' b k e s q body :=
  ⟨(hb.cell (p := ⟨b, 0, none⟩) hC).trans h.c0, (hb.cell (p := ⟨b, 1, none⟩) hC).trans h.c1, (hb.cell (p := ⟨b, 2, none⟩) hC).trans h.c2, (hb.cell (p := ⟨b, 3, none⟩) hC).trans h.c3, (hb.cell (p := ⟨b, 4, none⟩) hC).trans h.c4⟩

set_option maxHeartbeats 400000 in
theorem encode_no (k e s q : Int) (b : ByteArray) (w : World) (hp : Wire.proper k e s q b = false) :
    Calls Tryz.prog 63 #[.agg #[.int .i64 k, .int .i64 e, .int .i64 s, .int .i64 q, .string b]] w fun r w' => r = .returned (.tuple #[.slice none 0 0, .int .i64 1]) ∧ Below w.heap.size w w' := by
  go_enter Tryz.func63, Tryz.ntmps63
  go_wp2_with (go_at_call 96; refine (isFrame_any _ _ _ _ _ _).mono ?_; rintro r w1 ⟨rfl, hb1⟩)
  rename_i hb1
  go_ret2
  exact ⟨rfl, ((Below.refl _ _).alloc (Nat.le_refl _) _).trans (hb1.mono (by simp))⟩

theorem enc_next {W w w' : World} {b C : Nat} {k e s q : Int} {body : ByteArray} {v : Value} {l : List UInt8} (fb : FrBox w b k e s q body) (B : Below b W w) (hown : Owns C w v l) (hb : b < C) (hz : C ≤ w.heap.size)
    (hg : w.grownBy w' v.ownBlock) : FrBox w' b k e s q body ∧ Below b W w' ∧ C ≤ w'.heap.size := by
  have h1 : Below C w w' := below_grown_new hg hz (fun g hg => (hown.lt g hg).1)
  exact ⟨fb.below h1 hb, B.trans (h1.mono (by omega)), by have := h1.size; omega⟩
theorem enc_list (k e s q : Int) (b : ByteArray) :
    ([] ++ [UInt8.ofNat (k.toNat % 256)] ++ Wire.le4 e ++ [UInt8.ofNat (s.toNat % 256)] ++ Wire.le4 q ++ [UInt8.ofNat ((b.size : Int).toNat % 256)] ++ b.data.toList) = Wire.front k e s q b.data.toList := by
  simp [Wire.front]

set_option maxRecDepth 100000 in
set_option maxHeartbeats 2000000 in
theorem frameBytes_small (k e s q : Int) (b : ByteArray) (w : World) (hk : 0 ≤ k ∧ k < 256) (he : 0 ≤ e ∧ e < 4294967296) (hs : 0 ≤ s ∧ s < 256) (hq : 0 ≤ q ∧ q < 4294967296) (hb : b.size < 256) :
    Calls Tryz.prog 92 #[.agg #[.int .i64 k, .int .i64 e, .int .i64 s, .int .i64 q, .string b]] w fun r w' =>
      ∃ v, r = .returned v ∧ Owns (w.heap.size + 1) w' v (Wire.bytes k e s q b.data.toList) ∧ Below w.heap.size w w' := by
  go_enter Tryz.func92, Tryz.ntmps92
  go_upto_region 1 with fail
  have fb1 := frBox_new w k e s q b 41
  have B1 := (Below.refl w.heap.size w).alloc (Nat.le_refl _) (.cells #[.int .i64 k, .int .i64 e, .int .i64 s, .int .i64 q, .string b] 41)
  have z1 : w.heap.size + 1 ≤ (w.alloc (.cells #[.int .i64 k, .int .i64 e, .int .i64 s, .int .i64 q, .string b] 41)).heap.size := by simp
  generalize w.alloc (.cells #[.int .i64 k, .int .i64 e, .int .i64 s, .int .i64 q, .string b] 41) = w1 at *
  obtain ⟨x0, x1, x2, x3, x4⟩ := id fb1
  go_upto_region 2 with (at_make; refine wp_make_bytes rfl _ _ rfl (w.heap.size + 1) _ _ _ (15 + b.size) rfl rfl (by omega) (by omega) (by omega) ?_; intro w2 hown2 hg2)
  have b2 := below_grown_new (B := w.heap.size + 1) hg2 (by omega) (by simp)
  have z2 : w.heap.size + 1 ≤ w2.heap.size := by have := b2.size; omega
  have fb2 := fb1.below b2 (by omega)
  have B2 := B1.trans (b2.mono (by omega))
  have O2 := hide hown2
  clear hg2 b2 fb1 B1 x0 x1 x2 x3 x4 z1 hown2
  obtain ⟨x0, x1, x2, x3, x4⟩ := id fb2
  go_upto_region 3 with (at_builtin; refine wp_app_byte rfl _ _ rfl (w.heap.size + 1) _ [] k (unhide O2) rfl rfl (by omega) (by omega) (by simp) (by omega) ?_; intro v3 w3 hown3 hg3)
  obtain ⟨fb3, B3, z3⟩ := enc_next fb2 B2 (unhide O2) (by omega) z2 hg3
  have O3 := hide hown3
  clear hown3 hg3 fb2 B2 O2 z2 x0 x1 x2 x3 x4
  obtain ⟨x0, x1, x2, x3, x4⟩ := id fb3
  go_upto_region 4 with (go_at_call 135; refine (appendNumber_any (w.heap.size + 1) e v3 _ w3 (by simp) (by omega) (by omega) (unhide O3)).mono ?_; rintro r w4 ⟨v4, rfl, hown4, hg4⟩)
  obtain ⟨fb4, B4, z4⟩ := enc_next fb3 B3 (unhide O3) (by omega) z3 hg4
  have O4 := hide hown4
  clear hown4 hg4 fb3 B3 O3 z3 x0 x1 x2 x3 x4
  obtain ⟨x0, x1, x2, x3, x4⟩ := id fb4
  go_upto_region 5 with (at_builtin; refine wp_app_byte rfl _ _ rfl (w.heap.size + 1) _ _ s (unhide O4) rfl rfl (by omega) (by omega) (by simp [Wire.length_le4]) (by omega) ?_; intro v5 w5 hown5 hg5)
  obtain ⟨fb5, B5, z5⟩ := enc_next fb4 B4 (unhide O4) (by omega) z4 hg5
  have O5 := hide hown5
  clear hown5 hg5 fb4 B4 O4 z4 x0 x1 x2 x3 x4
  obtain ⟨x0, x1, x2, x3, x4⟩ := id fb5
  go_upto_region 6 with (go_at_call 135; refine (appendNumber_any (w.heap.size + 1) q v5 _ w5 (by simp [Wire.length_le4]) (by omega) (by omega) (unhide O5)).mono ?_; rintro r w6 ⟨v6, rfl, hown6, hg6⟩)
  obtain ⟨fb6, B6, z6⟩ := enc_next fb5 B5 (unhide O5) (by omega) z5 hg6
  have O6 := hide hown6
  clear hown6 hg6 fb5 B5 O5 z5 x0 x1 x2 x3 x4
  obtain ⟨x0, x1, x2, x3, x4⟩ := id fb6
  go_upto_region 7 with (at_builtin; refine wp_app_byte rfl _ _ rfl (w.heap.size + 1) _ _ (b.size : Int) (unhide O6) rfl rfl (by omega) (by omega) (by simp [Wire.length_le4]) (by omega) ?_; intro v7 w7 hown7 hg7)
  obtain ⟨fb7, B7, z7⟩ := enc_next fb6 B6 (unhide O6) (by omega) z6 hg7
  have O7 := hide hown7
  clear hown7 hg7 fb6 B6 O6 z6 x0 x1 x2 x3 x4
  obtain ⟨x0, x1, x2, x3, x4⟩ := id fb7
  go_upto_region 8 with (at_builtin; refine wp_app_str rfl _ _ rfl (w.heap.size + 1) _ _ (unhide O7) rfl b rfl (by simp [Wire.length_le4]; omega) (by omega) ?_; intro v8 w8 hown8 hg8)
  obtain ⟨fb8, B8, z8⟩ := enc_next fb7 B7 (unhide O7) (by omega) z7 hg8
  rw [enc_list] at hown8
  clear hg8 fb7 B7 O7 z7 x0 x1 x2 x3 x4 fb8
  have hlen : (Wire.front k e s q b.data.toList).length = 11 + b.size := by simp [Wire.front, Wire.length_le4]; omega
  obtain ⟨g, cap, rfl, hgB, hgl, hcap1, hcap2, hcell⟩ := hown8.addr (by omega)
  have O8 := hide hown8
  have HC := hide hcell
  clear hown8 hcell
  have hl2 : (Wire.front k e s q b.data.toList).length ≤ 1000 := by omega
  have hby : Hid (Wire.bytes k e s q b.data.toList = Wire.front k e s q b.data.toList ++ Wire.le4 (Wire.sum (Wire.front k e s q b.data.toList))) := rfl
  have hsr := Wire.sum_range (Wire.front k e s q b.data.toList)
  clear hlen
  generalize Wire.front k e s q b.data.toList = fr at *
  go_wp2_with (first
    | (go_at_call 136; refine (sum_bytes g 0 fr.length cap fr w8 rfl (by unfold maxLen; omega) (unhide HC)).mono ?_; rintro r w9 ⟨rfl, rfl⟩)
    | (go_at_call 135; refine (appendNumber_any (w.heap.size + 1) _ _ fr _ hl2 (by omega) hsr.1 (unhide O8)).mono ?_; rintro r w10 ⟨v10, rfl, hown10, hg10⟩))
  have b10 : Below (w.heap.size + 1) w9 w10 := below_grown_new hg10 z8 (fun g hg => ((unhide O8).lt g hg).1)
  go_ret
  exact ⟨v10, rfl, by rw [unhide hby]; exact hown10, B8.trans (b10.mono (by omega))⟩

/-- What is proper has small parts. -/
theorem proper_small {k e s q : Int} {b : ByteArray} (h : Wire.proper k e s q b = true) :
    (1 ≤ k ∧ k ≤ 5) ∧ (0 ≤ e ∧ e ≤ 2147483647) ∧ (0 ≤ s ∧ s < 3) ∧ (0 ≤ q ∧ q ≤ 2147483647) ∧ b.size ≤ 20 := by
  unfold Wire.proper at h
  rw [Bool.and_eq_true] at h
  obtain ⟨he, h⟩ := h
  have he' : 0 ≤ e ∧ e ≤ 2147483647 := by simpa [Wire.isNum] using he
  split at h
  · simp only [Bool.and_eq_true, decide_eq_true_eq] at h; omega
  split at h
  · simp only [Wire.welBody, Bool.and_eq_true, decide_eq_true_eq] at h; omega
  split at h
  · simp [Wire.isStr, Wire.isNum] at h; omega
  split at h
  · simp [Wire.isStr, Wire.isNum, Wire.ackBody] at h; omega
  · cases h

/-- frame.Bytes: the bytes of a frame. -/
theorem frameBytes_any (k e s q : Int) (b : ByteArray) (w : World) (hp : Wire.proper k e s q b = true) :
    Calls Tryz.prog 92 #[.agg #[.int .i64 k, .int .i64 e, .int .i64 s, .int .i64 q, .string b]] w fun r w' =>
      ∃ v, r = .returned v ∧ Owns (w.heap.size + 1) w' v (Wire.bytes k e s q b.data.toList) ∧ Below w.heap.size w w' := by
  obtain ⟨h1, h2, h3, h4, h5⟩ := proper_small hp
  exact frameBytes_small k e s q b w (by omega) (by omega) (by omega) (by omega) (by omega)

theorem encode_yes' (k e s q : Int) (b : ByteArray) (w : World) (hp : Wire.proper k e s q b = true) :
    Calls Tryz.prog 63 #[.agg #[.int .i64 k, .int .i64 e, .int .i64 s, .int .i64 q, .string b]] w fun r w' =>
      ∃ v, r = .returned (.tuple #[v, .int .i64 0]) ∧ Owns (w.heap.size + 1) w' v (Wire.bytes k e s q b.data.toList) ∧ Below w.heap.size w w' := by
  have HF := fun w' => hide (frameBytes_any k e s q b w' hp)
  go_enter Tryz.func63, Tryz.ntmps63
  go_upto_region 3 with (go_at_call 96; refine (isFrame_any _ _ _ _ _ _).mono ?_; rintro r w1 ⟨rfl, hb1⟩)
  have fb1 := (frBox_new w k e s q b 41).below hb1 (by simp)
  have z1 := hb1.size
  have B1 := ((Below.refl w.heap.size w).alloc (Nat.le_refl _) (.cells #[.int .i64 k, .int .i64 e, .int .i64 s, .int .i64 q, .string b] 41)).trans (hb1.mono (by simp))
  clear hb1
  simp only [World.size_alloc] at z1
  obtain ⟨x0, x1, x2, x3, x4⟩ := id fb1
  go_wp2_with (go_at_call 92; refine (unhide (HF _)).mono ?_; rintro r w2 ⟨v, rfl, hown, hb2⟩)
  go_ret2
  exact ⟨v, rfl, hown.mono (by omega), B1.trans (hb2.mono (by omega))⟩
end Go.Proofs.YtamafdcnbcoegaaGreat
