/-
  Package courier's doors: Encode, Decode.
-/
import Derived.Test.YtamafdcnbcoegaaGreatW5
namespace Go.Proofs.YtamafdcnbcoegaaGreat
open Go.RowKit
open Wire (whole)

/-- Bytes that lie somewhere, behind a slice. -/
def BytesAt (w : World) (v : Value) (l : List UInt8) : Prop :=
  ∃ ad cap, v = .slice ad l.length cap ∧ l.length ≤ cap ∧ l.length ≤ 9223372036854775807 ∧
    (0 < l.length → ∃ b off, ad = some ⟨b, off, none⟩ ∧ ∀ i, i < l.length → w.cell? ⟨b, off + i, none⟩ = some (.int .u8 (l.getD i 0).toNat))
theorem Owns.at {B : Nat} {w : World} {v : Value} {l : List UInt8} (h : Owns B w v l) : BytesAt w v l := by
  by_cases h0 : 0 < l.length
  · obtain ⟨g, cap, rfl, _, _, h1, h2, h3⟩ := h.addr h0
    exact ⟨_, cap, rfl, h1, by unfold maxLen at h2; omega, fun _ => ⟨g, 0, rfl, h3⟩⟩
  · obtain ⟨ad, cap, rfl, h1⟩ := h.shape
    exact ⟨ad, cap, rfl, h1, by omega, fun h => absurd h h0⟩
theorem BytesAt.below {w w' : World} {v : Value} {l : List UInt8} (h : BytesAt w v l) (hb : Below w.heap.size w w') : BytesAt w' v l := by
  obtain ⟨ad, cap, rfl, h1, h2, h3⟩ := h
  refine ⟨ad, cap, rfl, h1, h2, fun h0 => ?_⟩
  obtain ⟨b, off, rfl, hc⟩ := h3 h0
  exact ⟨b, off, rfl, fun i hi => (hb.cell (p := ⟨b, off + i, none⟩) (World.block_lt_of_cell? _ ⟨b, off + i, none⟩ (hc i hi))).trans (hc i hi)⟩

/-- P3: Decode answers the frame whose bytes these are, or ErrFrame. -/
theorem decode_any (v : Value) (l : List UInt8) (w : World) (h : BytesAt w v l) :
    Calls Tryz.prog 54 #[v] w fun r w' => r = .returned (if Wire.reads l = true then .tuple #[frVal l, .int .i64 0] else .tuple #[zeroFr, .int .i64 1]) ∧ Below w.heap.size w w' := by
  obtain ⟨ad, cap, rfl, hcap, hm, hc⟩ := h
  by_cases h15 : l.length < 15
  · have : Wire.reads l = false := by unfold Wire.reads whole; rw [decide_eq_false (by omega)]; simp
    rw [this]
    exact decode_short ad l.length cap w (by omega)
  · obtain ⟨b, off, rfl, hcc⟩ := hc (by omega)
    clear hc
    have hc := hcc
    clear hcc
    obtain ⟨k, hk⟩ : ∃ k, l.length = k + 15 := ⟨l.length - 15, by omega⟩
    rw [hk] at hcap hm hc
    rw [hk]
    cases hw : whole l
    · have : Wire.reads l = false := by unfold Wire.reads; rw [hw]; simp
      rw [this]
      exact decode_bad b off (k + 11) cap l w hk (by unfold maxLen; omega) hcap (by omega) hw hc
    · have hr : Wire.reads l = Wire.proper (Wire.kindOf l) (Wire.epochOf l) (Wire.streamOf l) (Wire.seqOf l) (Wire.bodyOf l) := by unfold Wire.reads; rw [hw]; simp
      rw [hr]
      have hbl : b < w.heap.size := World.block_lt_of_cell? _ _ (hc 0 (by omega))
      have cw : ∀ w', Below w.heap.size w w' → ∀ i, i < k + 15 → w'.cell? ⟨b, off + i, none⟩ = some (.int .u8 (l.getD i 0).toNat) := fun w' h i hi => (h.cell (p := ⟨b, off + i, none⟩) hbl).trans (hc i hi)
      have k1 := kindOf_range l
      have k3 := streamOf_range l
      refine decode_core b off k cap w (Wire.kindOf l) (Wire.epochOf l) (Wire.streamOf l) (Wire.seqOf l) (Wire.bodyOf l) hm hcap ⟨k1.1, by omega⟩ (Wire.numAt_range l 1) ⟨k3.1, by omega⟩ (Wire.numAt_range l 6) _ rfl ?_ ?_ ?_ ?_
      · intro o
        have := isWhole_long b off (k + 11) cap l (w.alloc o) hk (by unfold maxLen; omega) hcap (by omega) (fun i hi => by
          have := hc i hi
          rw [← this]; exact World.cell?_alloc_lt _ _ _ (World.block_lt_of_cell? _ _ this))
        rw [hw] at this
        exact this
      · intro w' h
        refine ⟨h, cw w' h 0 (by omega), cw w' h 5 (by omega), conv_str (l := (l.take (l.length - 4)).drop 11) (by simp; omega) (fun i hi => ?_)⟩
        rw [Nat.add_assoc, cw w' h (11 + i) (by omega)]
        simp only [List.getD_eq_getElem?_getD, List.getElem?_drop, List.getElem?_take]
        rw [if_pos (by omega)]
      · intro w' h
        exact number_bytes b (off + 1) (k + 14) (cap - 1) _ _ _ _ w' (by omega) (cw w' h 1 (by omega)) (cw w' h 2 (by omega)) (cw w' h 3 (by omega)) (cw w' h 4 (by omega))
      · intro w' h
        exact number_bytes b (off + 6) (k + 9) (cap - 6) _ _ _ _ w' (by omega) (cw w' h 6 (by omega)) (cw w' h 7 (by omega)) (cw w' h 8 (by omega)) (cw w' h 9 (by omega))

/-- P3: Encode, by courier's own door. -/
theorem courier_Encode_yes (k e s q : Int) (b : ByteArray) (w : World) (hp : Wire.proper k e s q b = true) :
    Calls Tryz.prog 36 #[.agg #[.int .i64 k, .int .i64 e, .int .i64 s, .int .i64 q, .string b]] w fun r w' =>
      ∃ v, r = .returned (.tuple #[v, .int .i64 0]) ∧ Owns (w.heap.size + 1) w' v (Wire.bytes k e s q b.data.toList) ∧ Below w.heap.size w w' := by
  have H := fun w' => hide (encode_yes' k e s q b w' hp)
  go_enter Tryz.func36, Tryz.ntmps36
  go_wp2_with (go_at_call 63; refine (unhide (H _)).mono ?_; rintro r w1 ⟨v, rfl, hown, hb⟩)
  go_ret2
  exact ⟨v, rfl, hown.mono (by simp), ((Below.refl _ _).alloc (Nat.le_refl _) _).trans (hb.mono (by simp))⟩
theorem courier_Encode_no (k e s q : Int) (b : ByteArray) (w : World) (hp : Wire.proper k e s q b = false) :
    Calls Tryz.prog 36 #[.agg #[.int .i64 k, .int .i64 e, .int .i64 s, .int .i64 q, .string b]] w fun r w' =>
      r = .returned (.tuple #[.slice none 0 0, .int .i64 1]) ∧ Below w.heap.size w w' := by
  have H := fun w' => hide (encode_no k e s q b w' hp)
  go_enter Tryz.func36, Tryz.ntmps36
  go_wp2_with (go_at_call 63; refine (unhide (H _)).mono ?_; rintro r w1 ⟨rfl, hb⟩)
  go_ret2
  exact ⟨rfl, ((Below.refl _ _).alloc (Nat.le_refl _) _).trans (hb.mono (by simp))⟩
theorem courier_Decode_gen (v : Value) (a b c d e : Int) (s : ByteArray) (w : World)
    (H : ∀ o, Hid (Calls Tryz.prog 54 #[v] (w.alloc o) fun r w' => r = .returned (.tuple #[.agg #[.int .i64 a, .int .i64 b, .int .i64 c, .int .i64 d, .string s], .int .i64 e]) ∧ Below (w.alloc o).heap.size (w.alloc o) w')) :
    Calls Tryz.prog 25 #[v] w fun r w' => r = .returned (.tuple #[.agg #[.int .i64 a, .int .i64 b, .int .i64 c, .int .i64 d, .string s], .int .i64 e]) ∧ Below w.heap.size w w' := by
  go_enter Tryz.func25, Tryz.ntmps25
  go_upto_region 1 with fail
  go_wp2_with (go_at_call 54; refine (unhide (H _)).mono ?_; rintro r w1 ⟨rfl, hb⟩; obtain ⟨z0, z1, z2, z3, z4⟩ := (frBox_new w 0 0 0 0 ⟨#[]⟩ 41).below hb (by simp); have fz : ∀ i, w1.frozen? ⟨w.heap.size, i, none⟩ = false := fun i => (hb.frozen (p := ⟨w.heap.size, i, none⟩) (by simp)).trans (by simp); have f0 := fz 0; have f1 := fz 1; have f2 := fz 2; have f3 := fz 3; have f4 := fz 4; have B1 := ((Below.refl w.heap.size w).alloc (Nat.le_refl _) (.cells #[.int .i64 0, .int .i64 0, .int .i64 0, .int .i64 0, .string ⟨#[]⟩] 41)).trans (hb.mono (by simp)); clear fz hb)
  refine bodyPost_ret (v := .tuple #[.agg #[.int .i64 a, .int .i64 b, .int .i64 c, .int .i64 d, .string s], .int .i64 e]) (by simp [results, Tryz.results25, go_sem, *]) rfl ⟨rfl, ?_⟩
  exact below_five B1 _ _ _ _ _

/-- P3: Decode, by courier's own door. -/
theorem courier_Decode_any (v : Value) (l : List UInt8) (w : World) (h : BytesAt w v l) :
    Calls Tryz.prog 25 #[v] w fun r w' => r = .returned (if Wire.reads l = true then .tuple #[frVal l, .int .i64 0] else .tuple #[zeroFr, .int .i64 1]) ∧ Below w.heap.size w w' := by
  have hA := fun o => hide (decode_any v l (w.alloc o) (h.below ((Below.refl _ _).alloc (Nat.le_refl _) _)))
  clear h
  cases hr : Wire.reads l
  all_goals
    simp only [hr, if_true, if_false, Bool.false_eq_true] at hA ⊢
    exact courier_Decode_gen v _ _ _ _ _ _ w hA
end Go.Proofs.YtamafdcnbcoegaaGreat
