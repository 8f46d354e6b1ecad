/-
  Walks of package frame: Decode.
-/
import Derived.Test.YtamafdcnbcoegaaGreatW4
import Derived.Test.YtamafdcnbcoegaaGreatWire2
import Derived.Deep.RegionHeld3
import Derived.Laws.ResultCell
namespace Go.Proofs.YtamafdcnbcoegaaGreat
open Go.RowKit
open Wire (whole)

/-- The frame that stands beside an error. -/
def zeroFr : Value := .agg #[.int .i64 0, .int .i64 0, .int .i64 0, .int .i64 0, .string ⟨#[]⟩]

theorem below_five {w w1 : World} {B : Nat} (h : Below B w w1) (a b c d e : Value) :
    Below B w (((((w1.setCell ⟨B, 0, none⟩ a).setCell ⟨B, 1, none⟩ b).setCell ⟨B, 2, none⟩ c).setCell ⟨B, 3, none⟩ d).setCell ⟨B, 4, none⟩ e) :=
  ((((h.setCell (p := ⟨B, 0, none⟩) (Nat.le_refl _) a).setCell (p := ⟨B, 1, none⟩) (Nat.le_refl _) b).setCell (p := ⟨B, 2, none⟩) (Nat.le_refl _) c).setCell (p := ⟨B, 3, none⟩) (Nat.le_refl _) d).setCell (p := ⟨B, 4, none⟩) (Nat.le_refl _) e

set_option maxHeartbeats 400000 in
theorem decode_short (ad : Option Addr) (len cap : Nat) (w : World) (h : (len : Int) < 15) :
    Calls Tryz.prog 54 #[.slice ad len cap] w fun r w' => r = .returned (.tuple #[zeroFr, .int .i64 1]) ∧ Below w.heap.size w w' := by
  go_enter Tryz.func54, Tryz.ntmps54
  go_wp2_with (go_at_call 94; refine (isWhole_short _ _ _ _ h).mono ?_; rintro r w1 ⟨rfl, rfl⟩)
  refine bodyPost_ret (v := .tuple #[zeroFr, .int .i64 1]) (by simp [results, Tryz.results54, go_sem, zeroFr]) rfl ⟨rfl, ?_⟩
  exact (Below.refl _ _).alloc (Nat.le_refl _) _

set_option maxHeartbeats 1000000 in
theorem decode_bad (b off m cap : Nat) (l : List UInt8) (w : World) (hlen : l.length = m + 4) (hm : m + 4 ≤ maxLen) (hcap : m + 4 ≤ cap) (h15 : 11 ≤ m) (hw : whole l = false)
    (hc : ∀ i, i < m + 4 → w.cell? ⟨b, off + i, none⟩ = some (.int .u8 (l.getD i 0).toNat)) :
    Calls Tryz.prog 54 #[.slice (some ⟨b, off, none⟩) (m + 4) cap] w fun r w' => r = .returned (.tuple #[zeroFr, .int .i64 1]) ∧ Below w.heap.size w w' := by
  have HI := fun o => hide (isWhole_long b off m cap l (w.alloc o) hlen hm hcap h15 (fun i hi => by
    have := hc i hi
    rw [← this]; exact World.cell?_alloc_lt _ _ _ (World.block_lt_of_cell? _ _ this)))
  rw [hw] at HI
  clear hc
  go_enter Tryz.func54, Tryz.ntmps54
  go_wp2_with (go_at_call 94; refine (unhide (HI _)).mono ?_; rintro r w1 ⟨rfl, n1, rfl⟩)
  refine bodyPost_ret (v := .tuple #[zeroFr, .int .i64 1]) (by simp [results, Tryz.results54, go_sem, zeroFr]) rfl ⟨rfl, ?_⟩
  exact below_five (below_drewN ((Below.refl _ _).alloc (Nat.le_refl _) _) _) _ _ _ _ _

/-- What the frame's parts look like, as a value. -/
def frVal (l : List UInt8) : Value := .agg #[.int .i64 (Wire.kindOf l), .int .i64 (Wire.epochOf l), .int .i64 (Wire.streamOf l), .int .i64 (Wire.seqOf l), .string (Wire.bodyOf l)]
theorem kindOf_range (l : List UInt8) : 0 ≤ Wire.kindOf l ∧ Wire.kindOf l < 256 := by
  have := (l.getD 0 0).toNat_lt; unfold Wire.kindOf; omega
theorem streamOf_range (l : List UInt8) : 0 ≤ Wire.streamOf l ∧ Wire.streamOf l < 256 := by
  have := (l.getD 5 0).toNat_lt; unfold Wire.streamOf; omega
theorem wrap_small {n : Int} (h : 0 ≤ n ∧ n < 4294967296) : IntKind.i64.wrap n = n := by rw [IntKind.wrap_i64]; omega

set_option maxRecDepth 100000 in
set_option maxHeartbeats 4000000 in
theorem decode_core (b off k cap : Nat) (w : World) (kk ee ss qq : Int) (bd : ByteArray) (hm : k + 15 ≤ 9223372036854775807) (hcap : k + 15 ≤ cap)
    (hkk : 0 ≤ kk ∧ kk < 4294967296) (hee : 0 ≤ ee ∧ ee < 4294967296) (hss : 0 ≤ ss ∧ ss < 4294967296) (hqq : 0 ≤ qq ∧ qq < 4294967296) (p : Bool) (hp : Wire.proper kk ee ss qq bd = p)
    (HI : ∀ o, Hid (Calls Tryz.prog 94 #[.slice (some ⟨b, off, none⟩) (k + 15) cap] (w.alloc o) fun r w' => r = .returned (.bool true) ∧ ∃ n, w' = (w.alloc o).drewN n))
    (HS : Hid (∀ w', Below w.heap.size w w' → Below w.heap.size w w' ∧ w'.cell? ⟨b, off, none⟩ = some (.int .u8 kk) ∧ w'.cell? ⟨b, off + 5, none⟩ = some (.int .u8 ss) ∧
      (convert 44 9 (.slice (some ⟨b, off + 11, none⟩) k (cap - 11))).run Tryz.prog w' = .ok (.string bd) w'))
    (HN1 : Hid (∀ w', Below w.heap.size w w' → Calls Tryz.prog 95 #[.slice (some ⟨b, off + 1, none⟩) (k + 14) (cap - 1)] w' fun e w'' => e = .returned (.int .u32 ee) ∧ ∃ n, w'' = w'.drewN n))
    (HN6 : Hid (∀ w', Below w.heap.size w w' → Calls Tryz.prog 95 #[.slice (some ⟨b, off + 6, none⟩) (k + 9) (cap - 6)] w' fun e w'' => e = .returned (.int .u32 qq) ∧ ∃ n, w'' = w'.drewN n)) :
    Calls Tryz.prog 54 #[.slice (some ⟨b, off, none⟩) (k + 15) cap] w fun r w' =>
      r = .returned (if p = true then .tuple #[.agg #[.int .i64 kk, .int .i64 ee, .int .i64 ss, .int .i64 qq, .string bd], .int .i64 0] else .tuple #[zeroFr, .int .i64 1]) ∧ Below w.heap.size w w' := by
  have HF := fun w' => hide (isFrame_any kk ee ss qq bd w')
  rw [hp] at HF
  clear hp
  have i0 : (0 : Int) < (k : Int) + 15 := by omega
  have i5 : (5 : Int) < (k : Int) + 15 := by omega
  have s1 : (1 : Int) ≤ (k : Int) + 15 := by omega
  have s6 : (6 : Int) ≤ (k : Int) + 15 := by omega
  have s11 : (11 : Int) ≤ (k : Int) + 11 := by omega
  have sc : (k : Int) + 11 ≤ (cap : Int) := by omega
  have s4 : (4 : Int) ≤ (k : Int) + 15 := by omega
  have sd : (k : Int) + 15 - 4 ≤ (cap : Int) := by omega
  have t1 : ((k : Int) + 11).toNat - 11 = k := by omega
  have t2 : ((k : Int) + 15 - 4).toNat - 11 = k := by omega
  have t3 : (11 : Int) ≤ max ((k : Int) + 15 - 4) 0 := by omega
  have g1 : IntKind.i64.wrap ((k : Int) + 15 - 4) = (k : Int) + 11 := by rw [IntKind.wrap_i64]; omega
  have g2 : IntKind.i64.wrap (((k + 15 : Nat) : Int) - 4) = (k : Int) + 11 := by rw [IntKind.wrap_i64]; omega
  have tok1 : True := trivial
  have k1 : ¬ cap = 1 := by omega
  have k6 : ¬ cap = 6 := by omega
  have k11 : ¬ cap = 11 := by omega
  have wk := wrap_small hkk
  have we := wrap_small hee
  have ws := wrap_small hss
  have wq := wrap_small hqq
  go_enter Tryz.func54, Tryz.ntmps54
  go_upto_region 3 with (go_at_call 94; refine (unhide (HI _)).mono ?_; rintro r w1 ⟨rfl, n1, rfl⟩)
  go_region_held3 (fun w' => Below w.heap.size w w' ∧ w'.cell? ⟨b, off, none⟩ = some (.int .u8 kk) ∧ w'.cell? ⟨b, off + 5, none⟩ = some (.int .u8 ss) ∧
    (convert 44 9 (.slice (some ⟨b, off + 11, none⟩) k (cap - 11))).run Tryz.prog w' = .ok (.string bd) w')
    ((refine unhide HS _ ?_; repeat (first | with_reducible exact Below.refl _ _ | with_reducible refine below_drewN ?_ _ | with_reducible refine Below.drew ?_ | with_reducible refine Below.alloc ?_ (by simp) _ | with_reducible refine Below.setCell ?_ (by simp) _)))
    (first
      | (go_at_call 95; have _t := tok1; refine (unhide HN1 _ ?_).mono ?_; (focus (repeat (first | with_reducible exact Below.refl _ _ | with_reducible refine below_drewN ?_ _ | with_reducible refine Below.drew ?_ | with_reducible refine Below.alloc ?_ (by simp) _ | with_reducible refine Below.setCell ?_ (by simp) _))); clear tok1; rintro r w1 ⟨rfl, n2, rfl⟩)
      | (go_at_call 95; refine (unhide HN6 _ ?_).mono ?_; (focus (repeat (first | with_reducible exact Below.refl _ _ | with_reducible refine below_drewN ?_ _ | with_reducible refine Below.drew ?_ | with_reducible refine Below.alloc ?_ (by simp) _ | with_reducible refine Below.setCell ?_ (by simp) _))); rintro r w1 ⟨rfl, n2, rfl⟩))
  all_goals
    clear HS HN1 HN6 HI i0 i5 s1 s6 s11 sc s4 sd t1 t2 t3 g1 g2 k1 k6 k11 wk we ws wq
    rename Below _ _ _ ∧ _ => hH
    have hB := hH.1
    clear hH
  all_goals
    go_upto_region 4 with fail
    refine wp_world (fun X => FrBox X w.heap.size 0 0 0 0 ⟨#[]⟩ ∧ FrBox X (w.heap.size + 1) kk ee ss qq bd ∧ (∀ i, X.frozen? ⟨w.heap.size, i, none⟩ = false) ∧ Below w.heap.size w X ∧ w.heap.size + 2 ≤ X.heap.size) ⟨by constructor <;> go_simp, by constructor <;> go_simp, by intro i; go_simp, hB, by simp⟩ ?_
    clear hB
    rintro X ⟨z0, f0, hfz, hB, hsz⟩
  all_goals
    obtain ⟨x0, x1, x2, x3, x4⟩ := id f0
    cases p
    all_goals
      go_upto_if 34 with (go_at_call 96; refine (unhide (HF _)).mono ?_; rintro r w3 ⟨rfl, hb3⟩)
      obtain ⟨z30, z31, z32, z33, z34⟩ := z0.below hb3 (by omega)
      obtain ⟨f30, f31, f32, f33, f34⟩ := f0.below hb3 (by omega)
      have fz : ∀ i, w3.frozen? ⟨w.heap.size, i, none⟩ = false := fun i => (hb3.frozen (p := ⟨w.heap.size, i, none⟩) (by simp; omega)).trans (hfz i)
      have fz0 := fz 0
      have fz1 := fz 1
      have fz2 := fz 2
      have fz3 := fz 3
      have fz4 := fz 4
      have B3 := hB.trans (hb3.mono (by omega))
      clear fz hb3 z0 f0 hfz x0 x1 x2 x3 x4 HF hB hsz
      go_wp2
    · refine bodyPost_ret (v := .tuple #[zeroFr, .int .i64 1]) (by simp [results, Tryz.results54, go_sem, zeroFr, *]) rfl ⟨rfl, ?_⟩
      exact below_five B3 _ _ _ _ _
    · refine bodyPost_ret (v := .tuple #[.agg #[.int .i64 kk, .int .i64 ee, .int .i64 ss, .int .i64 qq, .string bd], .int .i64 0]) (by simp [results, Tryz.results54, go_sem, *]) rfl ⟨rfl, ?_⟩
      exact below_five B3 _ _ _ _ _
end Go.Proofs.YtamafdcnbcoegaaGreat
