/-
  Part 8 of a proof: D19, D20.
-/
import Derived.Test.YtamafdcnbcoegaaGreatFe7
namespace Go.Proofs.YtamafdcnbcoegaaGreat
open Go.RowKit
set_option maxHeartbeats 400000 in
theorem isStamp_any (o c : Nat) (w : World) : Calls Tryz.prog 220 #[.agg #[.int .u32 o, .int .u64 c]] w fun r w' => r = .returned (.bool (Mod.isStamp o)) ∧ Below w.heap.size w w' := by
 by_cases h1 : (1 : Int) ≤ (o : Int)
 ·by_cases h2 : (o : Int) ≤ 1073741824
  ·go_enter Tryz.func220, Tryz.ntmps220
   go_wp2
   go_ret
   exact ⟨ret_b (by simp [Mod.isStamp]; omega), (Below.refl _ _).alloc (Nat.le_refl _) _⟩
  ·go_enter Tryz.func220, Tryz.ntmps220
   go_wp2
   go_ret
   exact ⟨ret_b (by simp [Mod.isStamp]; omega), (Below.refl _ _).alloc (Nat.le_refl _) _⟩
 ·go_enter Tryz.func220, Tryz.ntmps220
  go_wp2
  go_ret
  exact ⟨ret_b (by simp [Mod.isStamp]; omega), (Below.refl _ _).alloc (Nat.le_refl _) _⟩
def hdVal (h : Mod.Hd) : Value := .agg #[.int .u32 h.o, .int .u64 h.c, .int .i64 h.a, .int .i64 h.b, .int .i64 h.d]
def hdK (o c a b d k : Nat) : Array Value := #[.int .u32 o, .int .u64 c, .int .i64 (if 0 < k then a else 0 : Nat), .int .i64 (if 1 < k then b else 0 : Nat), .int .i64 (if 2 < k then d else 0 : Nat)]
theorem nought_zeros : Mod.nought = zeros := rfl
set_option maxRecDepth 100000 in
set_option maxHeartbeats 4000000 in
theorem readHead_some (S : List UInt8) (hS : S.length = 64) (hne : S ≠ zeros) (w : World) : Calls Tryz.prog 194 #[.agg (bv S).toArray] w fun r w' =>
  ∃ h : Mod.Hd, r = .returned (.tuple #[hdVal h, .bool (Mod.headOk S)]) ∧ (Mod.headOk S = true → h = Mod.hdOf S) ∧ Below w.heap.size w w' := by
 have heq := fun y => eq_sec (S := S) (T := zeros) hS length_zeros y
 rw [decide_eq_false hne] at heq
 have hok : Mod.headOk S = ((Mod.hdOf S).small && (Mod.isStamp (Mod.opOf S) && decide (Mod.sealH (Mod.hdOf S) = S))) := by
  unfold Mod.headOk
  rw [nought_zeros, decide_eq_false hne, Bool.false_or]
 have hN := fun (i n cap : Nat) (hi : i + 4 ≤ 64) (hn : 4 ≤ n) (y : World) (h : y.heap[w.heap.size]? = some (.cells (bv S).toArray 207 (0, 0))) => number_sec S hS w.heap.size _ y h i n cap hi hn
 have hN0 := fun y h => hide (hN 12 52 52 (by omega) (by omega) y h)
 have hN1 := fun y h => hide (hN 16 48 48 (by omega) (by omega) y h)
 have hN2 := fun y h => hide (hN 20 44 44 (by omega) (by omega) y h)
 rw [← numAt_nat S 12] at hN0
 rw [← numAt_nat S 16] at hN1
 rw [← numAt_nat S 20] at hN2
 have b0 := Wire.numAt_range S 12
 have b1 := Wire.numAt_range S 16
 have b2 := Wire.numAt_range S 20
 have hST := fun y => hide (stampOf_any S hS y)
 have ho := Mod.opOf_lt S
 have hc := Mod.ctOf_lt S
 have hIS := fun y => hide (isStamp_any (Mod.opOf S) (Mod.ctOf S) y)
 have hSH := fun y => hide (sealHead_any (Mod.opOf S) (Mod.ctOf S) (Wire.numAt S 12).toNat (Wire.numAt S 16).toNat (Wire.numAt S 20).toNat y ho hc (by omega) (by omega) (by omega))
 have hLS := Mod.length_sealH (Mod.hdOf S)
 have hEQ := fun y => eq_sec (S := Mod.sealH (Mod.hdOf S)) (T := S) hLS hS y
 have hhd : Mod.hdOf S = ⟨Mod.opOf S, Mod.ctOf S, (Wire.numAt S 12).toNat, (Wire.numAt S 16).toNat, (Wire.numAt S 20).toNat⟩ := rfl
 have hsm : (Mod.hdOf S).small = (decide ((Wire.numAt S 12).toNat ≤ 2147483647) && (decide ((Wire.numAt S 16).toNat ≤ 2147483647) && decide ((Wire.numAt S 20).toNat ≤ 2147483647))) := rfl
 rw [hsm] at hok
 have hSH2 : ∀ y, Hid (Calls Tryz.prog 198 #[hdVal (Mod.hdOf S)] y fun r w' => r = .returned (.agg (bv (Mod.sealH (Mod.hdOf S))).toArray) ∧ Below y.heap.size y w') := hSH
 rw [hhd] at hSH2 hEQ ⊢
 unfold hdVal at hSH2
 simp only at hSH2
 have ha : (Wire.numAt S 12).toNat < 4294967296 := by omega
 have hb : (Wire.numAt S 16).toNat < 4294967296 := by omega
 have hd : (Wire.numAt S 20).toNat < 4294967296 := by omega
 rw [hhd] at hok
 clear hSH hN hhd hsm b0 b1 b2 hLS
 generalize (Wire.numAt S 12).toNat = a at *
 generalize (Wire.numAt S 16).toNat = b at *
 generalize (Wire.numAt S 20).toNat = d at *
 generalize Mod.opOf S = o at *
 generalize Mod.ctOf S = c at *
 obtain ⟨T, hT⟩ : ∃ T, T = Mod.sealH ⟨o, c, a, b, d⟩ := ⟨_, rfl⟩
 rw [← hT] at hSH2 hEQ hok
 clear hT
 obtain ⟨ok, hok2⟩ : ∃ ok, ok = Mod.headOk S := ⟨_, rfl⟩
 rw [← hok2] at hok ⊢
 clear hok2
 have HOK := hide hok
 clear hok hne ho hc
 go_enter Tryz.func194, Tryz.ntmps194
 go_upto_region 1 with fail
 refine wp_world (fun x => x.heap[w.heap.size]? = some (.cells (bv S).toArray 207 (0, 0)) ∧ x.heap[w.heap.size + 1]? = some (.cells #[.int .u32 0, .int .u64 0, .int .i64 0, .int .i64 0, .int .i64 0] 217 (0, 0)) ∧ Below w.heap.size w x) (alloc2 _ _ _) ?_
 rintro x ⟨h0, h1, hB⟩
 have H0 := hide h0
 have H1 := hide h1
 have HB := hide hB
 clear h0 h1 hB
 go_upto_region 4 with (first
  | (refine wpList_load_sec rfl (.tmp 1) rfl w.heap.size rfl 207 S hS (unhide H0) ?_)
  | (refine wpList_build_zero rfl rfl ?_; go_simp)
  | (go_at_call 219; refine (unhide (hST _)).mono ?_; rintro r y ⟨rfl, hb1⟩))
 have hz1 := hb1.size
 obtain ⟨g4, hg4⟩ : ∃ g4, g4 = y.heap.size := ⟨_, rfl⟩
 rw [← hg4]
 have hg4x : w.heap.size + 1 < g4 := by have := lt_of_block (unhide H1); omega
 refine wp_world (fun x => x.heap[w.heap.size]? = some (.cells (bv S).toArray 207 (0, 0)) ∧ x.heap[w.heap.size + 1]? = some (.cells #[.int .u32 0, .int .u64 0, .int .i64 0, .int .i64 0, .int .i64 0] 217 (0, 0)) ∧ x.heap[g4]? = some (.cells (hdK o c a b d 0) 217 (0, 0)) ∧ Below w.heap.size w x) ?_ ?_
 ·have l0 := lt_of_block (unhide H0)
  have l1 := lt_of_block (unhide H1)
  refine ⟨(hao _ _ (by omega)).trans ((hb1.block _ l0).trans (unhide H0)), (hao _ _ (by omega)).trans ((hb1.block _ l1).trans (unhide H1)), by rw [hg4]; exact heap_alloc_new _ _, ((unhide HB).trans (hb1.mono (unhide HB).size)).alloc (by omega) _⟩
 clear hb1 hz1 hg4 H0 H1 HB heq hST x
 rintro x ⟨h0, h1, h4, hB⟩
 have HX := hide (And.intro h0 (And.intro h1 (And.intro h4 hB)))
 clear h0 h1 h4 hB y
 go_wp2
 go_loopw [5, 6, 14] (fun _ _ i wr => ∃ k : Nat, k ≤ 3 ∧ i = .int .i64 k ∧ (wr.heap[w.heap.size]? = some (.cells (bv S).toArray 207 (0, 0)) ∧ wr.heap[w.heap.size + 1]? = some (.cells #[.int .u32 0, .int .u64 0, .int .i64 0, .int .i64 0, .int .i64 0] 217 (0, 0)) ∧ wr.heap[g4]? = some (.cells (hdK o c a b d k) 217 (0, 0)) ∧ Below w.heap.size w wr) ∧ (0 < k → a ≤ 2147483647) ∧ (1 < k → b ≤ 2147483647) ∧ (2 < k → d ≤ 2147483647)) (fun _ _ i _ => 3 - (intOf i).toNat)
 case atStart => exact ⟨0, by omega, rfl, unhide HX, by omega, by omega, by omega⟩
 case round =>
  obtain ⟨k, hk, rfl, ⟨h0, h1, h4, hB⟩, k0, k1, k2⟩ := hrel
  clear HX
  have hgl := lt_of_block h4
  have f0 : ∀ i, wr.frozen? ⟨g4, i, none⟩ = false := fun i => blk_free h4
  have p0 : ∀ i, wr.frozen? ⟨w.heap.size + 1, i, none⟩ = false := fun i => blk_free h1
  have l1 := lt_of_block h1
  have hno : ∀ (n : Nat) (y : World), 2147483647 < n → Below wr.heap.size wr y → Hid (y.heap[w.heap.size + 1]? = some (.cells #[.int .u32 0, .int .u64 0, .int .i64 0, .int .i64 0, .int .i64 0] 217 (0, 0)) ∧ Below w.heap.size w y) := fun n y _ hb => ⟨(hb.block _ l1).trans h1, hB.trans (hb.mono hB.size)⟩
  have hyes : ∀ (v : Value) (j : Nat) (y : World), wr.heap[g4]? = some (.cells (hdK o c a b d j) 217 (0, 0)) → (hdK o c a b d j).setIfInBounds (2 + j) v = hdK o c a b d (j + 1) → Below wr.heap.size wr y →
    (y.setCell ⟨g4, 2 + j, none⟩ v).heap[w.heap.size]? = some (.cells (bv S).toArray 207 (0, 0)) ∧ (y.setCell ⟨g4, 2 + j, none⟩ v).heap[w.heap.size + 1]? = some (.cells #[.int .u32 0, .int .u64 0, .int .i64 0, .int .i64 0, .int .i64 0] 217 (0, 0)) ∧ (y.setCell ⟨g4, 2 + j, none⟩ v).heap[g4]? = some (.cells (hdK o c a b d (j + 1)) 217 (0, 0)) ∧ Below w.heap.size w (y.setCell ⟨g4, 2 + j, none⟩ v) := by
   intro v j y h4 he hb
   have hs := far_set y g4 (2 + j) v
   refine ⟨hs.blk ((hb.block _ (by omega)).trans h0) (by omega), hs.blk ((hb.block _ (by omega)).trans h1) (by omega), ?_, (hB.trans (hb.mono hB.size)).setCell (by show w.heap.size ≤ g4; omega) _⟩
   rw [← he]
   exact blk_set ((hb.block _ hgl).trans h4)
  obtain rfl | rfl | rfl | rfl : k = 0 ∨ k = 1 ∨ k = 2 ∨ k = 3 := by omega
  ·have hn := hide (unhide (hN0 wr h0))
   by_cases hm : (2147483647 : Int) < (a : Int)
   ·have HNO := fun y hb => hno a y (by omega) hb
    have HH := HOK
    clear h0 h4 hB f0 hN0 hN1 hN2 hno hyes h1 p0 hIS hSH2 hEQ HOK k0 k1 k2
    go_upto_region 8 with (go_at_call 95; refine (unhide hn).mono ?_; rintro r y ⟨rfl, hb1⟩)
    obtain ⟨y1, hBy⟩ := unhide (HNO y hb1)
    have HBY := hide hBy
    have q0 := blk_cell (i := 0) y1
    have q1 := blk_cell (i := 1) y1
    have q2 := blk_cell (i := 2) y1
    have q3 := blk_cell (i := 3) y1
    have q4 := blk_cell (i := 4) y1
    have p0 : ∀ i, y.frozen? ⟨w.heap.size + 1, i, none⟩ = false := fun i => blk_free y1
    simp at q0 q1 q2 q3 q4
    clear hb1 HNO y1 hBy hn
    go_wp2
    refine bodyPost_ret (v := .tuple #[.agg #[.int .u32 0, .int .u64 0, .int .i64 0, .int .i64 0, .int .i64 0], .bool false]) (by simp [results, Tryz.results194, go_sem, q0, q1, q2, q3, q4]) rfl ⟨⟨0, 0, 0, 0, 0⟩, ?_, fun h => ?_, ?_⟩
    ·have : ok = false := by
      rw [unhide HH, decide_eq_false (show ¬ a ≤ 2147483647 by omega)]
      simp
     rw [this]
     rfl
    ·have : ok = false := by
      rw [unhide HH, decide_eq_false (show ¬ a ≤ 2147483647 by omega)]
      simp
     rw [this] at h
     cases h
    ·exact (((((unhide HBY).setCell (p := ⟨w.heap.size + 1, 0, none⟩) (by simp) _).setCell (p := ⟨w.heap.size + 1, 1, none⟩) (by simp) _).setCell (p := ⟨w.heap.size + 1, 2, none⟩) (by simp) _).setCell (p := ⟨w.heap.size + 1, 3, none⟩) (by simp) _).setCell (p := ⟨w.heap.size + 1, 4, none⟩) (by simp) _
   ·have HYES := fun y hb => hide (hyes (.int .i64 a) 0 y h4 rfl hb)
    have HKK := hide (And.intro k0 (And.intro k1 k2))
    have hm2 : IntKind.i64.wrap (a : Int) = (a : Int) := by rw [IntKind.wrap_i64]; omega
    clear h0 h1 hB p0 hN0 hN1 hN2 hno hyes hIS hSH2 hEQ HOK k0 k1 k2 f0
    go_upto_region 8 with (go_at_call 95; refine (unhide hn).mono ?_; rintro r y ⟨rfl, hb1⟩)
    have y4 := (hb1.block _ hgl).trans h4
    have f4 : ∀ i, y.frozen? ⟨g4, i, none⟩ = false := fun i => blk_free y4
    have cc : y.cell? ⟨g4, 2, none⟩ = some (.int .i64 0) := by rw [blk_cell y4]; rfl
    have HY := hide (unhide (HYES y hb1))
    clear h4 hb1 y4 HYES hn
    go_wp2
    go_roundw
    case rel => exact ⟨1, by omega, rfl, unhide HY, by first | omega | (intro _; exact (unhide HKK).1 (by omega)), by first | omega | (intro _; exact (unhide HKK).2.1 (by omega)), by first | omega | (intro _; exact (unhide HKK).2.2 (by omega))⟩
    case measure => simp [intOf]
  ·have hn := hide (unhide (hN1 wr h0))
   by_cases hm : (2147483647 : Int) < (b : Int)
   ·have HNO := fun y hb => hno b y (by omega) hb
    have HH := HOK
    clear h0 h4 hB f0 hN0 hN1 hN2 hno hyes h1 p0 hIS hSH2 hEQ HOK k0 k1 k2
    go_upto_region 8 with (go_at_call 95; refine (unhide hn).mono ?_; rintro r y ⟨rfl, hb1⟩)
    obtain ⟨y1, hBy⟩ := unhide (HNO y hb1)
    have HBY := hide hBy
    have q0 := blk_cell (i := 0) y1
    have q1 := blk_cell (i := 1) y1
    have q2 := blk_cell (i := 2) y1
    have q3 := blk_cell (i := 3) y1
    have q4 := blk_cell (i := 4) y1
    have p0 : ∀ i, y.frozen? ⟨w.heap.size + 1, i, none⟩ = false := fun i => blk_free y1
    simp at q0 q1 q2 q3 q4
    clear hb1 HNO y1 hBy hn
    go_wp2
    refine bodyPost_ret (v := .tuple #[.agg #[.int .u32 0, .int .u64 0, .int .i64 0, .int .i64 0, .int .i64 0], .bool false]) (by simp [results, Tryz.results194, go_sem, q0, q1, q2, q3, q4]) rfl ⟨⟨0, 0, 0, 0, 0⟩, ?_, fun h => ?_, ?_⟩
    ·have : ok = false := by
      rw [unhide HH, decide_eq_false (show ¬ b ≤ 2147483647 by omega)]
      simp
     rw [this]
     rfl
    ·have : ok = false := by
      rw [unhide HH, decide_eq_false (show ¬ b ≤ 2147483647 by omega)]
      simp
     rw [this] at h
     cases h
    ·exact (((((unhide HBY).setCell (p := ⟨w.heap.size + 1, 0, none⟩) (by simp) _).setCell (p := ⟨w.heap.size + 1, 1, none⟩) (by simp) _).setCell (p := ⟨w.heap.size + 1, 2, none⟩) (by simp) _).setCell (p := ⟨w.heap.size + 1, 3, none⟩) (by simp) _).setCell (p := ⟨w.heap.size + 1, 4, none⟩) (by simp) _
   ·have HYES := fun y hb => hide (hyes (.int .i64 b) 1 y h4 rfl hb)
    have HKK := hide (And.intro k0 (And.intro k1 k2))
    have hm2 : IntKind.i64.wrap (b : Int) = (b : Int) := by rw [IntKind.wrap_i64]; omega
    clear h0 h1 hB p0 hN0 hN1 hN2 hno hyes hIS hSH2 hEQ HOK k0 k1 k2 f0
    go_upto_region 8 with (go_at_call 95; refine (unhide hn).mono ?_; rintro r y ⟨rfl, hb1⟩)
    have y4 := (hb1.block _ hgl).trans h4
    have f4 : ∀ i, y.frozen? ⟨g4, i, none⟩ = false := fun i => blk_free y4
    have cc : y.cell? ⟨g4, 3, none⟩ = some (.int .i64 0) := by rw [blk_cell y4]; rfl
    have HY := hide (unhide (HYES y hb1))
    clear h4 hb1 y4 HYES hn
    go_wp2
    go_roundw
    case rel => exact ⟨2, by omega, rfl, unhide HY, by first | omega | (intro _; exact (unhide HKK).1 (by omega)), by first | omega | (intro _; exact (unhide HKK).2.1 (by omega)), by first | omega | (intro _; exact (unhide HKK).2.2 (by omega))⟩
    case measure => simp [intOf]
  ·have hn := hide (unhide (hN2 wr h0))
   by_cases hm : (2147483647 : Int) < (d : Int)
   ·have HNO := fun y hb => hno d y (by omega) hb
    have HH := HOK
    clear h0 h4 hB f0 hN0 hN1 hN2 hno hyes h1 p0 hIS hSH2 hEQ HOK k0 k1 k2
    go_upto_region 8 with (go_at_call 95; refine (unhide hn).mono ?_; rintro r y ⟨rfl, hb1⟩)
    obtain ⟨y1, hBy⟩ := unhide (HNO y hb1)
    have HBY := hide hBy
    have q0 := blk_cell (i := 0) y1
    have q1 := blk_cell (i := 1) y1
    have q2 := blk_cell (i := 2) y1
    have q3 := blk_cell (i := 3) y1
    have q4 := blk_cell (i := 4) y1
    have p0 : ∀ i, y.frozen? ⟨w.heap.size + 1, i, none⟩ = false := fun i => blk_free y1
    simp at q0 q1 q2 q3 q4
    clear hb1 HNO y1 hBy hn
    go_wp2
    refine bodyPost_ret (v := .tuple #[.agg #[.int .u32 0, .int .u64 0, .int .i64 0, .int .i64 0, .int .i64 0], .bool false]) (by simp [results, Tryz.results194, go_sem, q0, q1, q2, q3, q4]) rfl ⟨⟨0, 0, 0, 0, 0⟩, ?_, fun h => ?_, ?_⟩
    ·have : ok = false := by
      rw [unhide HH, decide_eq_false (show ¬ d ≤ 2147483647 by omega)]
      simp
     rw [this]
     rfl
    ·have : ok = false := by
      rw [unhide HH, decide_eq_false (show ¬ d ≤ 2147483647 by omega)]
      simp
     rw [this] at h
     cases h
    ·exact (((((unhide HBY).setCell (p := ⟨w.heap.size + 1, 0, none⟩) (by simp) _).setCell (p := ⟨w.heap.size + 1, 1, none⟩) (by simp) _).setCell (p := ⟨w.heap.size + 1, 2, none⟩) (by simp) _).setCell (p := ⟨w.heap.size + 1, 3, none⟩) (by simp) _).setCell (p := ⟨w.heap.size + 1, 4, none⟩) (by simp) _
   ·have HYES := fun y hb => hide (hyes (.int .i64 d) 2 y h4 rfl hb)
    have HKK := hide (And.intro k0 (And.intro k1 k2))
    have hm2 : IntKind.i64.wrap (d : Int) = (d : Int) := by rw [IntKind.wrap_i64]; omega
    clear h0 h1 hB p0 hN0 hN1 hN2 hno hyes hIS hSH2 hEQ HOK k0 k1 k2 f0
    go_upto_region 8 with (go_at_call 95; refine (unhide hn).mono ?_; rintro r y ⟨rfl, hb1⟩)
    have y4 := (hb1.block _ hgl).trans h4
    have f4 : ∀ i, y.frozen? ⟨g4, i, none⟩ = false := fun i => blk_free y4
    have cc : y.cell? ⟨g4, 4, none⟩ = some (.int .i64 0) := by rw [blk_cell y4]; rfl
    have HY := hide (unhide (HYES y hb1))
    clear h4 hb1 y4 HYES hn
    go_wp2
    go_roundw
    case rel => exact ⟨3, by omega, rfl, unhide HY, by first | omega | (intro _; exact (unhide HKK).1 (by omega)), by first | omega | (intro _; exact (unhide HKK).2.1 (by omega)), by first | omega | (intro _; exact (unhide HKK).2.2 (by omega))⟩
    case measure => simp [intOf]
  ·have H0 := hide h0
   have H1 := hide h1
   have H4 : Hid (wr.heap[g4]? = some (.cells #[.int .u32 o, .int .u64 c, .int .i64 a, .int .i64 b, .int .i64 d] 217 (0, 0))) := h4
   have HB := hide hB
   have HKK := hide (And.intro (k0 (by omega)) (And.intro (k1 (by omega)) (k2 (by omega))))
   clear h0 h1 h4 hB f0 p0 hN0 hN1 hN2 hno hyes k0 k1 k2
   go_upto_region 12 with fail
   cases his : Mod.isStamp o with
   | true =>
    refine wp_region_foot (by kernel_rfl)
     [fun v _ => v = .agg #[.int .u32 o, .int .u64 c, .int .i64 a, .int .i64 b, .int .i64 d], fun v _ => v = .pointer (some ⟨g4, 0, none⟩), fun v _ => v = .agg #[.int .u32 o, .int .u64 c], fun v _ => v = .bool true, fun v _ => v = .bool true,
      fun v _ => v = .agg #[.int .u32 o, .int .u64 c, .int .i64 a, .int .i64 b, .int .i64 d], fun v _ => v = .agg (bv T).toArray, fun v _ => v = .agg (bv S).toArray, fun v _ => v = .bool (decide (T = S)), fun v _ => v = .bool (decide (T = S)), fun _ z => z.heap[w.heap.size + 1]? = some (.cells #[.int .u32 o, .int .u64 c, .int .i64 a, .int .i64 b, .int .i64 d] 217 (0, 0)), fun v _ => v = .bool (decide (T = S))]
     [[(4, none)], [(4, none)], [(32, some 1)], [(33, some 2)], [(34, some 3)], [(4, none), (35, some 4)], [(36, some 5), (35, some 4)], [(1, none), (35, some 4)], [(37, some 6), (38, some 7), (35, some 4)], [(35, some 4), (39, some 8)], [(2, none), (31, some 0)], [(40, some 9)]] [some 31, some 32, some 33, some 34, some 35, some 36, some 37, some 38, some 39, some 40, none, some 3] [false, false, false, true, false, false, false, false, false, false, false, false, false, false, false, false, false, false, false, false, false, false, false, false, false, false, false, false, false, false, false, true, true, true, true, true, true, true, true, true, true]
     [(10, fun k => k = w.heap.size + 1)]
     (by kernel_rfl) (by kernel_rfl) (by kernel_rfl) (by kernel_rfl) (by kernel_rfl) ?_ ?_ ?_ ?_
    ·repeat' (first | exact stable_eq _ | exact stable_true | exact stable_blk _ _ | exact trivial | apply And.intro)
    ·repeat' (first | exact trivial | exact .inl rfl | exact .inr (.inr (stableF_eq _ _)) | exact .inr (.inr (fun _ _ _ _ _ => trivial)) | apply And.intro)
    ·refine ⟨?_, ?_, ?_, ?_, ?_, ?_, ?_, ?_, ?_, ?_, ?_, ?_, trivial⟩
     all_goals
      intro a' z hb hf
      have z0 := hb.blk (unhide H0) (footBut_no (by intro q hq; simp at hq; subst hq; intro (e : w.heap.size = w.heap.size + 1); omega))
      have z4 := hb.blk (unhide H4) (footBut_no (by intro q hq; simp at hq; subst hq; intro (e : g4 = w.heap.size + 1); omega))
      have e0 : z.cell? ⟨g4, 0, none⟩ = some (.int .u32 o) := blk_cell (i := 0) z4
      have e1 : z.cell? ⟨g4, 1, none⟩ = some (.int .u64 c) := blk_cell (i := 1) z4
      have e2 : z.cell? ⟨g4, 2, none⟩ = some (.int .i64 a) := blk_cell (i := 2) z4
      have e3 : z.cell? ⟨g4, 3, none⟩ = some (.int .i64 b) := blk_cell (i := 3) z4
      have e4 : z.cell? ⟨g4, 4, none⟩ = some (.int .i64 d) := blk_cell (i := 4) z4
      have Z0 := hide z0
      clear z0 z4
      simp only [PlanFacts, List.getD_cons_zero, List.getD_cons_succ, Array.getD_eq_getD_getElem?] at hf
      try simp at hf
     iterate 3
      ·clear hb
       go_simp
       exact ⟨_, rfl, Far.refl _ _, rfl⟩
     ·clear hb
      go_simp
      refine (unhide (hIS z)).mono ?_
      rintro r w1 ⟨rfl, hb1⟩
      exact ⟨_, rfl, far_below hb1, by rw [his]; rfl⟩
     ·clear hb
      go_simp
      exact ⟨_, rfl, Far.refl _ _, rfl⟩
     ·clear hb
      have hg : a'.tmps[35]? = some (.bool true) := tmpB (by first | exact hf | exact hf.2 | exact hf.2.2)
      go_simp
      exact ⟨_, rfl, Far.refl _ _, rfl⟩
     ·clear hb
      have hg : a'.tmps[35]? = some (.bool true) := tmpB (by first | exact hf | exact hf.2 | exact hf.2.2)
      go_simp
      refine (unhide (hSH2 z)).mono ?_
      rintro r w1 ⟨rfl, hb1⟩
      exact ⟨_, rfl, far_below hb1, rfl⟩
     ·clear hb
      have hg : a'.tmps[35]? = some (.bool true) := tmpB (by first | exact hf | exact hf.2 | exact hf.2.2)
      rw [if_pos (by go_simp)]
      exact oper_load_sec (.tmp 1) rfl w.heap.size (by simp [Act.eval, hf]) 207 S hS (unhide Z0) ⟨_, rfl, Far.refl _ _, rfl⟩
     ·clear hb
      have hg : a'.tmps[35]? = some (.bool true) := tmpB (by first | exact hf | exact hf.2 | exact hf.2.2)
      go_simp
      exact ⟨_, rfl, Far.refl _ _, rfl⟩
     ·clear hb
      go_simp
      exact ⟨_, rfl, Far.refl _ _, rfl⟩
     ·have z1 := hb.blk (unhide H1) (by
       rintro ⟨q, hq, g1, g2, g3⟩
       simp at hq
       subst hq
       exact g1 rfl)
      clear hb
      rw [if_pos (by rfl)]
      refine wp_store_row 217 (.tmp 2) (.tmp 31) rfl (w.heap.size + 1) #[.int .u32 o, .int .u64 c, .int .i64 a, .int .i64 b, .int .i64 d] (by simp [Act.eval, hf]) (by simp [Act.eval, hf]) 217 _ z1 (by rw [size_head]; rfl) (by simp) (by rw [Array.all_eq_true_iff_forall_mem]; intro u hu; simp at hu; rcases hu with rfl | rfl | rfl | rfl | rfl <;> rfl) ?_
      exact ⟨_, rfl, footOf_of (.head _) (far_setRow _ _ _), setRow_heap _ _ _ _ _ _ z1⟩
     ·clear hb
      go_simp
      exact ⟨_, rfl, Far.refl _ _, rfl⟩
    ·intro f z hF hwd
     have h9 := hwd.2.2.2.2.2.2.2.2.2.2.1
     have h11 := hwd.2.2.2.2.2.2.2.2.2.2.2.1
     have q0 : z.cell? ⟨w.heap.size + 1, 0, none⟩ = some (.int .u32 o) := blk_cell (i := 0) h9
     have q1 : z.cell? ⟨w.heap.size + 1, 1, none⟩ = some (.int .u64 c) := blk_cell (i := 1) h9
     have q2 : z.cell? ⟨w.heap.size + 1, 2, none⟩ = some (.int .i64 a) := blk_cell (i := 2) h9
     have q3 : z.cell? ⟨w.heap.size + 1, 3, none⟩ = some (.int .i64 b) := blk_cell (i := 3) h9
     have q4 : z.cell? ⟨w.heap.size + 1, 4, none⟩ = some (.int .i64 d) := blk_cell (i := 4) h9
     have HBZ := hide ((unhide HB).trans (hF.below (unhide HB).size (fun k hk h => by
      obtain ⟨q, hq, h⟩ := h
      simp at hq
      subst hq
      have h : k = w.heap.size + 1 := h
      omega)))
     clear hwd hF h9
     simp only [mergeT, h11]
     generalize f 31 = x31
     generalize f 32 = x32
     generalize f 33 = x33
     generalize f 34 = x34
     generalize f 35 = x35
     generalize f 36 = x36
     generalize f 37 = x37
     generalize f 38 = x38
     generalize f 39 = x39
     generalize f 40 = x40
     go_simp
     go_wp2
     refine bodyPost_ret (v := .tuple #[.agg #[.int .u32 o, .int .u64 c, .int .i64 a, .int .i64 b, .int .i64 d], .bool (decide (T = S))]) (by simp [results, Tryz.results194, go_sem, q0, q1, q2, q3, q4]) rfl ⟨⟨o, c, a, b, d⟩, ?_, fun _ => rfl, unhide HBZ⟩
     have : ok = decide (T = S) := by rw [unhide HOK, his, decide_eq_true (unhide HKK).1, decide_eq_true (unhide HKK).2.1, decide_eq_true (unhide HKK).2.2]; rfl
     rw [this]
     rfl
   | false =>
    refine wp_region_foot (by kernel_rfl)
     [fun v _ => v = .agg #[.int .u32 o, .int .u64 c, .int .i64 a, .int .i64 b, .int .i64 d], fun v _ => v = .pointer (some ⟨g4, 0, none⟩), fun v _ => v = .agg #[.int .u32 o, .int .u64 c], fun v _ => v = .bool false, fun v _ => v = .bool false,
      fun _ _ => True, fun _ _ => True, fun _ _ => True, fun _ _ => True, fun v _ => v = .bool false, fun _ z => z.heap[w.heap.size + 1]? = some (.cells #[.int .u32 o, .int .u64 c, .int .i64 a, .int .i64 b, .int .i64 d] 217 (0, 0)), fun v _ => v = .bool (false)]
     [[(4, none)], [(4, none)], [(32, some 1)], [(33, some 2)], [(34, some 3)], [(4, none), (35, some 4)], [(36, some 5), (35, some 4)], [(1, none), (35, some 4)], [(37, some 6), (38, some 7), (35, some 4)], [(35, some 4), (39, some 8)], [(2, none), (31, some 0)], [(40, some 9)]] [some 31, some 32, some 33, some 34, some 35, some 36, some 37, some 38, some 39, some 40, none, some 3] [false, false, false, true, false, false, false, false, false, false, false, false, false, false, false, false, false, false, false, false, false, false, false, false, false, false, false, false, false, false, false, true, true, true, true, true, true, true, true, true, true]
     [(10, fun k => k = w.heap.size + 1)]
     (by kernel_rfl) (by kernel_rfl) (by kernel_rfl) (by kernel_rfl) (by kernel_rfl) ?_ ?_ ?_ ?_
    ·repeat' (first | exact stable_eq _ | exact stable_true | exact stable_blk _ _ | exact trivial | apply And.intro)
    ·repeat' (first | exact trivial | exact .inl rfl | exact .inr (.inr (stableF_eq _ _)) | exact .inr (.inr (fun _ _ _ _ _ => trivial)) | apply And.intro)
    ·refine ⟨?_, ?_, ?_, ?_, ?_, ?_, ?_, ?_, ?_, ?_, ?_, ?_, trivial⟩
     all_goals
      intro a' z hb hf
      have z0 := hb.blk (unhide H0) (footBut_no (by intro q hq; simp at hq; subst hq; intro (e : w.heap.size = w.heap.size + 1); omega))
      have z4 := hb.blk (unhide H4) (footBut_no (by intro q hq; simp at hq; subst hq; intro (e : g4 = w.heap.size + 1); omega))
      have e0 : z.cell? ⟨g4, 0, none⟩ = some (.int .u32 o) := blk_cell (i := 0) z4
      have e1 : z.cell? ⟨g4, 1, none⟩ = some (.int .u64 c) := blk_cell (i := 1) z4
      have e2 : z.cell? ⟨g4, 2, none⟩ = some (.int .i64 a) := blk_cell (i := 2) z4
      have e3 : z.cell? ⟨g4, 3, none⟩ = some (.int .i64 b) := blk_cell (i := 3) z4
      have e4 : z.cell? ⟨g4, 4, none⟩ = some (.int .i64 d) := blk_cell (i := 4) z4
      have Z0 := hide z0
      clear z0 z4
      simp only [PlanFacts, List.getD_cons_zero, List.getD_cons_succ, Array.getD_eq_getD_getElem?] at hf
      try simp at hf
     iterate 3
      ·clear hb
       go_simp
       exact ⟨_, rfl, Far.refl _ _, rfl⟩
     ·clear hb
      go_simp
      refine (unhide (hIS z)).mono ?_
      rintro r w1 ⟨rfl, hb1⟩
      exact ⟨_, rfl, far_below hb1, by rw [his]; rfl⟩
     ·clear hb
      go_simp
      exact ⟨_, rfl, Far.refl _ _, rfl⟩
     iterate 4
      ·clear hb
       have hg : a'.tmps[35]? = some (.bool false) := tmpB (by first | exact hf | exact hf.2 | exact hf.2.2)
       go_simp
       try trivial
     ·clear hb
      go_simp
      exact ⟨_, rfl, Far.refl _ _, rfl⟩
     ·have z1 := hb.blk (unhide H1) (by
       rintro ⟨q, hq, g1, g2, g3⟩
       simp at hq
       subst hq
       exact g1 rfl)
      clear hb
      rw [if_pos (by rfl)]
      refine wp_store_row 217 (.tmp 2) (.tmp 31) rfl (w.heap.size + 1) #[.int .u32 o, .int .u64 c, .int .i64 a, .int .i64 b, .int .i64 d] (by simp [Act.eval, hf]) (by simp [Act.eval, hf]) 217 _ z1 (by rw [size_head]; rfl) (by simp) (by rw [Array.all_eq_true_iff_forall_mem]; intro u hu; simp at hu; rcases hu with rfl | rfl | rfl | rfl | rfl <;> rfl) ?_
      exact ⟨_, rfl, footOf_of (.head _) (far_setRow _ _ _), setRow_heap _ _ _ _ _ _ z1⟩
     ·clear hb
      go_simp
      exact ⟨_, rfl, Far.refl _ _, rfl⟩
    ·intro f z hF hwd
     have h9 := hwd.2.2.2.2.2.2.2.2.2.2.1
     have h11 := hwd.2.2.2.2.2.2.2.2.2.2.2.1
     have q0 : z.cell? ⟨w.heap.size + 1, 0, none⟩ = some (.int .u32 o) := blk_cell (i := 0) h9
     have q1 : z.cell? ⟨w.heap.size + 1, 1, none⟩ = some (.int .u64 c) := blk_cell (i := 1) h9
     have q2 : z.cell? ⟨w.heap.size + 1, 2, none⟩ = some (.int .i64 a) := blk_cell (i := 2) h9
     have q3 : z.cell? ⟨w.heap.size + 1, 3, none⟩ = some (.int .i64 b) := blk_cell (i := 3) h9
     have q4 : z.cell? ⟨w.heap.size + 1, 4, none⟩ = some (.int .i64 d) := blk_cell (i := 4) h9
     have HBZ := hide ((unhide HB).trans (hF.below (unhide HB).size (fun k hk h => by
      obtain ⟨q, hq, h⟩ := h
      simp at hq
      subst hq
      have h : k = w.heap.size + 1 := h
      omega)))
     clear hwd hF h9
     simp only [mergeT, h11]
     generalize f 31 = x31
     generalize f 32 = x32
     generalize f 33 = x33
     generalize f 34 = x34
     generalize f 35 = x35
     generalize f 36 = x36
     generalize f 37 = x37
     generalize f 38 = x38
     generalize f 39 = x39
     generalize f 40 = x40
     go_simp
     go_wp2
     refine bodyPost_ret (v := .tuple #[.agg #[.int .u32 o, .int .u64 c, .int .i64 a, .int .i64 b, .int .i64 d], .bool (false)]) (by simp [results, Tryz.results194, go_sem, q0, q1, q2, q3, q4]) rfl ⟨⟨o, c, a, b, d⟩, ?_, fun _ => rfl, unhide HBZ⟩
     have : ok = false := by rw [unhide HOK, his, decide_eq_true (unhide HKK).1, decide_eq_true (unhide HKK).2.1, decide_eq_true (unhide HKK).2.2]; rfl
     rw [this]
     rfl
end Go.Proofs.YtamafdcnbcoegaaGreat
namespace Go.Proofs.YtamafdcnbcoegaaGreat
open Go.RowKit
theorem readHead_any (S : List UInt8) (hS : S.length = 64) (w : World) : Calls Tryz.prog 194 #[.agg (bv S).toArray] w fun r w' =>
  ∃ h : Mod.Hd, r = .returned (.tuple #[hdVal h, .bool (Mod.headOk S)]) ∧ (Mod.headOk S = true → h = Mod.headIs S) ∧ Below w.heap.size w w' := by
 by_cases hne : S = zeros
 ·subst hne
  refine (readHead_zero w).mono ?_
  rintro r y ⟨rfl, hb⟩
  have := Mod.headOk_nought
  rw [nought_zeros] at this
  exact ⟨Mod.hd0, by rw [this.1]; rfl, fun _ => this.2.symm, hb⟩
 ·refine (readHead_some S hS hne w).mono ?_
  rintro r y ⟨h, rfl, h2, hb⟩
  refine ⟨h, rfl, fun hk => ?_, hb⟩
  rw [h2 hk]
  unfold Mod.headIs
  rw [nought_zeros, if_neg hne]
theorem size_rec : (Tryz.prog.info? 155).map (·.size) = some 3 := by kernel_rfl
def rcVal (r : Mod.Rc) : Value := .agg #[.int .i64 r.s, .int .i64 r.q, .string r.b]
set_option maxRecDepth 100000 in
set_option maxHeartbeats 4000000 in
theorem readRecord_some (S : List UInt8) (hS : S.length = 64) (hne : S ≠ zeros) (last : Nat) (w : World) : Calls Tryz.prog 197 #[.agg (bv S).toArray, .int .u32 last] w fun r w' =>
  ∃ h : Mod.Rc, r = .returned (.tuple #[rcVal h, .bool (Mod.recOk S last)]) ∧ (Mod.recOk S last = true → h = Mod.rcOf S) ∧ Below w.heap.size w w' := by
 have heq := fun y => eq_sec (S := S) (T := zeros) hS length_zeros y
 rw [decide_eq_false hne] at heq
 have hok : Mod.recOk S last = ((decide (Mod.lenOf S ≤ 20) && (decide ((S.getD 12 0).toNat < 3) && (decide (1 ≤ (Wire.numAt S 14).toNat) && decide ((Wire.numAt S 14).toNat ≤ 2147483647)))) && (Mod.isStamp (Mod.opOf S) && (decide (Mod.opOf S ≤ last) && decide (Mod.sealR (Mod.opOf S) (Mod.ctOf S) (Mod.rcOf S) = S)))) := by
  unfold Mod.recOk
  rw [nought_zeros, decide_eq_false hne, Bool.false_or]
  rfl
 have hN := fun (y : World) (h : y.heap[w.heap.size]? = some (.cells (bv S).toArray 207 (0, 0))) => hide (number_sec S hS w.heap.size _ y h 14 50 50 (by omega) (by omega))
 rw [← numAt_nat S 14] at hN
 have hST := fun y => hide (stampOf_any S hS y)
 have ho := Mod.opOf_lt S
 have hc := Mod.ctOf_lt S
 have hq0 := Wire.numAt_range S 14
 have hIS := fun y => hide (isStamp_any (Mod.opOf S) (Mod.ctOf S) y)
 have hlen : (S.getD 13 0).toNat = Mod.lenOf S := rfl
 have hcell : ∀ (y : World) (j : Nat), j < 64 → y.heap[w.heap.size]? = some (.cells (bv S).toArray 207 (0, 0)) → y.cell? ⟨w.heap.size, j, none⟩ = some (.int .u8 (S.getD j 0).toNat) := fun y j hj h => by
  rw [blk_cell h, bv_at (by omega)]
 have hc12 := fun y h => hide (hcell y 12 (by omega) h)
 have hc13 := fun y h => hide (hcell y 13 (by omega) h)
 rw [hlen] at hc13
 have hrc : Mod.rcOf S = ⟨(S.getD 12 0).toNat, (Wire.numAt S 14).toNat, ⟨((S.drop 18).take (Mod.lenOf S)).toArray⟩⟩ := rfl
 have hbl : Mod.lenOf S ≤ 20 → (⟨((S.drop 18).take (Mod.lenOf S)).toArray⟩ : ByteArray).size ≤ 20 := fun h => by simp [ByteArray.size]; omega
 have hconv : Mod.lenOf S ≤ 20 → ∀ (y : World) (n cap : Nat), n = Mod.lenOf S → y.heap[w.heap.size]? = some (.cells (bv S).toArray 207 (0, 0)) → (convert 44 9 (.slice (some ⟨w.heap.size, 18, none⟩) n cap)).run Tryz.prog y = .ok (.string ⟨((S.drop 18).take (Mod.lenOf S)).toArray⟩) y := by
  intro hl y n cap hn h
  subst hn
  refine conv_str (by simp; omega) (fun i hi => ?_)
  rw [hcell y (18 + i) (by omega) h]
  simp [List.getD_eq_getElem?_getD, hi, List.getElem?_drop]
 have hSR := fun (h3 : (S.getD 12 0).toNat < 3) (hl : Mod.lenOf S ≤ 20) (y : World) => hide (sealRecord_any (Mod.opOf S) (Mod.ctOf S) (S.getD 12 0).toNat (Wire.numAt S 14).toNat ⟨((S.drop 18).take (Mod.lenOf S)).toArray⟩ y ho hc (by omega) (by omega) (hbl hl))
 have hsb : Mod.sealR (Mod.opOf S) (Mod.ctOf S) (Mod.rcOf S) = Mod.sealB (Mod.opOf S) (Mod.ctOf S) (Mod.recIn (S.getD 12 0).toNat (Wire.numAt S 14).toNat (⟨((S.drop 18).take (Mod.lenOf S)).toArray⟩ : ByteArray).data.toList) := rfl
 have hlR : Mod.lenOf S ≤ 20 → (Mod.sealR (Mod.opOf S) (Mod.ctOf S) (Mod.rcOf S)).length = 64 := fun hl => Mod.length_sealR (hbl hl)
 have hEQ := fun (hl : Mod.lenOf S ≤ 20) y => eq_sec (S := Mod.sealR (Mod.opOf S) (Mod.ctOf S) (Mod.rcOf S)) (T := S) (hlR hl) hS y
 have hb12 := (S.getD 12 0).toNat_lt
 have hb13 : Mod.lenOf S < 256 := (S.getD 13 0).toNat_lt
 rw [hrc]
 rw [← hsb] at hSR
 clear hsb hlR hbl hcell hlen hrc hne
 obtain ⟨b, hb⟩ : ∃ b : ByteArray, b = ⟨((S.drop 18).take (Mod.lenOf S)).toArray⟩ := ⟨_, rfl⟩
 rw [← hb] at hconv hSR ⊢
 clear hb
 obtain ⟨T, hT⟩ : ∃ T, T = Mod.sealR (Mod.opOf S) (Mod.ctOf S) (Mod.rcOf S) := ⟨_, rfl⟩
 rw [← hT] at hSR hEQ hok
 clear hT
 obtain ⟨ok, hok2⟩ : ∃ ok, ok = Mod.recOk S last := ⟨_, rfl⟩
 rw [← hok2] at hok ⊢
 clear hok2
 have hqm : (Wire.numAt S 14).toNat < 4294967296 := by omega
 clear hq0
 generalize (Wire.numAt S 14).toNat = q at *
 generalize (S.getD 12 0).toNat = sm at *
 generalize Mod.opOf S = o at *
 generalize Mod.ctOf S = c at *
 generalize Mod.lenOf S = ln at *
 have hwl : IntKind.i64.wrap (ln : Int) = (ln : Int) := by rw [IntKind.wrap_i64]; omega
 have HOK := hide hok
 have HCV := hide hconv
 have HSR := hide hSR
 have HEQ := hide hEQ
 clear hok ho hc hconv hSR hEQ
 go_enter Tryz.func197, Tryz.ntmps197
 go_upto_region 1 with fail
 refine wp_world (fun x => x.heap[w.heap.size]? = some (.cells (bv S).toArray 207 (0, 0)) ∧ x.heap[w.heap.size + 1]? = some (.cells #[.int .i64 0, .int .i64 0, .string ⟨#[]⟩] 155 (0, 0)) ∧ Below w.heap.size w x) (alloc2 _ _ _) ?_
 rintro x ⟨h0, h1, hB⟩
 have H0 := hide h0
 have H1 := hide h1
 have HB := hide hB
 have hz := lt_of_block h1
 clear h0 h1 hB
 go_upto_region 3 with (first
  | (refine wpList_load_sec rfl (.tmp 2) rfl w.heap.size rfl 207 S hS (unhide H0) ?_)
  | (refine wpList_build_zero rfl rfl ?_; go_simp))
 refine wp_region_last (by kernel_rfl)
  [fun v _ => v = .pointer (some ⟨w.heap.size, 13, none⟩), fun v _ => v = .int .u8 ln, fun v _ => v = .int .i64 ln, fun v _ => v = .slice (some ⟨w.heap.size, 14, none⟩) 50 50, fun v _ => v = .int .u32 q, fun v _ => v = .agg (bv S).toArray, fun v _ => v = .agg #[.int .u32 o, .int .u64 c],
   fun v z => ∃ g, v = .pointer (some ⟨g, 0, none⟩) ∧ w.heap.size + 1 < g ∧ z.heap[g]? = some (.cells #[.int .u32 0, .int .u64 0] 201 (0, 0)), fun v _ => v = .int .i64 ln, fun v _ => v = .int .u32 q, fun _ _ => True]
  [[(2, none)], [(14, some 0)], [(15, some 1)], [(2, none)], [(17, some 3)], [(2, none)], [(19, some 5)], [], [(16, some 2)], [(18, some 4)], [(8, some 7), (20, some 6)]] [some 14, some 15, some 16, some 17, some 18, some 19, some 20, some 8, some 6, some 7, none] [false, false, false, false, false, false, true, true, true, false, false, false, false, false, true, true, true, true, true, true, true, false, false, false, false, false, false, false, false, false, false, false, false, false, false, false, false, false, false, false, false, false, false, false, false, false, false, false, false, false, false, false, false, false, false, false, false, false, false, false, false, false, false]
  10 _ rfl rfl (by kernel_rfl) (by kernel_rfl) (by kernel_rfl) (by kernel_rfl) (by kernel_rfl) (by kernel_rfl) ?_ ?_ ?_
 ·repeat' (first | exact stable_eq _ | exact stable_true | exact (fun _ y z h hb => h.imp fun g h => ⟨h.1, h.2.1, (hb.block _ (lt_of_block h.2.2)).trans h.2.2⟩) | exact trivial | apply And.intro)
 ·refine ⟨?_, ?_, ?_, ?_, ?_, ?_, ?_, ?_, ?_, ?_, trivial⟩
  all_goals
   intro a' y hb hf
   have y0 := (hb.block _ (by omega : w.heap.size < x.heap.size)).trans (unhide H0)
   have hzy := hb.size
   have d13 := unhide (hc13 y y0)
   have HNy := hN y y0
   have Y0 := hide y0
   clear hb y0 hN hc12 hc13
   simp only [PlanFacts, List.getD_cons_zero, List.getD_cons_succ, Array.getD_eq_getD_getElem?] at hf
   try simp at hf
  ·go_simp
   first | exact Below.refl _ _ | exact ⟨_, rfl, Below.refl _ _, rfl⟩
  ·go_simp
   first | exact Below.refl _ _ | exact ⟨_, rfl, Below.refl _ _, rfl⟩
  ·go_simp
   first | exact Below.refl _ _ | exact ⟨_, rfl, Below.refl _ _, rfl⟩
  ·go_simp
   first | exact Below.refl _ _ | exact ⟨_, rfl, Below.refl _ _, rfl⟩
  ·go_simp
   refine (unhide HNy).mono ?_
   rintro r w1 ⟨rfl, hb1⟩
   first | exact hb1 | exact ⟨rfl, hb1⟩ | exact ⟨_, rfl, hb1, rfl⟩
  ·rw [if_pos (by rfl)]
   exact oper_load_sec (.tmp 2) rfl w.heap.size (by simp [Act.eval, hf]) 207 S hS (unhide Y0) ⟨_, rfl, Below.refl _ _, rfl⟩
  ·go_simp
   refine (unhide (hST y)).mono ?_
   rintro r w1 ⟨rfl, hb1⟩
   first | exact hb1 | exact ⟨rfl, hb1⟩ | exact ⟨_, rfl, hb1, rfl⟩
  ·go_simp
   exact ⟨_, rfl, (Below.refl _ _).alloc (Nat.le_refl _) _, _, rfl, by omega, heap_alloc_new _ _⟩
  ·go_simp
   first | exact Below.refl _ _ | exact ⟨_, rfl, Below.refl _ _, rfl⟩
  ·go_simp
   first | exact Below.refl _ _ | exact ⟨_, rfl, Below.refl _ _, rfl⟩
 ·intro f y hby hwd
  simp only [AllWords, List.take] at hwd
  have h6 := hwd.2.2.2.2.2.2.1
  obtain ⟨g8, h7, hg8, hc8⟩ := hwd.2.2.2.2.2.2.2.1
  have h8 := hwd.2.2.2.2.2.2.2.2.1
  have h9 := hwd.2.2.2.2.2.2.2.2.2.1
  have y0 := (hby.block _ (by omega : w.heap.size < x.heap.size)).trans (unhide H0)
  have y1 := (hby.block _ hz).trans (unhide H1)
  have HBY := hide ((unhide HB).trans (hby.mono (unhide HB).size))
  clear hwd hby
  simp only [mergeT, h6, h7, h8, h9]
  refine wp_store_row 201 (.tmp 8) (.tmp 20) rfl g8 #[.int .u32 o, .int .u64 c] (by simp [Act.eval]) (by simp [Act.eval]) 201 _ hc8 (by rw [size_stamp]; rfl) (by simp) (by rw [Array.all_eq_true_iff_forall_mem]; intro u hu; simp at hu; rcases hu with rfl | rfl <;> rfl) ?_
  have hz8 := setRow_heap y g8 _ #[.int .u32 o, .int .u64 c] 201 (0, 0) hc8
  have hF := far_setRow y g8 #[.int .u32 o, .int .u64 c]
  generalize f 14 = x14
  generalize f 15 = x15
  generalize f 16 = x16
  generalize f 17 = x17
  generalize f 18 = x18
  generalize f 19 = x19
  generalize y.setRow g8 #[.int .u32 o, .int .u64 c] = z at *
  have z0 := hF.blk y0 (by omega)
  have z1 := hF.blk y1 (by omega)
  have hBz := (unhide HBY).trans (hF.below (unhide HBY).size (fun k hk e => by omega))
  clear hF y0 y1 HBY hc8 h6 h7 h8 h9 H0 H1 HB hz hST hN hc13
  have d12 := unhide (hc12 z z0)
  clear hc12
  have Z0 := hide z0
  have Z8 := hide hz8
  have HBZ := hide hBz
  have q0 := blk_cell (i := 0) z1
  have q1 := blk_cell (i := 1) z1
  have q2 := blk_cell (i := 2) z1
  simp at q0 q1 q2
  have p0 : ∀ i, z.frozen? ⟨w.heap.size + 1, i, none⟩ = false := fun i => blk_free z1
  have Z1 := hide z1
  clear z0 hz8 hBz z1
  go_simp
  go_upto_region 4 with fail
  by_cases c1 : (20 : Int) < (ln : Int)
  ·clear HCV HSR HEQ hIS Z0 Z8
   go_wp2
   have hko : ok = false := by
    rw [unhide HOK, decide_eq_false (show ¬ ln ≤ 20 by omega)]
    simp
   refine bodyPost_ret (v := .tuple #[.agg #[.int .i64 0, .int .i64 0, .string ⟨#[]⟩], .bool false]) (by simp [results, Tryz.results197, go_sem, q0, q1, q2]) rfl ⟨⟨0, 0, ⟨#[]⟩⟩, (by rw [hko]; rfl), (fun h => (by rw [hko] at h; cases h)), ?_⟩
   exact (((unhide HBZ).setCell (p := ⟨w.heap.size + 1, 0, none⟩) (by simp) _).setCell (p := ⟨w.heap.size + 1, 1, none⟩) (by simp) _).setCell (p := ⟨w.heap.size + 1, 2, none⟩) (by simp) _
  ·by_cases c2 : (3 : Int) ≤ (sm : Int)
   ·clear HCV HSR HEQ hIS Z0 Z8
    go_wp2
    have hko : ok = false := by
     rw [unhide HOK, decide_eq_false (show ¬ sm < 3 by omega)]
     simp
    refine bodyPost_ret (v := .tuple #[.agg #[.int .i64 0, .int .i64 0, .string ⟨#[]⟩], .bool false]) (by simp [results, Tryz.results197, go_sem, q0, q1, q2]) rfl ⟨⟨0, 0, ⟨#[]⟩⟩, (by rw [hko]; rfl), (fun h => (by rw [hko] at h; cases h)), ?_⟩
    exact (((unhide HBZ).setCell (p := ⟨w.heap.size + 1, 0, none⟩) (by simp) _).setCell (p := ⟨w.heap.size + 1, 1, none⟩) (by simp) _).setCell (p := ⟨w.heap.size + 1, 2, none⟩) (by simp) _
   ·by_cases c3 : (q : Int) < 1
    ·clear HCV HSR HEQ hIS Z0 Z8
     go_wp2
     have hko : ok = false := by
      rw [unhide HOK, decide_eq_false (show ¬ 1 ≤ q by omega)]
      simp
     refine bodyPost_ret (v := .tuple #[.agg #[.int .i64 0, .int .i64 0, .string ⟨#[]⟩], .bool false]) (by simp [results, Tryz.results197, go_sem, q0, q1, q2]) rfl ⟨⟨0, 0, ⟨#[]⟩⟩, (by rw [hko]; rfl), (fun h => (by rw [hko] at h; cases h)), ?_⟩
     exact (((unhide HBZ).setCell (p := ⟨w.heap.size + 1, 0, none⟩) (by simp) _).setCell (p := ⟨w.heap.size + 1, 1, none⟩) (by simp) _).setCell (p := ⟨w.heap.size + 1, 2, none⟩) (by simp) _
    ·by_cases c4 : (2147483647 : Int) < (q : Int)
     ·clear HCV HSR HEQ hIS Z0 Z8
      go_wp2
      have hko : ok = false := by
       rw [unhide HOK, decide_eq_false (show ¬ q ≤ 2147483647 by omega)]
       simp
      refine bodyPost_ret (v := .tuple #[.agg #[.int .i64 0, .int .i64 0, .string ⟨#[]⟩], .bool false]) (by simp [results, Tryz.results197, go_sem, q0, q1, q2]) rfl ⟨⟨0, 0, ⟨#[]⟩⟩, (by rw [hko]; rfl), (fun h => (by rw [hko] at h; cases h)), ?_⟩
      exact (((unhide HBZ).setCell (p := ⟨w.heap.size + 1, 0, none⟩) (by simp) _).setCell (p := ⟨w.heap.size + 1, 1, none⟩) (by simp) _).setCell (p := ⟨w.heap.size + 1, 2, none⟩) (by simp) _
     ·have hln : ln ≤ 20 := by omega
      have HCV := hide ((unhide HCV) hln)
      have HSR := hide ((unhide HSR) (by omega) hln)
      have HEQ := hide ((unhide HEQ) hln)
      go_upto_region 6 with fail
      have hlz := lt_of_block (unhide Z8)
      have hz1 := lt_of_block (unhide Z1)
      have w1 : IntKind.i64.wrap (18 + (ln : Int)) = 18 + (ln : Int) := by rw [IntKind.wrap_i64]; omega
      have w2 : IntKind.i64.wrap (sm : Int) = (sm : Int) := by rw [IntKind.wrap_i64]; omega
      have w3 : IntKind.i64.wrap (q : Int) = (q : Int) := by rw [IntKind.wrap_i64]; omega
      have i1 : (18 : Int) ≤ 18 + (ln : Int) := by omega
      have i2 : 18 + (ln : Int) ≤ 64 := by omega
      have i3 : (0 : Int) ≤ 18 + (ln : Int) := by omega
      have i4 : (18 + (ln : Int)).toNat = 18 + ln := by omega
      refine wp_region_last (by kernel_rfl)
       [fun v _ => v = .pointer (some ⟨w.heap.size, 12, none⟩), fun v _ => v = .int .u8 sm, fun v _ => v = .int .i64 sm, fun v _ => v = .int .u32 q, fun v _ => v = .int .i64 q, fun v _ => v = .int .i64 ln, fun v _ => v = .int .i64 (18 + (ln : Int)), fun v _ => v = .slice (some ⟨w.heap.size, 18, none⟩) ln 46, fun v _ => v = .string b, fun v _ => v = .agg #[.int .i64 sm, .int .i64 q, .string b],
        fun v y => ∃ g, v = .pointer (some ⟨g, 0, none⟩) ∧ z.heap.size ≤ g ∧ y.heap[g]? = some (.cells #[.int .i64 0, .int .i64 0, .string ⟨#[]⟩] 155 (0, 0)), fun _ _ => True]
       [[(2, none)], [(37, some 0)], [(38, some 1)], [(7, none)], [(40, some 3)], [(6, none)], [(42, some 5)], [(2, none), (43, some 6)], [(44, some 7)], [(39, some 2), (41, some 4), (45, some 8)], [], [(9, some 10), (46, some 9)]] [some 37, some 38, some 39, some 40, some 41, some 42, some 43, some 44, some 45, some 46, some 9, none] [false, false, false, false, false, false, false, false, false, true, false, false, false, false, false, false, false, false, false, false, false, false, false, false, false, false, false, false, false, false, false, false, false, false, false, false, false, true, true, true, true, true, true, true, true, true, true, false, false, false, false, false, false, false, false, false, false, false, false, false, false, false, false]
       11 _ rfl rfl (by kernel_rfl) (by kernel_rfl) (by kernel_rfl) (by kernel_rfl) (by kernel_rfl) (by kernel_rfl) ?_ ?_ ?_
      ·repeat' (first | exact stable_eq _ | exact stable_true | exact (fun _ y z h hb => h.imp fun g h => ⟨h.1, h.2.1, (hb.block _ (lt_of_block h.2.2)).trans h.2.2⟩) | exact (fun _ _ _ h _ => h) | exact trivial | apply And.intro)
      ·refine ⟨?_, ?_, ?_, ?_, ?_, ?_, ?_, ?_, ?_, ?_, ?_, trivial⟩
       all_goals
        intro a' y hb hf
        have y0 := (hb.block _ (by omega : w.heap.size < z.heap.size)).trans (unhide Z0)
        have d12 := (hb.cell (p := ⟨w.heap.size, 12, none⟩) (by show w.heap.size < _; omega)).trans d12
        have hzy := hb.size
        have Y0 := hide y0
        clear hb y0
        simp only [PlanFacts, List.getD_cons_zero, List.getD_cons_succ, Array.getD_eq_getD_getElem?] at hf
        try simp at hf
       iterate 7
        ·go_simp
         first | exact Below.refl _ _ | exact ⟨_, rfl, Below.refl _ _, rfl⟩
       ·go_simp
        first | exact Below.refl _ _ | exact ⟨_, rfl, Below.refl _ _, rfl⟩
       ·have hcv := (unhide HCV) y ln 46 rfl (unhide Y0)
        go_simp
        first | exact Below.refl _ _ | exact ⟨_, rfl, Below.refl _ _, rfl⟩
       ·go_simp
        first | exact Below.refl _ _ | exact ⟨_, rfl, Below.refl _ _, rfl⟩
       ·go_simp
        exact ⟨_, rfl, (Below.refl _ _).alloc (Nat.le_refl _) _, _, rfl, by omega, heap_alloc_new _ _⟩
      ·intro f y hby hwd
       simp only [AllWords, List.take] at hwd
       have h9 := hwd.2.2.2.2.2.2.2.2.2.1
       obtain ⟨g9, h10, hg9, hc9⟩ := hwd.2.2.2.2.2.2.2.2.2.2.1
       have y0 := (hby.block _ (by omega : w.heap.size < z.heap.size)).trans (unhide Z0)
       have y1 := (hby.block _ hz1).trans (unhide Z1)
       have y8 := (hby.block _ hlz).trans (unhide Z8)
       have HBY := hide ((unhide HBZ).trans (hby.mono (unhide HBZ).size))
       have hzw := (unhide HBZ).size
       clear hwd hby
       simp only [mergeT, h9, h10]
       refine wp_store_row 155 (.tmp 9) (.tmp 46) rfl g9 #[.int .i64 sm, .int .i64 q, .string b] (by simp [Act.eval]) (by simp [Act.eval]) 155 _ hc9 (by rw [size_rec]; rfl) (by simp) (by rw [Array.all_eq_true_iff_forall_mem]; intro u hu; simp at hu; rcases hu with rfl | rfl | rfl <;> rfl) ?_
       have hz9 := setRow_heap y g9 _ #[.int .i64 sm, .int .i64 q, .string b] 155 (0, 0) hc9
       have hF := far_setRow y g9 #[.int .i64 sm, .int .i64 q, .string b]
       generalize f 37 = x37
       generalize f 38 = x38
       generalize f 39 = x39
       generalize f 40 = x40
       generalize f 41 = x41
       generalize f 42 = x42
       generalize f 43 = x43
       generalize f 44 = x44
       generalize f 45 = x45
       generalize y.setRow g9 #[.int .i64 sm, .int .i64 q, .string b] = u at *
       have u0 := hF.blk y0 (by omega)
       have u1 := hF.blk y1 (by omega)
       have u8 := hF.blk y8 (by omega)
       have hBu := (unhide HBY).trans (hF.below (unhide HBY).size (fun k hk e => by omega))
       clear hF y0 y1 y8 HBY hc9 h9 h10 Z0 Z1 Z8 HBZ d12 q0 q1 q2 p0 HCV i1 i2 i3 i4 w1 w2 w3 hwl
       have U0 := hide u0
       have U1 := hide u1
       have U8 := hide u8
       have U9 := hide hz9
       have HBU := hide hBu
       clear u0 u1 u8 hz9 hBu
       go_simp
       go_upto_region 7 with fail
       cases his : Mod.isStamp o with
       | false =>
        refine wp_region_foot (by kernel_rfl)
         [fun v _ => v = .agg #[.int .i64 sm, .int .i64 q, .string b], fun v _ => v = .agg #[.int .u32 o, .int .u64 c], fun v _ => v = .bool false, fun v _ => v = .bool false, fun _ _ => True, fun _ _ => True, fun _ _ => True, fun _ _ => True, fun v _ => v = .bool false, fun v _ => v = .bool false, fun _ _ => True, fun _ _ => True, fun _ _ => True, fun _ _ => True, fun _ _ => True, fun v _ => v = .bool (false), fun _ y => y.heap[w.heap.size + 1]? = some (.cells #[.int .i64 sm, .int .i64 q, .string b] 155 (0, 0)), fun v _ => v = .bool (false)]
         [[(9, none)], [(8, none)], [(48, some 1)], [(49, some 2)], [(8, none), (50, some 3)], [(51, some 4), (50, some 3)], [(1, none), (50, some 3)], [(52, some 5), (53, some 6), (50, some 3)], [(50, some 3), (54, some 7)], [(55, some 8)], [(8, none), (56, some 9)], [(9, none), (56, some 9)], [(57, some 10), (58, some 11), (56, some 9)], [(2, none), (56, some 9)], [(59, some 12), (60, some 13), (56, some 9)], [(56, some 9), (61, some 14)], [(4, none), (47, some 0)], [(62, some 15)]] [some 47, some 48, some 49, some 50, some 51, some 52, some 53, some 54, some 55, some 56, some 57, some 58, some 59, some 60, some 61, some 62, none, some 5] [false, false, false, false, false, true, false, false, false, false, false, false, false, false, false, false, false, false, false, false, false, false, false, false, false, false, false, false, false, false, false, false, false, false, false, false, false, false, false, false, false, false, false, false, false, false, false, true, true, true, true, true, true, true, true, true, true, true, true, true, true, true, true]
         [(16, fun k => k = w.heap.size + 1)]
         (by kernel_rfl) (by kernel_rfl) (by kernel_rfl) (by kernel_rfl) (by kernel_rfl) ?_ ?_ ?_ ?_
        ·repeat' (first | exact stable_eq _ | exact stable_true | exact stable_blk _ _ | exact trivial | apply And.intro)
        ·repeat' (first | exact trivial | exact .inl rfl | exact .inr (.inr (stableF_eq _ _)) | exact .inr (.inr (fun _ _ _ _ _ => trivial)) | apply And.intro)
        ·refine ⟨?_, ?_, ?_, ?_, ?_, ?_, ?_, ?_, ?_, ?_, ?_, ?_, ?_, ?_, ?_, ?_, ?_, ?_, trivial⟩
         all_goals
          intro a' y hb hf
          have y0 := hb.blk (unhide U0) (footBut_no (by intro q hq; simp at hq; subst hq; intro (e : w.heap.size = w.heap.size + 1); omega))
          have y8 := hb.blk (unhide U8) (footBut_no (by intro q hq; simp at hq; subst hq; intro (e : g8 = w.heap.size + 1); omega))
          have y9 := hb.blk (unhide U9) (footBut_no (by intro q hq; simp at hq; subst hq; intro (e : g9 = w.heap.size + 1); omega))
          have e0 : y.cell? ⟨g8, 0, none⟩ = some (.int .u32 o) := blk_cell (i := 0) y8
          have e1 : y.cell? ⟨g8, 1, none⟩ = some (.int .u64 c) := blk_cell (i := 1) y8
          have r0 : y.cell? ⟨g9, 0, none⟩ = some (.int .i64 sm) := blk_cell (i := 0) y9
          have r1 : y.cell? ⟨g9, 1, none⟩ = some (.int .i64 q) := blk_cell (i := 1) y9
          have r2 : y.cell? ⟨g9, 2, none⟩ = some (.string b) := blk_cell (i := 2) y9
          have Y0 := hide y0
          clear y0 y8 y9
          simp only [PlanFacts, List.getD_cons_zero, List.getD_cons_succ, Array.getD_eq_getD_getElem?] at hf
          try simp at hf
         iterate 2
          ·clear hb
           go_simp
           first | exact Far.refl _ _ | exact ⟨_, rfl, Far.refl _ _, rfl⟩
         ·clear hb
          go_simp
          refine (unhide (hIS y)).mono ?_
          rintro r w1 ⟨rfl, hb1⟩
          exact ⟨_, rfl, far_below hb1, (by rw [his]; rfl)⟩
         ·clear hb
          go_simp
          first | exact Far.refl _ _ | exact ⟨_, rfl, Far.refl _ _, rfl⟩
         iterate 4
          ·clear hb
           have hg : a'.tmps[50]? = some (.bool false) := tmpB (by first | exact hf | exact hf.2 | exact hf.2.2)
           go_simp
           try trivial
         iterate 2
          ·clear hb
           go_simp
           first | exact Far.refl _ _ | exact ⟨_, rfl, Far.refl _ _, rfl⟩
         iterate 5
          ·clear hb
           have hg : a'.tmps[56]? = some (.bool false) := tmpB (by first | exact hf | exact hf.2 | exact hf.2.2)
           go_simp
           try trivial
         ·clear hb
          go_simp
          first | exact Far.refl _ _ | exact ⟨_, rfl, Far.refl _ _, rfl⟩
         ·have y1 := hb.blk (unhide U1) (by
           rintro ⟨q, hq, g1, g2, g3⟩
           simp at hq
           subst hq
           exact g1 rfl)
          clear hb
          rw [if_pos (by rfl)]
          refine wp_store_row 155 (.tmp 4) (.tmp 47) rfl (w.heap.size + 1) #[.int .i64 sm, .int .i64 q, .string b] (by simp [Act.eval, hf]) (by simp [Act.eval, hf]) 155 _ y1 (by rw [size_rec]; rfl) (by simp) (by rw [Array.all_eq_true_iff_forall_mem]; intro u hu; simp at hu; rcases hu with rfl | rfl | rfl <;> rfl) ?_
          exact ⟨_, rfl, footOf_of (.head _) (far_setRow _ _ _), setRow_heap _ _ _ _ _ _ y1⟩
         ·clear hb
          go_simp
          first | exact Far.refl _ _ | exact ⟨_, rfl, Far.refl _ _, rfl⟩
        ·intro f y hF hwd
         have h16 := hwd.2.2.2.2.2.2.2.2.2.2.2.2.2.2.2.2.1
         have h17 := hwd.2.2.2.2.2.2.2.2.2.2.2.2.2.2.2.2.2.1
         have k0 : y.cell? ⟨w.heap.size + 1, 0, none⟩ = some (.int .i64 sm) := blk_cell (i := 0) h16
         have k1 : y.cell? ⟨w.heap.size + 1, 1, none⟩ = some (.int .i64 q) := blk_cell (i := 1) h16
         have k2 : y.cell? ⟨w.heap.size + 1, 2, none⟩ = some (.string b) := blk_cell (i := 2) h16
         have HBV := hide ((unhide HBU).trans (hF.below (unhide HBU).size (fun k hk h => by
          obtain ⟨q, hq, h⟩ := h
          simp at hq
          subst hq
          have h : k = w.heap.size + 1 := h
          omega)))
         clear hwd hF h16
         simp only [mergeT, h17]
         generalize f 47 = x47
         generalize f 48 = x48
         generalize f 49 = x49
         generalize f 50 = x50
         generalize f 51 = x51
         generalize f 52 = x52
         generalize f 53 = x53
         generalize f 54 = x54
         generalize f 55 = x55
         generalize f 56 = x56
         generalize f 57 = x57
         generalize f 58 = x58
         generalize f 59 = x59
         generalize f 60 = x60
         generalize f 61 = x61
         generalize f 62 = x62
         go_simp
         go_wp2
         have hko : ok = false := by
          rw [unhide HOK, decide_eq_true (show ln ≤ 20 by omega), decide_eq_true (show sm < 3 by omega), decide_eq_true (show 1 ≤ q by omega), decide_eq_true (show q ≤ 2147483647 by omega), his]
          rfl
         refine bodyPost_ret (v := .tuple #[.agg #[.int .i64 sm, .int .i64 q, .string b], .bool (false)]) (by simp [results, Tryz.results197, go_sem, k0, k1, k2]) rfl ⟨⟨sm, q, b⟩, (by rw [hko]; rfl), (fun _ => rfl), unhide HBV⟩
       | true =>
        by_cases hle : (o : Int) ≤ (last : Int)
        ·refine wp_region_foot (by kernel_rfl)
          [fun v _ => v = .agg #[.int .i64 sm, .int .i64 q, .string b], fun v _ => v = .agg #[.int .u32 o, .int .u64 c], fun v _ => v = .bool true, fun v _ => v = .bool true, fun v _ => v = .pointer (some ⟨g8, 0, none⟩), fun v _ => v = .int .u32 o, fun v _ => v = .int .u32 last, fun v _ => v = .bool true, fun v _ => v = .bool true, fun v _ => v = .bool true, fun v _ => v = .agg #[.int .u32 o, .int .u64 c], fun v _ => v = .agg #[.int .i64 sm, .int .i64 q, .string b], fun v _ => v = .agg (bv T).toArray, fun v _ => v = .agg (bv S).toArray, fun v _ => v = .bool (decide (T = S)), fun v _ => v = .bool (decide (T = S)), fun _ y => y.heap[w.heap.size + 1]? = some (.cells #[.int .i64 sm, .int .i64 q, .string b] 155 (0, 0)), fun v _ => v = .bool (decide (T = S))]
          [[(9, none)], [(8, none)], [(48, some 1)], [(49, some 2)], [(8, none), (50, some 3)], [(51, some 4), (50, some 3)], [(1, none), (50, some 3)], [(52, some 5), (53, some 6), (50, some 3)], [(50, some 3), (54, some 7)], [(55, some 8)], [(8, none), (56, some 9)], [(9, none), (56, some 9)], [(57, some 10), (58, some 11), (56, some 9)], [(2, none), (56, some 9)], [(59, some 12), (60, some 13), (56, some 9)], [(56, some 9), (61, some 14)], [(4, none), (47, some 0)], [(62, some 15)]] [some 47, some 48, some 49, some 50, some 51, some 52, some 53, some 54, some 55, some 56, some 57, some 58, some 59, some 60, some 61, some 62, none, some 5] [false, false, false, false, false, true, false, false, false, false, false, false, false, false, false, false, false, false, false, false, false, false, false, false, false, false, false, false, false, false, false, false, false, false, false, false, false, false, false, false, false, false, false, false, false, false, false, true, true, true, true, true, true, true, true, true, true, true, true, true, true, true, true]
          [(16, fun k => k = w.heap.size + 1)]
          (by kernel_rfl) (by kernel_rfl) (by kernel_rfl) (by kernel_rfl) (by kernel_rfl) ?_ ?_ ?_ ?_
         ·repeat' (first | exact stable_eq _ | exact stable_true | exact stable_blk _ _ | exact trivial | apply And.intro)
         ·repeat' (first | exact trivial | exact .inl rfl | exact .inr (.inr (stableF_eq _ _)) | exact .inr (.inr (fun _ _ _ _ _ => trivial)) | apply And.intro)
         ·refine ⟨?_, ?_, ?_, ?_, ?_, ?_, ?_, ?_, ?_, ?_, ?_, ?_, ?_, ?_, ?_, ?_, ?_, ?_, trivial⟩
          all_goals
           intro a' y hb hf
           have y0 := hb.blk (unhide U0) (footBut_no (by intro q hq; simp at hq; subst hq; intro (e : w.heap.size = w.heap.size + 1); omega))
           have y8 := hb.blk (unhide U8) (footBut_no (by intro q hq; simp at hq; subst hq; intro (e : g8 = w.heap.size + 1); omega))
           have y9 := hb.blk (unhide U9) (footBut_no (by intro q hq; simp at hq; subst hq; intro (e : g9 = w.heap.size + 1); omega))
           have e0 : y.cell? ⟨g8, 0, none⟩ = some (.int .u32 o) := blk_cell (i := 0) y8
           have e1 : y.cell? ⟨g8, 1, none⟩ = some (.int .u64 c) := blk_cell (i := 1) y8
           have r0 : y.cell? ⟨g9, 0, none⟩ = some (.int .i64 sm) := blk_cell (i := 0) y9
           have r1 : y.cell? ⟨g9, 1, none⟩ = some (.int .i64 q) := blk_cell (i := 1) y9
           have r2 : y.cell? ⟨g9, 2, none⟩ = some (.string b) := blk_cell (i := 2) y9
           have Y0 := hide y0
           clear y0 y8 y9
           simp only [PlanFacts, List.getD_cons_zero, List.getD_cons_succ, Array.getD_eq_getD_getElem?] at hf
           try simp at hf
          iterate 2
           ·clear hb
            go_simp
            first | exact Far.refl _ _ | exact ⟨_, rfl, Far.refl _ _, rfl⟩
          ·clear hb
           go_simp
           refine (unhide (hIS y)).mono ?_
           rintro r w1 ⟨rfl, hb1⟩
           exact ⟨_, rfl, far_below hb1, (by rw [his]; rfl)⟩
          ·clear hb
           go_simp
           first | exact Far.refl _ _ | exact ⟨_, rfl, Far.refl _ _, rfl⟩
          iterate 4
           ·clear hb
            have hg : a'.tmps[50]? = some (.bool true) := tmpB (by first | exact hf | exact hf.2 | exact hf.2.2)
            go_simp
            first | exact Far.refl _ _ | exact ⟨_, rfl, Far.refl _ _, rfl⟩
          iterate 2
           ·clear hb
            go_simp
            first | exact Far.refl _ _ | exact ⟨_, rfl, Far.refl _ _, rfl⟩
          iterate 2
           ·clear hb
            have hg : a'.tmps[56]? = some (.bool true) := tmpB (by first | exact hf | exact hf.2 | exact hf.2.2)
            go_simp
            first | exact Far.refl _ _ | exact ⟨_, rfl, Far.refl _ _, rfl⟩
          ·clear hb
           have hg : a'.tmps[56]? = some (.bool true) := tmpB (by first | exact hf | exact hf.2 | exact hf.2.2)
           go_simp
           refine (unhide ((unhide HSR) y)).mono ?_
           rintro r w1 ⟨rfl, hb1⟩
           exact ⟨_, rfl, far_below hb1, rfl⟩
          ·clear hb
           have hg : a'.tmps[56]? = some (.bool true) := tmpB (by first | exact hf | exact hf.2 | exact hf.2.2)
           rw [if_pos (by go_simp)]
           exact oper_load_sec (.tmp 2) rfl w.heap.size (by simp [Act.eval, hf]) 207 S hS (unhide Y0) ⟨_, rfl, Far.refl _ _, rfl⟩
          ·clear hb
           have hg : a'.tmps[56]? = some (.bool true) := tmpB (by first | exact hf | exact hf.2 | exact hf.2.2)
           have heqy := (unhide HEQ) y
           go_simp
           first | exact Far.refl _ _ | exact ⟨_, rfl, Far.refl _ _, rfl⟩
          ·clear hb
           go_simp
           first | exact Far.refl _ _ | exact ⟨_, rfl, Far.refl _ _, rfl⟩
          ·have y1 := hb.blk (unhide U1) (by
            rintro ⟨q, hq, g1, g2, g3⟩
            simp at hq
            subst hq
            exact g1 rfl)
           clear hb
           rw [if_pos (by rfl)]
           refine wp_store_row 155 (.tmp 4) (.tmp 47) rfl (w.heap.size + 1) #[.int .i64 sm, .int .i64 q, .string b] (by simp [Act.eval, hf]) (by simp [Act.eval, hf]) 155 _ y1 (by rw [size_rec]; rfl) (by simp) (by rw [Array.all_eq_true_iff_forall_mem]; intro u hu; simp at hu; rcases hu with rfl | rfl | rfl <;> rfl) ?_
           exact ⟨_, rfl, footOf_of (.head _) (far_setRow _ _ _), setRow_heap _ _ _ _ _ _ y1⟩
          ·clear hb
           go_simp
           first | exact Far.refl _ _ | exact ⟨_, rfl, Far.refl _ _, rfl⟩
         ·intro f y hF hwd
          have h16 := hwd.2.2.2.2.2.2.2.2.2.2.2.2.2.2.2.2.1
          have h17 := hwd.2.2.2.2.2.2.2.2.2.2.2.2.2.2.2.2.2.1
          have k0 : y.cell? ⟨w.heap.size + 1, 0, none⟩ = some (.int .i64 sm) := blk_cell (i := 0) h16
          have k1 : y.cell? ⟨w.heap.size + 1, 1, none⟩ = some (.int .i64 q) := blk_cell (i := 1) h16
          have k2 : y.cell? ⟨w.heap.size + 1, 2, none⟩ = some (.string b) := blk_cell (i := 2) h16
          have HBV := hide ((unhide HBU).trans (hF.below (unhide HBU).size (fun k hk h => by
           obtain ⟨q, hq, h⟩ := h
           simp at hq
           subst hq
           have h : k = w.heap.size + 1 := h
           omega)))
          clear hwd hF h16
          simp only [mergeT, h17]
          generalize f 47 = x47
          generalize f 48 = x48
          generalize f 49 = x49
          generalize f 50 = x50
          generalize f 51 = x51
          generalize f 52 = x52
          generalize f 53 = x53
          generalize f 54 = x54
          generalize f 55 = x55
          generalize f 56 = x56
          generalize f 57 = x57
          generalize f 58 = x58
          generalize f 59 = x59
          generalize f 60 = x60
          generalize f 61 = x61
          generalize f 62 = x62
          go_simp
          go_wp2
          have hko : ok = decide (T = S) := by
           rw [unhide HOK, decide_eq_true (show ln ≤ 20 by omega), decide_eq_true (show sm < 3 by omega), decide_eq_true (show 1 ≤ q by omega), decide_eq_true (show q ≤ 2147483647 by omega), his, decide_eq_true (show o ≤ last by omega)]
           rfl
          refine bodyPost_ret (v := .tuple #[.agg #[.int .i64 sm, .int .i64 q, .string b], .bool (decide (T = S))]) (by simp [results, Tryz.results197, go_sem, k0, k1, k2]) rfl ⟨⟨sm, q, b⟩, (by rw [hko]; rfl), (fun _ => rfl), unhide HBV⟩
        ·refine wp_region_foot (by kernel_rfl)
          [fun v _ => v = .agg #[.int .i64 sm, .int .i64 q, .string b], fun v _ => v = .agg #[.int .u32 o, .int .u64 c], fun v _ => v = .bool true, fun v _ => v = .bool true, fun v _ => v = .pointer (some ⟨g8, 0, none⟩), fun v _ => v = .int .u32 o, fun v _ => v = .int .u32 last, fun v _ => v = .bool false, fun v _ => v = .bool false, fun v _ => v = .bool false, fun _ _ => True, fun _ _ => True, fun _ _ => True, fun _ _ => True, fun _ _ => True, fun v _ => v = .bool (false), fun _ y => y.heap[w.heap.size + 1]? = some (.cells #[.int .i64 sm, .int .i64 q, .string b] 155 (0, 0)), fun v _ => v = .bool (false)]
          [[(9, none)], [(8, none)], [(48, some 1)], [(49, some 2)], [(8, none), (50, some 3)], [(51, some 4), (50, some 3)], [(1, none), (50, some 3)], [(52, some 5), (53, some 6), (50, some 3)], [(50, some 3), (54, some 7)], [(55, some 8)], [(8, none), (56, some 9)], [(9, none), (56, some 9)], [(57, some 10), (58, some 11), (56, some 9)], [(2, none), (56, some 9)], [(59, some 12), (60, some 13), (56, some 9)], [(56, some 9), (61, some 14)], [(4, none), (47, some 0)], [(62, some 15)]] [some 47, some 48, some 49, some 50, some 51, some 52, some 53, some 54, some 55, some 56, some 57, some 58, some 59, some 60, some 61, some 62, none, some 5] [false, false, false, false, false, true, false, false, false, false, false, false, false, false, false, false, false, false, false, false, false, false, false, false, false, false, false, false, false, false, false, false, false, false, false, false, false, false, false, false, false, false, false, false, false, false, false, true, true, true, true, true, true, true, true, true, true, true, true, true, true, true, true]
          [(16, fun k => k = w.heap.size + 1)]
          (by kernel_rfl) (by kernel_rfl) (by kernel_rfl) (by kernel_rfl) (by kernel_rfl) ?_ ?_ ?_ ?_
         ·repeat' (first | exact stable_eq _ | exact stable_true | exact stable_blk _ _ | exact trivial | apply And.intro)
         ·repeat' (first | exact trivial | exact .inl rfl | exact .inr (.inr (stableF_eq _ _)) | exact .inr (.inr (fun _ _ _ _ _ => trivial)) | apply And.intro)
         ·refine ⟨?_, ?_, ?_, ?_, ?_, ?_, ?_, ?_, ?_, ?_, ?_, ?_, ?_, ?_, ?_, ?_, ?_, ?_, trivial⟩
          all_goals
           intro a' y hb hf
           have y0 := hb.blk (unhide U0) (footBut_no (by intro q hq; simp at hq; subst hq; intro (e : w.heap.size = w.heap.size + 1); omega))
           have y8 := hb.blk (unhide U8) (footBut_no (by intro q hq; simp at hq; subst hq; intro (e : g8 = w.heap.size + 1); omega))
           have y9 := hb.blk (unhide U9) (footBut_no (by intro q hq; simp at hq; subst hq; intro (e : g9 = w.heap.size + 1); omega))
           have e0 : y.cell? ⟨g8, 0, none⟩ = some (.int .u32 o) := blk_cell (i := 0) y8
           have e1 : y.cell? ⟨g8, 1, none⟩ = some (.int .u64 c) := blk_cell (i := 1) y8
           have r0 : y.cell? ⟨g9, 0, none⟩ = some (.int .i64 sm) := blk_cell (i := 0) y9
           have r1 : y.cell? ⟨g9, 1, none⟩ = some (.int .i64 q) := blk_cell (i := 1) y9
           have r2 : y.cell? ⟨g9, 2, none⟩ = some (.string b) := blk_cell (i := 2) y9
           have Y0 := hide y0
           clear y0 y8 y9
           simp only [PlanFacts, List.getD_cons_zero, List.getD_cons_succ, Array.getD_eq_getD_getElem?] at hf
           try simp at hf
          iterate 2
           ·clear hb
            go_simp
            first | exact Far.refl _ _ | exact ⟨_, rfl, Far.refl _ _, rfl⟩
          ·clear hb
           go_simp
           refine (unhide (hIS y)).mono ?_
           rintro r w1 ⟨rfl, hb1⟩
           exact ⟨_, rfl, far_below hb1, (by rw [his]; rfl)⟩
          ·clear hb
           go_simp
           first | exact Far.refl _ _ | exact ⟨_, rfl, Far.refl _ _, rfl⟩
          iterate 4
           ·clear hb
            have hg : a'.tmps[50]? = some (.bool true) := tmpB (by first | exact hf | exact hf.2 | exact hf.2.2)
            go_simp
            first | exact Far.refl _ _ | exact ⟨_, rfl, Far.refl _ _, rfl⟩
          iterate 2
           ·clear hb
            go_simp
            first | exact Far.refl _ _ | exact ⟨_, rfl, Far.refl _ _, rfl⟩
          iterate 5
           ·clear hb
            have hg : a'.tmps[56]? = some (.bool false) := tmpB (by first | exact hf | exact hf.2 | exact hf.2.2)
            go_simp
            try trivial
          ·clear hb
           go_simp
           first | exact Far.refl _ _ | exact ⟨_, rfl, Far.refl _ _, rfl⟩
          ·have y1 := hb.blk (unhide U1) (by
            rintro ⟨q, hq, g1, g2, g3⟩
            simp at hq
            subst hq
            exact g1 rfl)
           clear hb
           rw [if_pos (by rfl)]
           refine wp_store_row 155 (.tmp 4) (.tmp 47) rfl (w.heap.size + 1) #[.int .i64 sm, .int .i64 q, .string b] (by simp [Act.eval, hf]) (by simp [Act.eval, hf]) 155 _ y1 (by rw [size_rec]; rfl) (by simp) (by rw [Array.all_eq_true_iff_forall_mem]; intro u hu; simp at hu; rcases hu with rfl | rfl | rfl <;> rfl) ?_
           exact ⟨_, rfl, footOf_of (.head _) (far_setRow _ _ _), setRow_heap _ _ _ _ _ _ y1⟩
          ·clear hb
           go_simp
           first | exact Far.refl _ _ | exact ⟨_, rfl, Far.refl _ _, rfl⟩
         ·intro f y hF hwd
          have h16 := hwd.2.2.2.2.2.2.2.2.2.2.2.2.2.2.2.2.1
          have h17 := hwd.2.2.2.2.2.2.2.2.2.2.2.2.2.2.2.2.2.1
          have k0 : y.cell? ⟨w.heap.size + 1, 0, none⟩ = some (.int .i64 sm) := blk_cell (i := 0) h16
          have k1 : y.cell? ⟨w.heap.size + 1, 1, none⟩ = some (.int .i64 q) := blk_cell (i := 1) h16
          have k2 : y.cell? ⟨w.heap.size + 1, 2, none⟩ = some (.string b) := blk_cell (i := 2) h16
          have HBV := hide ((unhide HBU).trans (hF.below (unhide HBU).size (fun k hk h => by
           obtain ⟨q, hq, h⟩ := h
           simp at hq
           subst hq
           have h : k = w.heap.size + 1 := h
           omega)))
          clear hwd hF h16
          simp only [mergeT, h17]
          generalize f 47 = x47
          generalize f 48 = x48
          generalize f 49 = x49
          generalize f 50 = x50
          generalize f 51 = x51
          generalize f 52 = x52
          generalize f 53 = x53
          generalize f 54 = x54
          generalize f 55 = x55
          generalize f 56 = x56
          generalize f 57 = x57
          generalize f 58 = x58
          generalize f 59 = x59
          generalize f 60 = x60
          generalize f 61 = x61
          generalize f 62 = x62
          go_simp
          go_wp2
          have hko : ok = false := by
           rw [unhide HOK, decide_eq_true (show ln ≤ 20 by omega), decide_eq_true (show sm < 3 by omega), decide_eq_true (show 1 ≤ q by omega), decide_eq_true (show q ≤ 2147483647 by omega), his, decide_eq_false (show ¬ o ≤ last by omega)]
           rfl
          refine bodyPost_ret (v := .tuple #[.agg #[.int .i64 sm, .int .i64 q, .string b], .bool (false)]) (by simp [results, Tryz.results197, go_sem, k0, k1, k2]) rfl ⟨⟨sm, q, b⟩, (by rw [hko]; rfl), (fun _ => rfl), unhide HBV⟩
end Go.Proofs.YtamafdcnbcoegaaGreat
