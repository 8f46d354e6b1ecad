/-
  Part 9 of a proof: D21, D22, E3, K20, D23, U1, U2, S10.
-/
import Derived.Test.YtamafdcnbcoegaaGreatFe8
namespace Go.Proofs.YtamafdcnbcoegaaGreat
open Go.RowKit
set_option maxRecDepth 100000 in
theorem eq_head_no (o c a b d : Nat) (ho : o ≠ 0) (w : World) : (Op.equalIn 10000 217 (.agg #[.int .u32 o, .int .u64 c, .int .i64 a, .int .i64 b, .int .i64 d]) (.agg #[.int .u32 0, .int .u64 0, .int .i64 0, .int .i64 0, .int .i64 0])).run Tryz.prog w = .ok false w := by
 have hne : ((o : Int) == 0) = false := by simp; omega
 rw [run_equalIn_struct w 9999 217 _ _ (by kernel_rfl) (by kernel_rfl)]
 simp [go_sem, hne]
theorem mod_newer (h g : Mod.Hd) : Mod.newer h.o h.c g.o g.c = Mod.newer2 h g := rfl
def NhOut (L : List UInt8) (w : World) (r : Ending) (w' : World) : Prop :=
 ∃ (h : Mod.Hd) (k : Nat), r = .returned (.tuple #[hdVal h, .int .i64 k, .bool (Mod.newest L).isSome]) ∧ (∀ h' k', Mod.newest L = some (h', k') → h = h' ∧ k = k') ∧ Below w.heap.size w w'
theorem nhOut_no {L : List UInt8} {w y : World} (h : Mod.newest L = none) (h2 : Mod.Hd) (k : Nat) (hb : Below w.heap.size w y) : NhOut L w (.returned (.tuple #[hdVal h2, .int .i64 k, .bool false])) y :=
 ⟨h2, k, (by rw [h]; rfl), (fun h' k' e => (by rw [h] at e; cases e)), hb⟩
theorem nhOut_yes {L : List UInt8} {w y : World} {h2 : Mod.Hd} {k : Nat} (h : Mod.newest L = some (h2, k)) (hb : Below w.heap.size w y) : NhOut L w (.returned (.tuple #[hdVal h2, .int .i64 k, .bool true])) y :=
 ⟨h2, k, (by rw [h]; rfl), (fun h' k' e => (by rw [h] at e; cases e; exact ⟨rfl, rfl⟩)), hb⟩
theorem below_set5 {w z : World} {g : Nat} (hb : Below w.heap.size w z) (hg : w.heap.size ≤ g) (a b c d e : Value) : Below w.heap.size w (((((z.setCell ⟨g, 0, none⟩ a).setCell ⟨g, 1, none⟩ b).setCell ⟨g, 2, none⟩ c).setCell ⟨g, 3, none⟩ d).setCell ⟨g, 4, none⟩ e) :=
 ((((hb.setCell (p := ⟨g, 0, none⟩) hg _).setCell (p := ⟨g, 1, none⟩) hg _).setCell (p := ⟨g, 2, none⟩) hg _).setCell (p := ⟨g, 3, none⟩) hg _).setCell (p := ⟨g, 4, none⟩) hg _
set_option maxRecDepth 100000 in
set_option maxHeartbeats 4000000 in
theorem newestHead_any (w : World) (v : Value) (L : List UInt8) (hat : BytesAt w v L) (hn1 : 128 ≤ L.length) (hn2 : L.length ≤ 10000) :
  Calls Tryz.prog 146 #[v] w (NhOut L w) := by
 have hS := fun (k : Nat) (hk : 64 * k + 64 ≤ L.length) y (hb : Below w.heap.size w y) => hide (sectorAt_any y v L k (hat.below hb) hk hn2)
 have hS0 := hS 0 (by omega)
 have hS1 := hS 1 (by omega)
 have hR0 := fun y => hide (readHead_any (Mod.sec L 0) (Mod.length_sec (by omega)) y)
 have hR1 := fun y => hide (readHead_any (Mod.sec L 1) (Mod.length_sec (by omega)) y)
 have hnw : Mod.newest L = if Mod.headOk (Mod.sec L 0) = true ∧ Mod.headOk (Mod.sec L 1) = true then
  if Mod.newer2 (Mod.headIs (Mod.sec L 1)) (Mod.headIs (Mod.sec L 0)) = true then some (Mod.headIs (Mod.sec L 1), 1)
  else if Mod.newer2 (Mod.headIs (Mod.sec L 0)) (Mod.headIs (Mod.sec L 1)) = true then some (Mod.headIs (Mod.sec L 0), 0)
  else if (Mod.headIs (Mod.sec L 0)).o = 0 ∧ (Mod.headIs (Mod.sec L 1)).o = 0 then some (Mod.hd0, 0) else none
 else none := rfl
 have hz0 : Mod.headOk (Mod.sec L 0) = true → (Mod.headIs (Mod.sec L 0)).o = 0 → Mod.headIs (Mod.sec L 0) = Mod.hd0 := fun h e => by
  rcases Mod.headOk_some h with ⟨_, e2⟩ | ⟨e2, _⟩
  ·exact e2
  ·rw [e] at e2; cases e2
 have hz1 : Mod.headOk (Mod.sec L 1) = true → (Mod.headIs (Mod.sec L 1)).o = 0 → Mod.headIs (Mod.sec L 1) = Mod.hd0 := fun h e => by
  rcases Mod.headOk_some h with ⟨_, e2⟩ | ⟨e2, _⟩
  ·exact e2
  ·rw [e] at e2; cases e2
 obtain ⟨S0, hS0d⟩ : ∃ S0, S0 = Mod.sec L 0 := ⟨_, rfl⟩
 obtain ⟨S1, hS1d⟩ : ∃ S1, S1 = Mod.sec L 1 := ⟨_, rfl⟩
 unfold Mod.sec at hS0d hS1d
 rw [← hS0d] at hS0
 rw [← hS1d] at hS1
 have e0 : Mod.sec L 0 = S0 := hS0d.symm
 have e1 : Mod.sec L 1 = S1 := hS1d.symm
 rw [e0] at hR0 hnw hz0
 rw [e1] at hR1 hnw hz1
 clear hS hS0d hS1d e0 e1 hat
 generalize Mod.headOk S0 = k0 at *
 generalize Mod.headOk S1 = k1 at *
 generalize Mod.headIs S0 = F at *
 generalize Mod.headIs S1 = G at *
 have HNW := hide hnw
 have HZ0 := hide hz0
 have HZ1 := hide hz1
 clear hnw hz0 hz1
 go_enter Tryz.func146, Tryz.ntmps146
 go_upto_region 2 with (first
  | (go_at_call 195; refine (unhide (hS0 _ ((Below.refl _ _).alloc (Nat.le_refl _) _))).mono ?_; rintro r y ⟨rfl, hb1⟩)
  | (go_at_call 194; refine (unhide (hR0 _)).mono ?_; rintro r y2 ⟨f, rfl, hf0, hb2⟩; unfold hdVal))
 have HF0 := hide hf0
 clear hf0
 have hz1 := hb1.size
 have hz2 := hb2.size
 simp only [World.size_alloc] at hz1
 have hy2 : y2.heap[w.heap.size]? = some (.cells #[.int .u32 0, .int .u64 0, .int .i64 0, .int .i64 0, .int .i64 0] 217 (0, 0)) := (hb2.block _ (by omega)).trans ((hb1.block _ (by simp)).trans (heap_alloc_new w _))
 have hBy : Below w.heap.size w y2 := (((Below.refl _ _).alloc (Nat.le_refl _) _).trans (hb1.mono (by simp))).trans (hb2.mono (by omega))
 obtain ⟨g5, hg5⟩ : ∃ g, g = y2.heap.size := ⟨_, rfl⟩
 rw [← hg5]
 refine wp_world (fun x => x.heap[w.heap.size]? = some (.cells #[.int .u32 0, .int .u64 0, .int .i64 0, .int .i64 0, .int .i64 0] 217 (0, 0)) ∧ x.heap[g5]? = some (.cells #[.int .u32 f.o, .int .u64 f.c, .int .i64 f.a, .int .i64 f.b, .int .i64 f.d] 217 (0, 0)) ∧ Below w.heap.size w x) ?_ ?_
 ·exact ⟨(hao _ _ (by omega)).trans hy2, by rw [hg5]; exact heap_alloc_new _ _, hBy.alloc (by omega) _⟩
 have hg5w : w.heap.size < g5 := by omega
 clear hy2 hBy hz1 hz2 hb1 hb2 hg5
 rintro x ⟨h0, h5, hB⟩
 have H0 := hide h0
 have H5 := hide h5
 have HB := hide hB
 have hzx := lt_of_block h5
 clear h0 h5 hB
 go_upto_region 3 with (first
  | (go_at_call 195; refine (unhide (hS1 x (unhide HB))).mono ?_; rintro r y3 ⟨rfl, hb3⟩)
  | (go_at_call 194; refine (unhide (hR1 _)).mono ?_; rintro r y4 ⟨s, rfl, hf1, hb4⟩; unfold hdVal))
 have HF1 := hide hf1
 have hz3 := hb3.size
 have hz4 := hb4.size
 obtain ⟨g7, hg7⟩ : ∃ g, g = y4.heap.size := ⟨_, rfl⟩
 rw [← hg7]
 refine wp_world (fun x => x.heap[w.heap.size]? = some (.cells #[.int .u32 0, .int .u64 0, .int .i64 0, .int .i64 0, .int .i64 0] 217 (0, 0)) ∧ x.heap[g5]? = some (.cells #[.int .u32 f.o, .int .u64 f.c, .int .i64 f.a, .int .i64 f.b, .int .i64 f.d] 217 (0, 0)) ∧ x.heap[g7]? = some (.cells #[.int .u32 s.o, .int .u64 s.c, .int .i64 s.a, .int .i64 s.b, .int .i64 s.d] 217 (0, 0)) ∧ Below w.heap.size w x) ?_ ?_
 ·have hb : Below x.heap.size x y4 := hb3.trans (hb4.mono hz3)
  exact ⟨(hao _ _ (by omega)).trans ((hb.block _ (by omega)).trans (unhide H0)), (hao _ _ (by omega)).trans ((hb.block _ (by omega)).trans (unhide H5)), by rw [hg7]; exact heap_alloc_new _ _, ((unhide HB).trans (hb.mono (by omega))).alloc (by omega) _⟩
 have hg57 : g5 < g7 := by omega
 clear H0 H5 HB hb3 hb4 hz3 hz4 hg7 hzx hf1 hS0 hS1 hR0 hR1
 rintro x2 ⟨h0, h5, h7, hB⟩
 have q0 : x2.cell? ⟨w.heap.size, 0, none⟩ = some (.int .u32 0) := blk_cell (i := 0) h0
 have q1 : x2.cell? ⟨w.heap.size, 1, none⟩ = some (.int .u64 0) := blk_cell (i := 1) h0
 have q2 : x2.cell? ⟨w.heap.size, 2, none⟩ = some (.int .i64 0) := blk_cell (i := 2) h0
 have q3 : x2.cell? ⟨w.heap.size, 3, none⟩ = some (.int .i64 0) := blk_cell (i := 3) h0
 have q4 : x2.cell? ⟨w.heap.size, 4, none⟩ = some (.int .i64 0) := blk_cell (i := 4) h0
 have p0 : ∀ i, x2.frozen? ⟨w.heap.size, i, none⟩ = false := fun i => blk_free h0
 have e50 : x2.cell? ⟨g5, 0, none⟩ = some (.int .u32 f.o) := blk_cell (i := 0) h5
 have e51 : x2.cell? ⟨g5, 1, none⟩ = some (.int .u64 f.c) := blk_cell (i := 1) h5
 have e70 : x2.cell? ⟨g7, 0, none⟩ = some (.int .u32 s.o) := blk_cell (i := 0) h7
 have e71 : x2.cell? ⟨g7, 1, none⟩ = some (.int .u64 s.c) := blk_cell (i := 1) h7
 have H0 := hide h0
 have H5 := hide h5
 have H7 := hide h7
 have HB := hide hB
 have hz7 := lt_of_block h7
 clear h0 h5 h7 hB
 cases k0 with
 | false =>
  clear HF0 HF1 HZ0 HZ1 e50 e51 e70 e71 H5 H7
  go_wp2
  refine bodyPost_ret (v := .tuple #[.agg #[.int .u32 0, .int .u64 0, .int .i64 0, .int .i64 0, .int .i64 0], .int .i64 0, .bool false]) (by simp [results, Tryz.results146, go_sem, q0, q1, q2, q3, q4]) rfl ?_
  exact nhOut_no (by rw [unhide HNW]; simp) Mod.hd0 0 (below_set5 (unhide HB) (Nat.le_refl _) _ _ _ _ _)
 | true =>
  obtain rfl : f = F := (unhide HF0) rfl
  cases k1 with
  | false =>
   clear HF0 HF1 HZ0 HZ1 e50 e51 e70 e71 H5 H7
   go_wp2
   refine bodyPost_ret (v := .tuple #[.agg #[.int .u32 0, .int .u64 0, .int .i64 0, .int .i64 0, .int .i64 0], .int .i64 0, .bool false]) (by simp [results, Tryz.results146, go_sem, q0, q1, q2, q3, q4]) rfl ?_
   exact nhOut_no (by rw [unhide HNW]; simp) Mod.hd0 0 (below_set5 (unhide HB) (Nat.le_refl _) _ _ _ _ _)
  | true =>
   obtain rfl : s = G := (unhide HF1) rfl
   have hN := fun y => hide (isNewer_any s.o s.c f.o f.c y)
   have hM := fun y => hide (isNewer_any f.o f.c s.o s.c y)
   rw [mod_newer] at hN hM
   cases n1 : Mod.newer2 s f with
   | true =>
    go_upto_region 6 with (go_at_call 196; refine (unhide (hN _)).mono ?_; rw [n1]; rintro r y5 ⟨rfl, hb5⟩)
    have hz5 := hb5.size
    have b0 := (hb5.block _ (by omega)).trans (unhide H0)
    have b5 := (hb5.block _ (by omega)).trans (unhide H5)
    have b7 := (hb5.block _ (by omega)).trans (unhide H7)
    have HBY := hide ((unhide HB).trans (hb5.mono (unhide HB).size))
    clear hb5 e50 e51 e70 e71 q0 q1 q2 q3 q4 p0 hN hM HZ0 HZ1
    have e0 : y5.cell? ⟨g7, 0, none⟩ = some (.int .u32 s.o) := blk_cell (i := 0) b7
    have e1 : y5.cell? ⟨g7, 1, none⟩ = some (.int .u64 s.c) := blk_cell (i := 1) b7
    have e2 : y5.cell? ⟨g7, 2, none⟩ = some (.int .i64 s.a) := blk_cell (i := 2) b7
    have e3 : y5.cell? ⟨g7, 3, none⟩ = some (.int .i64 s.b) := blk_cell (i := 3) b7
    have e4 : y5.cell? ⟨g7, 4, none⟩ = some (.int .i64 s.d) := blk_cell (i := 4) b7
    have q0 : y5.cell? ⟨w.heap.size, 0, none⟩ = some (.int .u32 0) := blk_cell (i := 0) b0
    have q1 : y5.cell? ⟨w.heap.size, 1, none⟩ = some (.int .u64 0) := blk_cell (i := 1) b0
    have q2 : y5.cell? ⟨w.heap.size, 2, none⟩ = some (.int .i64 0) := blk_cell (i := 2) b0
    have q3 : y5.cell? ⟨w.heap.size, 3, none⟩ = some (.int .i64 0) := blk_cell (i := 3) b0
    have q4 : y5.cell? ⟨w.heap.size, 4, none⟩ = some (.int .i64 0) := blk_cell (i := 4) b0
    have p0 : ∀ i, y5.frozen? ⟨w.heap.size, i, none⟩ = false := fun i => blk_free b0
    clear b0 b5 b7 H0 H5 H7 HB
    have HN1 := hide n1
    clear n1
    go_wp2
    refine bodyPost_ret (v := .tuple #[.agg #[.int .u32 s.o, .int .u64 s.c, .int .i64 s.a, .int .i64 s.b, .int .i64 s.d], .int .i64 1, .bool true]) (by simp [results, Tryz.results146, go_sem, q0, q1, q2, q3, q4]) rfl ?_
    exact nhOut_yes (by rw [unhide HNW, unhide HN1]; simp) (below_set5 (unhide HBY) (Nat.le_refl _) _ _ _ _ _)
   | false =>
    cases n2 : Mod.newer2 f s with
    | true =>
     go_upto_region 7 with (go_at_call 196; refine (unhide (hN _)).mono ?_; rw [n1]; rintro r y5 ⟨rfl, hb5⟩)
     have e50 := (hb5.cell (p := ⟨g5, 0, none⟩) (by show g5 < _; omega)).trans e50
     have e51 := (hb5.cell (p := ⟨g5, 1, none⟩) (by show g5 < _; omega)).trans e51
     have e70 := (hb5.cell (p := ⟨g7, 0, none⟩) (by show g7 < _; omega)).trans e70
     have e71 := (hb5.cell (p := ⟨g7, 1, none⟩) (by show g7 < _; omega)).trans e71
     have hzx5 := hb5.size
     have HB5 := hide hb5
     clear hb5
     go_upto_region 8 with (go_at_call 196; refine (unhide (hM _)).mono ?_; rw [n2]; rintro r y6 ⟨rfl, hb6⟩)
     have hb : Below x2.heap.size x2 y6 := (unhide HB5).trans (hb6.mono hzx5)
     clear hb6 HB5
     have hz5 := hb.size
     have b0 := (hb.block _ (by omega)).trans (unhide H0)
     have b5 := (hb.block _ (by omega)).trans (unhide H5)
     have b7 := (hb.block _ (by omega)).trans (unhide H7)
     have HBY := hide ((unhide HB).trans (hb.mono (unhide HB).size))
     clear hb e50 e51 e70 e71 q0 q1 q2 q3 q4 p0 hN hM HZ0 HZ1
     have e0 : y6.cell? ⟨g5, 0, none⟩ = some (.int .u32 f.o) := blk_cell (i := 0) b5
     have e1 : y6.cell? ⟨g5, 1, none⟩ = some (.int .u64 f.c) := blk_cell (i := 1) b5
     have e2 : y6.cell? ⟨g5, 2, none⟩ = some (.int .i64 f.a) := blk_cell (i := 2) b5
     have e3 : y6.cell? ⟨g5, 3, none⟩ = some (.int .i64 f.b) := blk_cell (i := 3) b5
     have e4 : y6.cell? ⟨g5, 4, none⟩ = some (.int .i64 f.d) := blk_cell (i := 4) b5
     have q0 : y6.cell? ⟨w.heap.size, 0, none⟩ = some (.int .u32 0) := blk_cell (i := 0) b0
     have q1 : y6.cell? ⟨w.heap.size, 1, none⟩ = some (.int .u64 0) := blk_cell (i := 1) b0
     have q2 : y6.cell? ⟨w.heap.size, 2, none⟩ = some (.int .i64 0) := blk_cell (i := 2) b0
     have q3 : y6.cell? ⟨w.heap.size, 3, none⟩ = some (.int .i64 0) := blk_cell (i := 3) b0
     have q4 : y6.cell? ⟨w.heap.size, 4, none⟩ = some (.int .i64 0) := blk_cell (i := 4) b0
     have p0 : ∀ i, y6.frozen? ⟨w.heap.size, i, none⟩ = false := fun i => blk_free b0
     clear b0 b5 b7 H0 H5 H7 HB
     have HN1 := hide (And.intro n1 n2)
     clear n1 n2
     go_wp2
     refine bodyPost_ret (v := .tuple #[.agg #[.int .u32 f.o, .int .u64 f.c, .int .i64 f.a, .int .i64 f.b, .int .i64 f.d], .int .i64 0, .bool true]) (by simp [results, Tryz.results146, go_sem, q0, q1, q2, q3, q4]) rfl ?_
     exact nhOut_yes (by rw [unhide HNW, (unhide HN1).1, (unhide HN1).2]; simp) (below_set5 (unhide HBY) (Nat.le_refl _) _ _ _ _ _)
    | false =>
     go_upto_region 7 with (go_at_call 196; refine (unhide (hN _)).mono ?_; rw [n1]; rintro r y5 ⟨rfl, hb5⟩)
     have e50 := (hb5.cell (p := ⟨g5, 0, none⟩) (by show g5 < _; omega)).trans e50
     have e51 := (hb5.cell (p := ⟨g5, 1, none⟩) (by show g5 < _; omega)).trans e51
     have e70 := (hb5.cell (p := ⟨g7, 0, none⟩) (by show g7 < _; omega)).trans e70
     have e71 := (hb5.cell (p := ⟨g7, 1, none⟩) (by show g7 < _; omega)).trans e71
     have hzx5 := hb5.size
     have HB5 := hide hb5
     clear hb5
     go_upto_region 9 with (go_at_call 196; refine (unhide (hM _)).mono ?_; rw [n2]; rintro r y6 ⟨rfl, hb6⟩)
     have hb : Below x2.heap.size x2 y6 := (unhide HB5).trans (hb6.mono hzx5)
     clear hb6 HB5
     have hz5 := hb.size
     have H0 := hide ((hb.block _ (by omega)).trans (unhide H0))
     have H5 := hide ((hb.block _ (by omega)).trans (unhide H5))
     have H7 := hide ((hb.block _ (by omega)).trans (unhide H7))
     have HBY := hide ((unhide HB).trans (hb.mono (unhide HB).size))
     clear hb e50 e51 e70 e71 q0 q1 q2 q3 q4 p0 hN hM HB
     by_cases hfo : f.o = 0
     ·have hso : s.o = 0 := by
       have ef := (unhide HZ0) (by trivial) hfo
       rw [ef] at n1
       unfold Mod.newer2 Mod.hd0 at n1
       simp only at n1
       by_cases h : s.o = 0
       ·exact h
       ·rw [if_pos h, decide_eq_true (by omega)] at n1
        cases n1
      have ef := (unhide HZ0) (by trivial) hfo
      have es := (unhide HZ1) (by trivial) hso
      have HNN : Hid (Mod.newest L = some (Mod.hd0, 0)) := by
       show _ = _
       rw [unhide HNW, n1, n2]; simp [hfo, hso]
      rw [ef] at H5
      rw [es] at H7
      clear HNW HZ0 HZ1 HF0 HF1 n1 n2 ef es hfo hso
      have heq : ∀ y : World, (Op.equalIn 10000 217 (.agg #[.int .u32 0, .int .u64 0, .int .i64 0, .int .i64 0, .int .i64 0]) (.agg #[.int .u32 0, .int .u64 0, .int .i64 0, .int .i64 0, .int .i64 0])).run Tryz.prog y = .ok true y := fun y => by kernel_rfl
      refine wp_region_foot (by kernel_rfl)
       [fun v _ => v = .agg #[.int .u32 0, .int .u64 0, .int .i64 0, .int .i64 0, .int .i64 0], fun v _ => v = .agg #[.int .u32 0, .int .u64 0, .int .i64 0, .int .i64 0, .int .i64 0], fun v _ => v = .agg #[.int .u32 0, .int .u64 0, .int .i64 0, .int .i64 0, .int .i64 0], fun v _ => v = .bool true, fun v _ => v = .bool true, fun v _ => v = .agg #[.int .u32 0, .int .u64 0, .int .i64 0, .int .i64 0, .int .i64 0], fun v _ => v = .agg #[.int .u32 0, .int .u64 0, .int .i64 0, .int .i64 0, .int .i64 0], fun v _ => v = .bool true, fun v _ => v = .bool true, fun _ z => z.heap[w.heap.size]? = some (.cells #[.int .u32 0, .int .u64 0, .int .i64 0, .int .i64 0, .int .i64 0] 217 (0, 0)), fun v _ => v = .int .i64 0, fun v _ => v = .bool true]
       [[], [(5, none)], [], [(44, some 1), (45, some 2)], [(46, some 3)], [(7, none), (47, some 4)], [(47, some 4)], [(48, some 5), (49, some 6), (47, some 4)], [(47, some 4), (50, some 7)], [(2, none), (43, some 0)], [], [(51, some 8)]] [some 43, some 44, some 45, some 46, some 47, some 48, some 49, some 50, some 51, none, some 3, some 4] [false, false, false, true, true, false, false, false, false, false, false, false, false, false, false, false, false, false, false, false, false, false, false, false, false, false, false, false, false, false, false, false, false, false, false, false, false, false, false, false, false, false, false, true, true, true, true, true, true, true, true, true]
       [(9, fun k => k = w.heap.size)]
       (by kernel_rfl) (by kernel_rfl) (by kernel_rfl) (by kernel_rfl) (by kernel_rfl) ?_ ?_ ?_ ?_
      ·repeat' (first | exact stable_eq _ | exact stable_true | exact stable_blk _ _ | exact trivial | apply And.intro)
      ·repeat' (first | exact trivial | exact .inl rfl | exact .inr (.inr (stableF_eq _ _)) | exact .inr (.inr (fun _ _ _ _ _ => trivial)) | apply And.intro)
      ·refine ⟨?_, ?_, ?_, ?_, ?_, ?_, ?_, ?_, ?_, ?_, ?_, ?_, trivial⟩
       all_goals
        intro a z hb hf
        have z5 := hb.blk (unhide H5) (footBut_no (by intro q hq; simp at hq; subst hq; intro (e : g5 = w.heap.size); omega))
        have z7 := hb.blk (unhide H7) (footBut_no (by intro q hq; simp at hq; subst hq; intro (e : g7 = w.heap.size); omega))
        have e50 : z.cell? ⟨g5, 0, none⟩ = some (.int .u32 0) := blk_cell (i := 0) z5
        have e70 : z.cell? ⟨g7, 0, none⟩ = some (.int .u32 0) := blk_cell (i := 0) z7
        have e51 : z.cell? ⟨g5, 1, none⟩ = some (.int .u64 0) := blk_cell (i := 1) z5
        have e71 : z.cell? ⟨g7, 1, none⟩ = some (.int .u64 0) := blk_cell (i := 1) z7
        have e52 : z.cell? ⟨g5, 2, none⟩ = some (.int .i64 0) := blk_cell (i := 2) z5
        have e72 : z.cell? ⟨g7, 2, none⟩ = some (.int .i64 0) := blk_cell (i := 2) z7
        have e53 : z.cell? ⟨g5, 3, none⟩ = some (.int .i64 0) := blk_cell (i := 3) z5
        have e73 : z.cell? ⟨g7, 3, none⟩ = some (.int .i64 0) := blk_cell (i := 3) z7
        have e54 : z.cell? ⟨g5, 4, none⟩ = some (.int .i64 0) := blk_cell (i := 4) z5
        have e74 : z.cell? ⟨g7, 4, none⟩ = some (.int .i64 0) := blk_cell (i := 4) z7
        clear z5 z7
        simp only [PlanFacts, List.getD_cons_zero, List.getD_cons_succ, Array.getD_eq_getD_getElem?] at hf
        try simp at hf
       iterate 5
        ·clear hb
         go_simp
         exact ⟨_, rfl, Far.refl _ _, rfl⟩
       iterate 3
        ·clear hb
         have hg : a.tmps[47]? = some (.bool true) := tmpB (by first | exact hf | exact hf.2 | exact hf.2.2)
         go_simp
         exact ⟨_, rfl, Far.refl _ _, rfl⟩
       ·clear hb
        go_simp
        exact ⟨_, rfl, Far.refl _ _, rfl⟩
       ·have z0 := hb.blk (unhide H0) (by
         rintro ⟨q, hq, g1, g2, g3⟩
         simp at hq
         subst hq
         exact g1 rfl)
        clear hb
        rw [if_pos (by rfl)]
        refine wp_store_row 217 (.tmp 2) (.tmp 43) rfl w.heap.size #[.int .u32 0, .int .u64 0, .int .i64 0, .int .i64 0, .int .i64 0] (by simp [Act.eval, hf]) (by simp [Act.eval, hf]) 217 _ z0 (by rw [size_head]; rfl) (by simp) (by rw [Array.all_eq_true_iff_forall_mem]; intro u hu; simp at hu; rcases hu with rfl | rfl | rfl <;> rfl) ?_
        exact ⟨_, rfl, footOf_of (.head _) (far_setRow _ _ _), setRow_heap _ _ _ _ _ _ z0⟩
       iterate 2
        ·clear hb
         go_simp
         exact ⟨_, rfl, Far.refl _ _, rfl⟩
      ·intro f' z hF hwd
       have h9 := hwd.2.2.2.2.2.2.2.2.2.1
       have h10 := hwd.2.2.2.2.2.2.2.2.2.2.1
       have h11 := hwd.2.2.2.2.2.2.2.2.2.2.2.1
       have q0 : z.cell? ⟨w.heap.size, 0, none⟩ = some (.int .u32 0) := blk_cell (i := 0) h9
       have q1 : z.cell? ⟨w.heap.size, 1, none⟩ = some (.int .u64 0) := blk_cell (i := 1) h9
       have q2 : z.cell? ⟨w.heap.size, 2, none⟩ = some (.int .i64 0) := blk_cell (i := 2) h9
       have q3 : z.cell? ⟨w.heap.size, 3, none⟩ = some (.int .i64 0) := blk_cell (i := 3) h9
       have q4 : z.cell? ⟨w.heap.size, 4, none⟩ = some (.int .i64 0) := blk_cell (i := 4) h9
       have HBZ := hide ((unhide HBY).trans (hF.below (unhide HBY).size (fun k hk h => by
        obtain ⟨q, hq, h⟩ := h
        simp at hq
        subst hq
        have h : k = w.heap.size := h
        omega)))
       clear hwd hF h9
       simp only [mergeT, h10, h11]
       generalize f' 43 = x43
       generalize f' 44 = x44
       generalize f' 45 = x45
       generalize f' 46 = x46
       generalize f' 47 = x47
       generalize f' 48 = x48
       generalize f' 49 = x49
       generalize f' 50 = x50
       generalize f' 51 = x51
       go_simp
       go_wp2
       refine bodyPost_ret (v := .tuple #[.agg #[.int .u32 0, .int .u64 0, .int .i64 0, .int .i64 0, .int .i64 0], .int .i64 0, .bool true]) (by simp [results, Tryz.results146, go_sem, q0, q1, q2, q3, q4]) rfl ?_
       exact nhOut_yes (h2 := Mod.hd0) (unhide HNN) (unhide HBZ)
     ·have HNN : Hid (Mod.newest L = none) := by
       show _ = _
       rw [unhide HNW, n1, n2]; simp [hfo]
      have heq := fun y => eq_head_no f.o f.c f.a f.b f.d hfo y
      clear HNW HZ0 HZ1 HF0 HF1 n1 n2 hfo
      refine wp_region_foot (by kernel_rfl)
       [fun v _ => v = .agg #[.int .u32 0, .int .u64 0, .int .i64 0, .int .i64 0, .int .i64 0], fun v _ => v = .agg #[.int .u32 f.o, .int .u64 f.c, .int .i64 f.a, .int .i64 f.b, .int .i64 f.d], fun v _ => v = .agg #[.int .u32 0, .int .u64 0, .int .i64 0, .int .i64 0, .int .i64 0], fun v _ => v = .bool false, fun v _ => v = .bool false, fun _ _ => True, fun _ _ => True, fun _ _ => True, fun v _ => v = .bool false, fun _ z => z.heap[w.heap.size]? = some (.cells #[.int .u32 0, .int .u64 0, .int .i64 0, .int .i64 0, .int .i64 0] 217 (0, 0)), fun v _ => v = .int .i64 0, fun v _ => v = .bool false]
       [[], [(5, none)], [], [(44, some 1), (45, some 2)], [(46, some 3)], [(7, none), (47, some 4)], [(47, some 4)], [(48, some 5), (49, some 6), (47, some 4)], [(47, some 4), (50, some 7)], [(2, none), (43, some 0)], [], [(51, some 8)]] [some 43, some 44, some 45, some 46, some 47, some 48, some 49, some 50, some 51, none, some 3, some 4] [false, false, false, true, true, false, false, false, false, false, false, false, false, false, false, false, false, false, false, false, false, false, false, false, false, false, false, false, false, false, false, false, false, false, false, false, false, false, false, false, false, false, false, true, true, true, true, true, true, true, true, true]
       [(9, fun k => k = w.heap.size)]
       (by kernel_rfl) (by kernel_rfl) (by kernel_rfl) (by kernel_rfl) (by kernel_rfl) ?_ ?_ ?_ ?_
      ·repeat' (first | exact stable_eq _ | exact stable_true | exact stable_blk _ _ | exact trivial | apply And.intro)
      ·repeat' (first | exact trivial | exact .inl rfl | exact .inr (.inr (stableF_eq _ _)) | exact .inr (.inr (fun _ _ _ _ _ => trivial)) | apply And.intro)
      ·refine ⟨?_, ?_, ?_, ?_, ?_, ?_, ?_, ?_, ?_, ?_, ?_, ?_, trivial⟩
       all_goals
        intro a z hb hf
        have z5 := hb.blk (unhide H5) (footBut_no (by intro q hq; simp at hq; subst hq; intro (e : g5 = w.heap.size); omega))
        have z7 := hb.blk (unhide H7) (footBut_no (by intro q hq; simp at hq; subst hq; intro (e : g7 = w.heap.size); omega))
        have e50 : z.cell? ⟨g5, 0, none⟩ = some (.int .u32 f.o) := blk_cell (i := 0) z5
        have e70 : z.cell? ⟨g7, 0, none⟩ = some (.int .u32 s.o) := blk_cell (i := 0) z7
        have e51 : z.cell? ⟨g5, 1, none⟩ = some (.int .u64 f.c) := blk_cell (i := 1) z5
        have e71 : z.cell? ⟨g7, 1, none⟩ = some (.int .u64 s.c) := blk_cell (i := 1) z7
        have e52 : z.cell? ⟨g5, 2, none⟩ = some (.int .i64 f.a) := blk_cell (i := 2) z5
        have e72 : z.cell? ⟨g7, 2, none⟩ = some (.int .i64 s.a) := blk_cell (i := 2) z7
        have e53 : z.cell? ⟨g5, 3, none⟩ = some (.int .i64 f.b) := blk_cell (i := 3) z5
        have e73 : z.cell? ⟨g7, 3, none⟩ = some (.int .i64 s.b) := blk_cell (i := 3) z7
        have e54 : z.cell? ⟨g5, 4, none⟩ = some (.int .i64 f.d) := blk_cell (i := 4) z5
        have e74 : z.cell? ⟨g7, 4, none⟩ = some (.int .i64 s.d) := blk_cell (i := 4) z7
        clear z5 z7
        simp only [PlanFacts, List.getD_cons_zero, List.getD_cons_succ, Array.getD_eq_getD_getElem?] at hf
        try simp at hf
       iterate 5
        ·clear hb
         go_simp
         exact ⟨_, rfl, Far.refl _ _, rfl⟩
       iterate 3
        ·clear hb
         have hg : a.tmps[47]? = some (.bool false) := tmpB (by first | exact hf | exact hf.2 | exact hf.2.2)
         go_simp
         try trivial
       ·clear hb
        go_simp
        exact ⟨_, rfl, Far.refl _ _, rfl⟩
       ·have z0 := hb.blk (unhide H0) (by
         rintro ⟨q, hq, g1, g2, g3⟩
         simp at hq
         subst hq
         exact g1 rfl)
        clear hb
        rw [if_pos (by rfl)]
        refine wp_store_row 217 (.tmp 2) (.tmp 43) rfl w.heap.size #[.int .u32 0, .int .u64 0, .int .i64 0, .int .i64 0, .int .i64 0] (by simp [Act.eval, hf]) (by simp [Act.eval, hf]) 217 _ z0 (by rw [size_head]; rfl) (by simp) (by rw [Array.all_eq_true_iff_forall_mem]; intro u hu; simp at hu; rcases hu with rfl | rfl | rfl <;> rfl) ?_
        exact ⟨_, rfl, footOf_of (.head _) (far_setRow _ _ _), setRow_heap _ _ _ _ _ _ z0⟩
       iterate 2
        ·clear hb
         go_simp
         exact ⟨_, rfl, Far.refl _ _, rfl⟩
      ·intro f' z hF hwd
       have h9 := hwd.2.2.2.2.2.2.2.2.2.1
       have h10 := hwd.2.2.2.2.2.2.2.2.2.2.1
       have h11 := hwd.2.2.2.2.2.2.2.2.2.2.2.1
       have q0 : z.cell? ⟨w.heap.size, 0, none⟩ = some (.int .u32 0) := blk_cell (i := 0) h9
       have q1 : z.cell? ⟨w.heap.size, 1, none⟩ = some (.int .u64 0) := blk_cell (i := 1) h9
       have q2 : z.cell? ⟨w.heap.size, 2, none⟩ = some (.int .i64 0) := blk_cell (i := 2) h9
       have q3 : z.cell? ⟨w.heap.size, 3, none⟩ = some (.int .i64 0) := blk_cell (i := 3) h9
       have q4 : z.cell? ⟨w.heap.size, 4, none⟩ = some (.int .i64 0) := blk_cell (i := 4) h9
       have HBZ := hide ((unhide HBY).trans (hF.below (unhide HBY).size (fun k hk h => by
        obtain ⟨q, hq, h⟩ := h
        simp at hq
        subst hq
        have h : k = w.heap.size := h
        omega)))
       clear hwd hF h9
       simp only [mergeT, h10, h11]
       generalize f' 43 = x43
       generalize f' 44 = x44
       generalize f' 45 = x45
       generalize f' 46 = x46
       generalize f' 47 = x47
       generalize f' 48 = x48
       generalize f' 49 = x49
       generalize f' 50 = x50
       generalize f' 51 = x51
       go_simp
       go_wp2
       refine bodyPost_ret (v := .tuple #[.agg #[.int .u32 0, .int .u64 0, .int .i64 0, .int .i64 0, .int .i64 0], .int .i64 0, .bool false]) (by simp [results, Tryz.results146, go_sem, q0, q1, q2, q3, q4]) rfl ?_
       exact nhOut_no (unhide HNN) Mod.hd0 0 (unhide HBZ)
end Go.Proofs.YtamafdcnbcoegaaGreat
namespace Go.Proofs.YtamafdcnbcoegaaGreat
open Go.RowKit
theorem readRecord_any (S : List UInt8) (hS : S.length = 64) (last : Nat) (w : World) : Calls Tryz.prog 197 #[.agg (bv S).toArray, .int .u32 last] w fun r w' =>
  ∃ h : Mod.Rc, r = .returned (.tuple #[rcVal h, .bool (Mod.recOk S last)]) ∧ (Mod.recOk S last = true → h = Mod.recIs S) ∧ Below w.heap.size w w' := by
 by_cases hne : S = zeros
 ·subst hne
  refine (readRecord_zero w last).mono ?_
  rintro r y ⟨rfl, hb⟩
  have h1 : Mod.recOk zeros last = true := by unfold Mod.recOk; rw [nought_zeros]; simp
  refine ⟨Mod.rc0, (by rw [h1]; rfl), fun _ => ?_, hb⟩
  unfold Mod.recIs
  rw [nought_zeros, if_pos rfl]
 ·refine (readRecord_some S hS hne last w).mono ?_
  rintro r y ⟨h, rfl, h2, hb⟩
  refine ⟨h, rfl, fun hk => ?_, hb⟩
  rw [h2 hk]
  unfold Mod.recIs
  rw [nought_zeros, if_neg hne]
def rcRow : List Mod.Rc → List Value
 | [] => []
 | r :: l => .int .i64 r.s :: .int .i64 r.q :: .string r.b :: rcRow l
theorem length_rcRow : ∀ l, (rcRow l).length = l.length * 3
 | [] => rfl
 | r :: l => by simp [rcRow, length_rcRow l]; omega
theorem rcRow_app : ∀ (l k : List Mod.Rc), rcRow (l ++ k) = rcRow l ++ rcRow k
 | [], k => rfl
 | r :: l, k => by simp [rcRow, rcRow_app l k]
theorem rcRow_get : ∀ (l : List Mod.Rc) (j : Nat) (r : Mod.Rc), l[j]? = some r → (rcRow l)[j * 3]? = some (.int .i64 r.s) ∧ (rcRow l)[j * 3 + 1]? = some (.int .i64 r.q) ∧ (rcRow l)[j * 3 + 2]? = some (.string r.b)
 | [], j, r, h => by simp at h
 | x :: l, 0, r, h => by
  simp at h
  subst h
  exact ⟨rfl, rfl, rfl⟩
 | x :: l, j + 1, r, h => by
  have := rcRow_get l j r (by simpa using h)
  rw [show (j + 1) * 3 = j * 3 + 1 + 1 + 1 by omega, show j * 3 + 1 + 1 + 1 + 1 = j * 3 + 1 + 1 + 1 + 1 from rfl]
  exact this
def recsTo (L : List UInt8) (k : Nat) : List Mod.Rc := (List.range k).map fun x => Mod.recIs (Mod.sec L (2 + x))
theorem recsTo_succ (L : List UInt8) (k : Nat) : recsTo L (k + 1) = recsTo L k ++ [Mod.recIs (Mod.sec L (2 + k))] := by
 simp [recsTo, List.range_succ]
theorem recsFrom_all {L : List UInt8} {last : Nat} : ∀ (n x : Nat), (∀ y, x ≤ y → y < x + n → Mod.recOk (Mod.sec L (2 + y)) last = true) → Mod.recsFrom L last x n = some ((List.range n).map fun j => Mod.recIs (Mod.sec L (2 + (x + j))))
 | 0, _, _ => rfl
 | n + 1, x, h => by
  have ih := recsFrom_all n (x + 1) (fun y hy hy2 => h y (by omega) (by omega))
  rw [Mod.recsFrom, if_pos (h x (Nat.le_refl _) (by omega)), ih, List.range_succ_eq_map]
  simp
  intro a _
  rw [Nat.add_assoc, Nat.add_comm 1 a]
theorem recsFrom_to {L : List UInt8} {last n : Nat} (h : ∀ y, y < n → Mod.recOk (Mod.sec L (2 + y)) last = true) : Mod.recsFrom L last 0 n = some (recsTo L n) := by
 have := recsFrom_all (L := L) (last := last) n 0 (fun y _ hy => h y (by omega))
 simpa [recsTo] using this
theorem recsFrom_bad {L : List UInt8} {last n y : Nat} (hy : y < n) (h : Mod.recOk (Mod.sec L (2 + y)) last = false) : Mod.recsFrom L last 0 n = none := by
 cases hr : Mod.recsFrom L last 0 n with
 | none => rfl
 | some rs =>
  have := ((Mod.recsFrom_some n 0 hr).2 y hy).1
  rw [Nat.zero_add, h] at this
  cases this
set_option maxRecDepth 100000 in
set_option maxHeartbeats 1000000 in
theorem readRecords_any (w : World) (v : Value) (L : List UInt8) (m : Nat) (last : Nat) (hat : BytesAt w v L) (hL : L.length = m * 64) (hm1 : 2 ≤ m) (hm2 : m ≤ 150) :
  Calls Tryz.prog 147 #[v, .int .u32 last] w fun r w' => ∃ rv, r = .returned (.tuple #[rv, .bool (Mod.recsFrom L last 0 (m - 2)).isSome]) ∧ (∀ rs, Mod.recsFrom L last 0 (m - 2) = some rs → w'.ownsRow w.heap.size 155 3 rv (m - 2) (rcRow rs)) ∧ Below w.heap.size w w' := by
 obtain ⟨i0, hi, hz0, hz1, hz2⟩ := info_parts2 info_rec
 have hS := fun (k : Nat) (hk : 64 * k + 64 ≤ L.length) y (hb : Below w.heap.size w y) => hide (sectorAt_any y v L k (hat.below hb) hk (by omega))
 have hsl := fun (k : Nat) (hk : k * 64 + 64 ≤ L.length) => Mod.length_sec hk
 obtain ⟨ad, cap, rfl, hc1, hc2, hc3⟩ := hat
 clear hc3
 have hq : (((m * 64 : Nat) : Int)).tdiv 64 = (m : Int) := by rw [Int.natCast_mul]; exact Int.mul_tdiv_cancel _ (by omega)
 obtain ⟨n, hn⟩ : ∃ n, n = m * 64 := ⟨_, rfl⟩
 rw [hL] at hc1 hc2 hS hsl ⊢
 rw [← hn] at hq hS hsl hc1 hc2 ⊢
 have hjm : ∀ j, j < m → 64 * j + 64 ≤ n := by intro j hj; omega
 clear hn hL
 go_enter Tryz.func147, Tryz.ntmps147
 go_wp2
 go_loopw [6, 7, 8, 9] (fun v6 i _ _ wr => ∃ j : Nat, 2 ≤ j ∧ j ≤ m ∧ i = .int .i64 j ∧ wr.ownsRow w.heap.size 155 3 v6 (j - 2) (rcRow (recsTo L (j - 2))) ∧ Below w.heap.size w wr ∧ ∀ y, y < j - 2 → Mod.recOk (Mod.sec L (2 + y)) last = true) (fun _ i _ _ _ => m - (intOf i).toNat)
 case atStart => exact ⟨2, by omega, by omega, rfl, World.ownsRow_nil _ _ _ _, Below.refl _ _, fun y hy => by omega⟩
 case round =>
  obtain ⟨j, hj1, hj2, rfl, ho, hb, hok⟩ := hrel
  by_cases hlt : j < m
  ·have hSj := unhide (hS j (hjm j hlt) wr hb)
   have hRj := fun y => hide (readRecord_any (Mod.sec L j) (hsl j (by have := hjm j hlt; omega)) last y)
   have hsj : Mod.sec L j = (L.drop (j * 64)).take 64 := rfl
   rw [← hsj] at hSj
   have hj22 : 2 + (j - 2) = j := by omega
   have hrec : recsTo L (j - 2 + 1) = recsTo L (j - 2) ++ [Mod.recIs (Mod.sec L j)] := by rw [recsTo_succ, hj22]
   have hbad : Mod.recOk (Mod.sec L j) last = false → Mod.recsFrom L last 0 (m - 2) = none := fun h => recsFrom_bad (y := j - 2) (by omega) (by rw [hj22]; exact h)
   have hgood : Mod.recOk (Mod.sec L j) last = true → ∀ y, y < j + 1 - 2 → Mod.recOk (Mod.sec L (2 + y)) last = true := fun h y hy => by
    by_cases e : y < j - 2
    ·exact hok y e
    ·obtain rfl : y = j - 2 := by omega
     rw [hj22]; exact h
   clear hsj hj22 hok
   generalize Mod.recOk (Mod.sec L j) last = ok at *
   generalize Mod.recIs (Mod.sec L j) = R at *
   generalize Mod.sec L j = S at *
   obtain ⟨XS, hXS⟩ : ∃ XS, XS = rcRow (recsTo L (j - 2)) := ⟨_, rfl⟩
   have hXL : XS.length = (j - 2) * 3 := by rw [hXS, length_rcRow]; simp [recsTo]
   have hrecC : rcRow (recsTo L (j - 2 + 1)) = XS ++ [.int .i64 R.s, .int .i64 R.q, .string R.b] := by rw [hrec, rcRow_app, ← hXS]; rfl
   rw [← hXS] at ho
   clear hXS hrec
   have HO := hide ho
   have HSJ := hide hSj
   have HB := hide hb
   have hsz := hb.size
   have HLZ := hide hXL
   have HG := hide (And.intro hrecC (And.intro hbad hgood))
   clear ho hb hSj hS hsl hjm hXL hrecC hbad hgood
   have HI := hide (And.intro hi (And.intro hz0 (And.intro hz1 hz2)))
   clear hi hz0 hz1 hz2
   go_upto_region 6 with (first
    | (go_at_call 195; refine (unhide HSJ).mono ?_; rintro r y ⟨rfl, hb1⟩)
    | (go_at_call 197; refine (unhide (hRj _)).mono ?_; rintro r y2 ⟨R1, rfl, hR1, hb2⟩; unfold rcVal))
   have hb12 : Below wr.heap.size wr y2 := hb1.trans (hb2.mono hb1.size)
   have HR1 := hide hR1
   obtain ⟨g8, hg8⟩ : ∃ g, g = y2.heap.size := ⟨_, rfl⟩
   rw [← hg8]
   refine wp_world (fun x => x.heap[g8]? = some (.cells #[.int .i64 R1.s, .int .i64 R1.q, .string R1.b] 155 (0, 0)) ∧ Below wr.heap.size wr x) ?_ ?_
   ·exact ⟨by rw [hg8]; exact heap_alloc_new _ _, hb12.alloc hb12.size _⟩
   clear hb1 hb2 hb12 hg8 hRj hR1
   rintro x ⟨h8, hbx⟩
   have e0 : x.cell? ⟨g8, 0, none⟩ = some (.int .i64 R1.s) := blk_cell (i := 0) h8
   have e1 : x.cell? ⟨g8, 1, none⟩ = some (.int .i64 R1.q) := blk_cell (i := 1) h8
   have e2 : x.cell? ⟨g8, 2, none⟩ = some (.string R1.b) := blk_cell (i := 2) h8
   have hOx := ownsRow_keepB (w' := x) (unhide HO) (fun g hg => hbx.block g (World.ownsRow.lt (unhide HO) g hg).2)
   have hbw : Below w.heap.size w x := (unhide HB).trans (hbx.mono hsz)
   have HOX := hide hOx
   have HBX := hide hbw
   have hszx := hbw.size
   clear h8 hbx hOx hbw HO HB
   cases ok with
   | false =>
    have hnone := (unhide HG).2.1 rfl
    clear HG HOX HI HLZ HSJ
    go_wp2
    go_ret2
    refine ⟨.slice none 0 0, by rw [hnone]; rfl, fun rs h => ?_, unhide HBX⟩
    rw [hnone] at h
    cases h
   | true =>
    obtain rfl : R1 = R := (unhide HR1) (by trivial)
    go_upto_region 4 with (at_builtin; obtain ⟨hi, hz0, hz1, hz2⟩ := unhide HI; refine wpList_append_own _ rfl (.tmp 27) (.tmp 29) 185 rfl w.heap.size 155 i0 _ 3 32 Tryz.underlying185 hi hz0 hz1 hz2 rfl (by decide) u6 (j - 2) XS rfl ((unhide HOX).alloc _) ⟨x.heap.size, 0, none⟩ 1 1 [.int .i64 R1.s, .int .i64 R1.q, .string R1.b] rfl rfl cells_new (by intro u hu; simp at hu; rcases hu with rfl | rfl | rfl <;> rfl) (by unfold maxLen; omega) (by omega) (by simp; omega) ?_; intro v' w1 hown' hgrow _; have hb3 : Below w.heap.size x w1 := ((Below.refl _ x).alloc hszx _).trans (below_grown_new (B := w.heap.size) hgrow (by simp; omega) (fun g' hg' => (World.ownsRow.lt (unhide HOX) g' hg').1)); replace hown' := hide hown'; replace hb3 := hide hb3; clear hgrow hi hz0 hz1 hz2; go_simp)
    have hw : IntKind.i64.wrap ((j : Int) + 1) = (j : Int) + 1 := by rw [IntKind.wrap_i64]; omega
    go_wp2
    refine ⟨⟨j + 1, by omega, by omega, by go_num, ?_, (unhide HBX).trans (unhide hb3), (unhide HG).2.2 (by trivial)⟩, ?_⟩
    ·have e : j + 1 - 2 = (j - 2) + 1 := by omega
     rw [e, (unhide HG).1]
     exact unhide hown'
    ·simp [intOf]
     omega
  ·have e : j = m := by omega
   subst e
   have HF := hide (recsFrom_to hok)
   clear hok
   go_wp2
   go_ret2
   refine ⟨_, by rw [unhide HF]; rfl, fun rs h => ?_, hb⟩
   rw [unhide HF] at h
   cases h
   exact ho
end Go.Proofs.YtamafdcnbcoegaaGreat
namespace Go.Proofs.YtamafdcnbcoegaaGreat
namespace Mod
def cnt (l : Nat → List ByteArray) : Nat := (l 0).length + (l 1).length + (l 2).length
def logAdd (l : Nat → List ByteArray) (s : Nat) (b : ByteArray) : Nat → List ByteArray := fun j => if j = s then l s ++ [b] else l j
theorem cnt_add (l : Nat → List ByteArray) (s : Nat) (b : ByteArray) (hs : s < 3) : cnt (logAdd l s b) = cnt l + 1 := by
 unfold cnt logAdd
 obtain rfl | rfl | rfl : s = 0 ∨ s = 1 ∨ s = 2 := by omega
 all_goals
  simp
  try omega
def skLd : List Rc → Nat → (Nat → List ByteArray) → Option (Nat → List ByteArray)
 | [], _, l => some l
 | r :: rs, x, l => if r.q = 0 then skLd rs (x + 1) l else if x = cnt l ∧ r.q = (l r.s).length + 1 then skLd rs (x + 1) (logAdd l r.s r.b) else none
def skLoad (L : List UInt8) : Option Sk :=
 match openSt L with
 | none => none
 | some (h, _, rs) => if h.b = 0 ∧ h.d = 0 then (match skLd rs 0 (fun _ => []) with
  | none => none
  | some l => some { epoch := h.a, logs := l, held := [] }) else none
theorem skLd_app : ∀ (rs qs : List Rc) (x : Nat) (l : Nat → List ByteArray), skLd (rs ++ qs) x l = match skLd rs x l with
  | none => none
  | some l' => skLd qs (x + rs.length) l'
 | [], qs, x, l => by simp [skLd]
 | r :: rs, qs, x, l => by
  rw [List.cons_append, skLd, skLd, List.length_cons, show x + (rs.length + 1) = x + 1 + rs.length by omega]
  split
  ·exact skLd_app rs qs (x + 1) l
  ·split
   ·exact skLd_app rs qs (x + 1) _
   ·rfl
theorem skLd_zero : ∀ (n x : Nat) (l : Nat → List ByteArray), skLd (List.replicate n rc0) x l = some l
 | 0, _, _ => rfl
 | n + 1, x, l => by
  rw [List.replicate_succ, skLd, if_pos (show rc0.q = 0 from rfl)]
  exact skLd_zero n (x + 1) l
theorem skLd_gap : ∀ (rs : List Rc) (x : Nat) (l l' : Nat → List ByteArray), cnt l < x → skLd rs x l = some l' → l' = l ∧ ∀ r ∈ rs, r.q = 0
 | [], x, l, l', _, h => by cases h; exact ⟨rfl, fun r hr => by cases hr⟩
 | r :: rs, x, l, l', hx, h => by
  rw [skLd] at h
  split at h
  ·rename_i h0
   obtain ⟨e, i⟩ := skLd_gap rs (x + 1) l l' (by omega) h
   exact ⟨e, fun r' hr => by
    cases hr with
    | head => exact h0
    | tail _ hr => exact i r' hr⟩
  ·rw [if_neg (by omega)] at h
   cases h
theorem skLd_some : ∀ (rs : List Rc) (x : Nat) (l l' : Nat → List ByteArray), cnt l = x → (∀ r ∈ rs, r.s < 3) → skLd rs x l = some l' →
  ∃ n, n ≤ rs.length ∧ cnt l' = x + n ∧ skLd (rs.take n) x l = some l' ∧ (∀ y, y < n → ∃ r, rs[y]? = some r ∧ r.q ≠ 0) ∧ ∀ y, n ≤ y → ∀ r, rs[y]? = some r → r.q = 0
 | [], x, l, l', hx, _, h => by cases h; exact ⟨0, Nat.le_refl _, hx, rfl, fun y hy => by omega, fun y _ r hr => by simp at hr⟩
 | r :: rs, x, l, l', hx, hs, h => by
  have h00 := h
  rw [skLd] at h
  split at h
  ·rename_i h0
   obtain ⟨e, i⟩ := skLd_gap rs (x + 1) l l' (by omega) h
   subst e
   refine ⟨0, Nat.zero_le _, hx, rfl, fun y hy => by omega, fun y _ r' hr => ?_⟩
   cases y with
   | zero => simp at hr; rw [← hr]; exact h0
   | succ y => exact i r' (List.mem_of_getElem? (by simpa using hr))
  ·rename_i h0
   split at h
   ·rename_i h1
    obtain ⟨n, n1, n2, n3, n4, n5⟩ := skLd_some rs (x + 1) _ l' (by rw [cnt_add _ _ _ (hs r (.head _)), hx]) (fun r' hr => hs r' (.tail _ hr)) h
    refine ⟨n + 1, by simp; omega, by omega, ?_, fun y hy => ?_, fun y hy r' hr => ?_⟩
    ·rw [List.take_succ_cons, skLd, if_neg h0, if_pos h1]
     exact n3
    ·cases y with
     | zero => exact ⟨r, rfl, h0⟩
     | succ y => exact n4 y (by omega)
    ·cases y with
     | zero => omega
     | succ y => exact n5 y (by omega) r' (by simpa using hr)
   ·cases h
structure SkDisk (L : List UInt8) (op ct hd e : Nat) (logs : Nat → List ByteArray) : Prop where
 ok : DiskOk L op ct hd (fun i => if i = 0 then e else 0) 122
 rcs : ∃ ord : List Rc, ord.length = cnt logs ∧ cnt logs ≤ 120 ∧ (∀ r ∈ ord, r.fits) ∧ skLd ord 0 (fun _ => []) = some logs ∧ ∀ x, x < 120 → RecAt (sec L (2 + x)) op (ord.getD x rc0)
theorem SkDisk.commit {L : List UInt8} {op ct hd e : Nat} {logs : Nat → List ByteArray} (h : SkDisk L op ct hd e logs) {s : Nat} {b : ByteArray} (hs : s < 3) (hb : b.size ≤ 20) (hr : cnt logs < 120) (hct : ct + 1 < 18446744073709551616) :
  SkDisk (setSec L (2 + cnt logs) (sealR op (ct + 1) ⟨s, (logs s).length + 1, b⟩)) op (ct + 1) hd e (logAdd logs s b) := by
 obtain ⟨ord, o1, o2, o3, o4, o5⟩ := h.rcs
 have hS : (sealR op (ct + 1) ⟨s, (logs s).length + 1, b⟩).length = 64 := length_sealR hb
 have hq : (logs s).length ≤ cnt logs := by
  unfold cnt
  obtain rfl | rfl | rfl : s = 0 ∨ s = 1 ∨ s = 2 := by omega
  all_goals omega
 have hf : Rc.fits ⟨s, (logs s).length + 1, b⟩ := ⟨hs, by show 1 ≤ (logs s).length + 1; omega, by show (logs s).length + 1 ≤ _; omega, hb⟩
 refine ⟨h.ok.record hS (by omega) hct, ord ++ [⟨s, (logs s).length + 1, b⟩], by rw [cnt_add _ _ _ hs]; simp [o1], by rw [cnt_add _ _ _ hs]; omega, ?_, ?_, fun x hx => ?_⟩
 ·intro r hr
  rw [List.mem_append] at hr
  rcases hr with hr | hr
  ·exact o3 r hr
  ·rw [List.mem_singleton] at hr
   rw [hr]
   exact hf
 ·rw [skLd_app, o4]
  simp only
  rw [skLd, if_neg (by show ¬ (logs s).length + 1 = 0; omega), if_pos ⟨by omega, rfl⟩, skLd]
 ·have hl := h.ok.len
  by_cases e : x = cnt logs
  ·subst e
   rw [sec_set hS (by omega), List.getD_eq_getElem?_getD, List.getElem?_append_right (by omega), o1, Nat.sub_self]
   exact .inr ⟨op, ct + 1, h.ok.op1, Nat.le_refl _, h.ok.opm, hct, hf, rfl⟩
  ·rw [sec_other hS (by omega) (by omega)]
   have : (ord ++ [Rc.mk s ((logs s).length + 1) b]).getD x rc0 = ord.getD x rc0 := by
    rw [List.getD_eq_getElem?_getD, List.getD_eq_getElem?_getD, List.getElem?_append]
    split
    ·rfl
    ·rw [List.getElem?_eq_none (by simp; omega), List.getElem?_eq_none (by omega)]
   rw [this]
   exact o5 x hx
theorem SkDisk.epoch {L : List UInt8} {op ct hd e : Nat} {logs : Nat → List ByteArray} (h : SkDisk L op ct hd e logs) {e' : Nat} (he : e' ≤ 2147483647) (hct : ct + 1 < 18446744073709551616) :
  SkDisk (setSec L (1 - hd) (sealH ⟨op, ct + 1, e', 0, 0⟩)) op (ct + 1) (1 - hd) e' logs := by
 obtain ⟨ord, o1, o2, o3, o4, o5⟩ := h.rcs
 have hl := h.ok.len
 refine ⟨h.ok.numbers (g' := fun i => if i = 0 then e' else 0) (fun i _ => by show (if i = 0 then e' else 0) ≤ _; split <;> omega) hct, ord, o1, o2, o3, o4, fun x hx => ?_⟩
 rw [sec_other (length_sealH _) (by omega) (by omega)]
 exact o5 x hx
theorem skDisk_opened {L : List UInt8} {a : Sk} {hd : Hd} {at' : Nat} {rs : List Rc} (ho : openSt L = some (hd, at', rs)) (hb : hd.b = 0) (hd0 : hd.d = 0) (hl : skLd rs 0 (fun _ => []) = some a.logs) (hlen : L.length = 7808) :
  SkDisk (openL L hd at') (hd.o + 1) 1 (1 - at') hd.a a.logs := by
 obtain ⟨hn, hr⟩ := openSt_some ho
 rw [hlen] at hr
 obtain ⟨r1, r2⟩ := recsFrom_some _ _ hr
 have hat : ∀ x, x < 120 → RecAt (sec L (2 + x)) (hd.o + 1) (rs.getD x rc0) := fun x hx => by
  obtain ⟨k1, k2⟩ := r2 x hx
  rw [Nat.zero_add] at k1 k2
  rw [List.getD_eq_getElem?_getD, k2]
  exact (recAt_ok k1).up (by omega)
 have hsm : ∀ r ∈ rs, r.s < 3 := fun r hr => by
  obtain ⟨x, hx, e⟩ := List.mem_iff_getElem.1 hr
  obtain ⟨k1, k2⟩ := r2 x (by omega)
  rw [List.getElem?_eq_getElem hx, e] at k2
  cases k2
  exact (recOk_small k1).1
 obtain ⟨n, n1, n2, n3, n4, n5⟩ := skLd_some rs 0 _ _ (by rfl) hsm hl
 have hok := opened_ok hn (m := 122) (by omega) (by omega)
 refine ⟨?_, rs.take n, by simp; omega, by omega, fun r hr => ?_, n3, fun x hx => ?_⟩
 ·have : hd.num = fun i => if i = 0 then hd.a else 0 := by
   funext i
   unfold Hd.num
   split
   ·rfl
   ·split
    ·exact hb
    ·exact hd0
  rw [← this]
  exact hok
 ·obtain ⟨x, hx, e⟩ := List.mem_iff_getElem.1 hr
  have hxn : x < n := by simp at hx; omega
  obtain ⟨r', h1, h2⟩ := n4 x hxn
  have h3 : rs.getD x rc0 = r' := by rw [List.getD_eq_getElem?_getD, h1]; rfl
  have h4 : r = r' := by
   rw [← e]
   simp only [List.getElem_take]
   rw [List.getElem?_eq_getElem (by omega)] at h1
   cases h1
   rfl
  have := hat x (by omega)
  rw [h3, ← h4] at this
  rcases this with ⟨_, e0⟩ | ⟨_, _, _, _, _, _, hf, _⟩
  ·rw [← h4, e0] at h2
   exact absurd rfl h2
  ·exact hf
 ·rw [openL_other (m := 122) (by omega) (by omega) (by omega)]
  have h0 := hat x hx
  by_cases hxn : x < n
  ·have : (rs.take n).getD x rc0 = rs.getD x rc0 := by
    rw [List.getD_eq_getElem?_getD, List.getD_eq_getElem?_getD, List.getElem?_take, if_pos hxn]
   rw [this]
   exact h0
  ·have : (rs.take n).getD x rc0 = rc0 := by
    rw [List.getD_eq_getElem?_getD, List.getElem?_eq_none (by simp; omega)]
    rfl
   rw [this]
   have hq := n5 x (by omega) (rs.getD x rc0) (by rw [List.getD_eq_getElem?_getD, List.getElem?_eq_getElem (by omega)]; rfl)
   rcases h0 with ⟨e1, _⟩ | ⟨_, _, _, _, _, _, hf, _⟩
   ·exact .inl ⟨e1, rfl⟩
   ·have := hf.2.1; omega
end Mod
end Go.Proofs.YtamafdcnbcoegaaGreat
namespace Go.Proofs.YtamafdcnbcoegaaGreat
open Go.RowKit
def OneT (B : Nat) (b : ByteArray) (v : Value) (w : World) : Prop := ∃ g, v = .slice (some ⟨g, 0, none⟩) 1 1 ∧ B ≤ g ∧ w.heap[g]? = some (.cells #[.string b] 9 (0, 0))
theorem stable_oneT (B : Nat) (b : ByteArray) : Stable (OneT B b) := fun _ _ _ h hb => by
 obtain ⟨g, e, h1, h2⟩ := h
 exact ⟨g, e, h1, (hb.block g (lt_of_block h2)).trans h2⟩
theorem stableF_oneT {B : Nat} {b : ByteArray} {E : Nat → Prop} (hE : ∀ k, E k → k < B) : StableF E (OneT B b) := fun _ _ _ h hF => by
 obtain ⟨g, e, h1, h2⟩ := h
 exact ⟨g, e, h1, hF.blk h2 (fun e => by have := hE _ e; omega)⟩
def RowT (w0 : World) (fv : Value) (n : Nat) (xs : List Value) (v : Value) (w : World) : Prop := RowO w 9 1 v n xs ∧ Loc w0 fv v ∧ w0.heap.size ≤ w.heap.size
theorem stable_rowT (w0 : World) (fv : Value) (n : Nat) (xs : List Value) : Stable (RowT w0 fv n xs) := fun _ _ _ h hb =>
 ⟨h.1.keep (fun g hg => hb.block g (h.1.lt g hg)), h.2.1, Nat.le_trans h.2.2 hb.size⟩
theorem stableF_rowT {w0 : World} {fv : Value} {n : Nat} {xs : List Value} {E : Nat → Prop} (hE : ∀ k, E k → k < w0.heap.size ∧ fv.ownBlock ≠ some k) : StableF E (RowT w0 fv n xs) := fun _ _ _ h hF =>
 ⟨h.1.far hF (fun g hg e => by
  obtain ⟨h1, h2⟩ := hE g e
  rcases h.2.1 with h3 | h3 | ⟨k, h3, h4⟩
  ·rw [h3] at hg; cases hg
  ·rw [h3] at hg; exact h2 hg
  ·rw [h3] at hg; cases hg; omega), h.2.1, Nat.le_trans h.2.2 hF.size⟩
theorem eq_rec_no (s q : Nat) (b : ByteArray) (hq : q ≠ 0) (w : World) : (binOp .eql 155 (.agg #[.int .i64 s, .int .i64 q, .string b]) (.agg #[.int .i64 0, .int .i64 0, .string ⟨#[]⟩])).run Tryz.prog w = .ok (.bool false) w := by
 have hne : ((q : Int) == 0) = false := by simp; omega
 rw [run_eql_struct, run_equalIn_struct w 9999 155 _ _ (by kernel_rfl) (by kernel_rfl)]
 cases hs : ((s : Int) == 0) <;> simp [go_sem, hne, hs]
theorem eq_rec_yes (w : World) : (binOp .eql 155 (.agg #[.int .i64 0, .int .i64 0, .string ⟨#[]⟩]) (.agg #[.int .i64 0, .int .i64 0, .string ⟨#[]⟩])).run Tryz.prog w = .ok (.bool true) w := by kernel_rfl
def LdAt (w x : World) (p e s : Nat) (logs : Nat → List ByteArray) : Prop :=
 ∃ arr lv, KsAt x p e logs (fun _ => []) arr s lv (fun _ => .slice none 0 0) (fun _ => .map none) (.slice none 0 0) ∧ Far (fun k => k = p) w x ∧ ∀ i, i < 3 → ∀ g, (lv i).ownBlock = some g → w.heap.size ≤ g
theorem LdAt.below {w x y : World} {p e s : Nat} {logs : Nat → List ByteArray} (h : LdAt w x p e s logs) (hb : Below x.heap.size x y) : LdAt w y p e s logs := by
 obtain ⟨arr, lv, h1, h2, h3⟩ := h
 exact ⟨arr, lv, h1.far (far_below (E := fun _ => False) hb) (fun _ _ h => h), h2.trans (far_below (E := fun _ => False) hb) (fun _ _ h => h.elim), h3⟩
def newArrE (s e : Nat) (rv : Value) : Array Value := #[ptrTo s, .int .i64 e, .slice none 0 0, .slice none 0 0, .map none, .slice none 0 0, .slice none 0 0, .map none, .slice none 0 0, .slice none 0 0, .map none, rv]
theorem ldAt_new {w : World} {p e s : Nat} (hb : w.heap[p]? = some (.cells (newArrE s e (.slice none 0 0)) 176 (0, 0))) (he : e ≤ 2147483647) : LdAt w w p e s (fun _ => []) := by
 have h3 : ∀ i, i < 3 → (newArrE s e (.slice none 0 0))[2 + i * 3]? = some (.slice none 0 0) ∧ (newArrE s e (.slice none 0 0))[2 + i * 3 + 1]? = some (.slice none 0 0) ∧ (newArrE s e (.slice none 0 0))[2 + i * 3 + 2]? = some (.map none) := by
  intro i hi
  obtain rfl | rfl | rfl : i = 0 ∨ i = 1 ∨ i = 2 := by omega
  all_goals exact ⟨rfl, rfl, rfl⟩
 refine ⟨_, fun _ => .slice none 0 0, ⟨hb, rfl, rfl, rfl, fun i hi => (h3 i hi).1, fun i hi => (h3 i hi).2.1, fun i hi => (h3 i hi).2.2, rfl, fun i hi => rowO_nil _ _ _, fun i hi => shelfIs_nil _, (fun i hi x hx => by cases hx), (fun i j _ _ _ g hg => by cases hg), fun i j _ _ _ k hk => ?_, by simp, he⟩, Far.refl _ _, fun i _ g hg => by cases hg⟩
 rcases hk with h | h <;> cases h
theorem skLd_step {rs : List Mod.Rc} {j : Nat} {r : Mod.Rc} {l : Nat → List ByteArray} (hr : rs[j]? = some r) (h : Mod.skLd (rs.take j) 0 (fun _ => []) = some l) :
  Mod.skLd (rs.take (j + 1)) 0 (fun _ => []) = if r.q = 0 then some l else if j = Mod.cnt l ∧ r.q = (l r.s).length + 1 then some (Mod.logAdd l r.s r.b) else none := by
 obtain ⟨hj, e⟩ := List.getElem?_eq_some_iff.1 hr
 rw [List.take_succ_eq_append_getElem hj, e, Mod.skLd_app, h]
 simp only [List.length_take]
 rw [show 0 + min j rs.length = j by omega]
 rfl
theorem skLd_bad {rs : List Mod.Rc} {j : Nat} (h : Mod.skLd (rs.take j) 0 (fun _ => []) = none) : Mod.skLd rs 0 (fun _ => []) = none := by
 have := Mod.skLd_app (rs.take j) (rs.drop j) 0 (fun _ => [])
 rw [List.take_append_drop, h] at this
 exact this
set_option maxRecDepth 100000 in
set_option maxHeartbeats 8000000 in
theorem sinkLoad_any {w : World} {p e s g cap m : Nat} {rs : List Mod.Rc} (hp : w.heap[p]? = some (.cells (newArrE s e (.slice none 0 0)) 176 (0, 0))) (hrow : w.ownsRow 0 155 3 (.slice (some ⟨g, 0, none⟩) m cap) m (rcRow rs)) (hml : rs.length = m) (hm : m ≤ 120)
  (hrs : ∀ r ∈ rs, r = Mod.rc0 ∨ r.fits) (he : e ≤ 2147483647) :
  Calls Tryz.prog 108 #[ptrTo p, .slice (some ⟨g, 0, none⟩) m cap] w fun r w' => r = .returned (.bool (Mod.skLd rs 0 (fun _ => [])).isSome) ∧ Far (fun k => k = p) w w' ∧ ∀ logs, Mod.skLd rs 0 (fun _ => []) = some logs → LdAt w w' p e s logs := by
 have hgp : 0 < m → g ≠ p := fun _ e => by
  have := (RowO.of_own hrow).ne hp (by decide)
  exact this (by rw [e]; rfl)
 have hc : ∀ j r, rs[j]? = some r → w.cell? ⟨g, j * 3, none⟩ = some (.int .i64 r.s) ∧ w.cell? ⟨g, j * 3 + 1, none⟩ = some (.int .i64 r.q) ∧ w.cell? ⟨g, j * 3 + 2, none⟩ = some (.string r.b) := by
  intro j r hj
  have hjm := (List.getElem?_eq_some_iff.1 hj).1
  obtain ⟨ad, cap', e, _, _, hcl⟩ := (RowO.of_own hrow).shape
  obtain ⟨g', o', e2, hcl⟩ := hcl (by omega)
  rw [e2] at e
  injection e with e
  injection e with e
  injection e with e e'
  subst e e'
  have hlen := length_rcRow rs
  have := rcRow_get rs j r hj
  refine ⟨?_, ?_, ?_⟩
  ·have h := hcl (j * 3) (by omega); rw [Nat.zero_add] at h; rw [h]; exact this.1
  ·have h := hcl (j * 3 + 1) (by omega); rw [Nat.zero_add] at h; rw [h]; exact this.2.1
  ·have h := hcl (j * 3 + 2) (by omega); rw [Nat.zero_add] at h; rw [h]; exact this.2.2
 have HC := hide hc
 have HGP := hide hgp
 have hpl := lt_of_block hp
 have HP := hide (ldAt_new hp he)
 have HRS := hide hrs
 have HML := hide hml
 clear hrow hc hgp hp hrs hml he
 unfold ptrTo
 go_enter Tryz.func108, Tryz.ntmps108
 go_wp2
 go_loopw [5, 6, 7, 10] (fun _ _ _ i wr => ∃ j : Nat, j ≤ m ∧ i = .int .i64 j ∧ ∃ logs, Mod.skLd (rs.take j) 0 (fun _ => []) = some logs ∧ LdAt w wr p e s logs) (fun _ _ _ i _ => m - (intOf i).toNat)
 case atStart => exact ⟨0, by omega, rfl, _, rfl, unhide HP⟩
 case round =>
  obtain ⟨j, hj, rfl, logs, hsk, hL⟩ := hrel
  clear HP
  by_cases hlt : j < m
  ·obtain ⟨r, hr⟩ : ∃ r, rs[j]? = some r := ⟨_, List.getElem?_eq_getElem (by have := unhide HML; omega)⟩
   obtain ⟨e0, e1, e2⟩ := (unhide HC) j r hr
   have hst := skLd_step hr hsk
   have hrf := (unhide HRS) r (List.mem_of_getElem? hr)
   have hgl : g < w.heap.size := World.block_lt_of_cell? _ _ e0
   have hbk : wr.heap[g]? = w.heap[g]? := by obtain ⟨_, _, _, hF, _⟩ := hL; exact hF.rest g hgl ((unhide HGP) (by omega))
   have y0 := (World.cell?_of_block (w := w) hbk : wr.cell? ⟨g, j * 3, none⟩ = _).trans e0
   have y1 := (World.cell?_of_block (w := w) hbk : wr.cell? ⟨g, j * 3 + 1, none⟩ = _).trans e1
   have y2 := (World.cell?_of_block (w := w) hbk : wr.cell? ⟨g, j * 3 + 2, none⟩ = _).trans e2
   have HL := hide hL
   have HST := hide hst
   have HR := hide hr
   clear hbk e0 e1 e2 hL hsk hst hr
   obtain ⟨g6, hg6⟩ : ∃ g6, g6 = wr.heap.size := ⟨_, rfl⟩
   have HG6 := hide hg6
   go_upto_region 4 with fail
   rw [← hg6]
   refine wp_world (fun x => x.heap[g6]? = some (.cells #[.int .i64 r.s, .int .i64 r.q, .string r.b] 155 (0, 0)) ∧ g6 < x.heap.size ∧ LdAt w x p e s logs) ?_ ?_
   ·rw [hg6]
    exact ⟨heap_alloc_new _ _, by simp, (unhide HL).below ((Below.refl _ _).alloc (Nat.le_refl _) _)⟩
   clear y0 y1 y2 hg6 HL
   rintro x ⟨h6, hg6x, hLx⟩
   have r0 := blk_cell (i := 0) h6
   have r1 := blk_cell (i := 1) h6
   have r2 := blk_cell (i := 2) h6
   simp at r0 r1 r2
   have H6 := hide h6
   have HL := hide hLx
   clear h6 hLx
   by_cases hq0 : r.q = 0
   ·have hr0 : r = Mod.rc0 := by
     rcases hrf with h | h
     ·exact h
     ·have := h.2.1; omega
    have hcmp := eq_rec_yes
    have hnx : Hid (Mod.skLd (rs.take (j + 1)) 0 (fun _ => []) = some logs) := by
     show _ = _
     rw [unhide HST, if_pos hq0]
    subst hr0
    unfold Mod.rc0 at r0 r1 r2
    simp only at r0 r1 r2
    clear HST hq0 hrf
    go_wp2
    go_roundw
    case rel => exact ⟨j + 1, by omega, by go_num, logs, unhide hnx, unhide HL⟩
    case measure => simp [intOf]; omega
   ·have hf : r.fits := by
     rcases hrf with h | h
     ·rw [h] at hq0; exact absurd rfl hq0
     ·exact h
    have hcmp := eq_rec_no r.s r.q r.b hq0
    obtain ⟨hs3, hq1, hqm, hbz⟩ := hf
    have s0 : (0 : Int) ≤ (r.s : Int) := by omega
    have s3 : (r.s : Int) < 3 := by omega
    have HQ := hide (And.intro hq0 (And.intro hq1 (And.intro hqm hbz)))
    clear hq0 hq1 hqm hbz hrf
    go_upto_region 5 with fail
    go_quiet (fail)
    go_upto_region 6 with fail
    refine wp_world (fun y => y.heap[g6]? = some (.cells #[.int .i64 r.s, .int .i64 r.q, .string r.b] 155 (0, 0)) ∧ LdAt w y p e s logs) ⟨unhide H6, (unhide HL).below (below_drewN (Below.refl _ _) _)⟩ ?_
    clear r0 r1 r2 H6 HL hcmp hg6x
    rintro y ⟨h6, hL⟩
    have r1 := blk_cell (i := 1) h6
    have r2 := blk_cell (i := 2) h6
    simp at r1 r2
    have hg6y := lt_of_block h6
    have H6 := hide h6
    have HL := hide hL
    obtain ⟨arr, lv, K, F, N⟩ := hL
    obtain ⟨ad, cap2, hlv, clog⟩ := K.logc hs3
    have hll := K.loglen hs3
    have hcnt : (logs 0).length + (logs 1).length + (logs 2).length ≤ 120 := K.cnt
    have hCM := fun n => hide (committed_any (w := y.drewN n) (K.far (far_drewN (fun _ => False) y n) (fun _ _ h => h)))
    have hNX := fun n => hide (sinkNext_any (y.drewN n) p (2 + r.s * 3) _ cap2 ad clog (by omega))
    have HK := hide (And.intro K (And.intro F (And.intro N hlv)))
    have hcd : Mod.cnt logs = (logs 0).length + (logs 1).length + (logs 2).length := rfl
    clear K F N hlv clog h6
    obtain ⟨cn, hcn⟩ : ∃ cn, cn = (logs 0).length + (logs 1).length + (logs 2).length := ⟨_, rfl⟩
    obtain ⟨nx, hnx⟩ : ∃ nx, nx = (logs r.s).length + 1 := ⟨_, rfl⟩
    rw [← hcn] at hCM hcd hcnt
    rw [← hnx] at hNX
    have HN := hide (And.intro hcd (And.intro hnx hcn))
    clear hcd hcn hnx
    unfold ptrTo at hCM
    by_cases c1 : j = cn
    ·have c1' : ((j : Int) != (cn : Int)) = false := by simp [c1]
     by_cases c2 : r.q = nx
     ·have c2' : ((r.q : Int) != (nx : Int)) = false := by simp [c2]
      have HCC := hide (And.intro c1 c2)
      clear c1 c2
      go_quiet (first
       | (go_at_call 157; exact Calls.quiet_of_same (unhide (hCM _)))
       | (go_at_call 158; exact Calls.quiet_of_same (unhide (hNX _))))
      go_upto_region 8 with fail
      refine wp_world (fun z => z.heap[g6]? = some (.cells #[.int .i64 r.s, .int .i64 r.q, .string r.b] 155 (0, 0)) ∧ LdAt w z p e s logs) ⟨unhide H6, (unhide HL).below (below_drewN (Below.refl _ _) _)⟩ ?_
      clear r1 r2 H6 HL HK hCM hNX hll hg6y
      rintro z ⟨h6, hL⟩
      obtain ⟨arr, lv, K, F, N⟩ := hL
      obtain ⟨ad, cap2, hlv, clog⟩ := K.logc hs3
      have hll := K.loglen hs3
      have hg6z := lt_of_block h6
      have hpz := lt_of_block K.blk
      have hrow := K.lgs r.s hs3
      have hup := K.lgs r.s hs3 |>.ne K.blk (by decide)
      have hu6 := K.lgs r.s hs3 |>.ne h6 (by decide)
      have hfvl := fun g hg => hrow.lt g hg
      have hp6 : ¬ g6 = p := fun e => by
       have h := K.blk
       rw [← e, h6] at h
       injection h with h
       injection h with _ h _
       exact absurd h (by decide)
      obtain ⟨n0, hn0⟩ : ∃ n0, n0 = (logs r.s).length := ⟨_, rfl⟩
      rw [← hn0] at hlv hll hrow clog
      have HK := hide K
      have HF := hide (And.intro F N)
      have H6 := hide h6
      have HLV := hide hlv
      have HROW := hide hrow
      have HN0 := hide hn0
      clear K F N h6 hlv hrow clog hn0
      refine wp_region_foot (by kernel_rfl)
       [fun v _ => v = .pointer (some ⟨p, 2 + r.s * 3, none⟩), fun v _ => v = .pointer (some ⟨p, 2 + r.s * 3, none⟩), fun v _ => v = .pointer (some ⟨p, 2 + r.s * 3, none⟩), fun v _ => v = .pointer (some ⟨p, 2 + r.s * 3, none⟩), fun v _ => v = .slice ad n0 cap2, fun v _ => v = .pointer (some ⟨g6, 2, none⟩), fun v _ => v = .string r.b, OneT z.heap.size r.b, RowT z (lv r.s) (n0 + 1) (strs (logs r.s) ++ [.string r.b]), fun v _ => v = .pointer (some ⟨p, 2 + r.s * 3, none⟩), fun v _ => v = .pointer (some ⟨p, 2 + r.s * 3, none⟩),
        fun _ u => LdAt w u p e s (Mod.logAdd logs r.s r.b)]
       [[(7, none)], [(7, none)], [(36, some 1)], [(37, some 2)], [(38, some 3)], [(6, none)], [(40, some 5)], [(41, some 6)], [(39, some 4), (42, some 7)], [(35, some 0)], [(44, some 9)], [(45, some 10), (43, some 8)]] [some 35, some 36, some 37, some 38, some 39, some 40, some 41, some 42, some 43, some 44, some 45, none] [false, false, false, false, false, false, false, false, false, false, false, false, false, false, false, false, false, false, false, false, false, false, false, false, false, false, false, false, false, false, false, false, false, false, false, true, true, true, true, true, true, true, true, true, true, true, false]
       [(8, fun k => (lv r.s).ownBlock = some k), (11, fun k => k = p)]
       (by kernel_rfl) (by kernel_rfl) (by kernel_rfl) (by kernel_rfl) (by kernel_rfl) ?_ ?_ ?_ ?_
      ·repeat' (first | exact stable_eq _ | exact stable_oneT _ _ | exact stable_rowT _ _ _ _ | exact (fun _ _ _ h hb => h.below hb) | exact trivial | apply And.intro)
      ·repeat' (first | exact trivial | exact .inl rfl | exact .inr (.inr (stableF_eq _ _)) | exact .inr (.inr (stableF_oneT (fun g hg => hfvl g hg))) | exact .inr (.inr (stableF_oneT (fun g (hg : g = p) => by omega))) | exact .inr (.inr (stableF_rowT (fun g (hg : g = p) => ⟨by omega, by rw [hg]; exact hup⟩))) | exact .inr (.inl (show depB _ 11 8 = true by decide +kernel)) | apply And.intro)
      ·refine ⟨?_, ?_, ?_, ?_, ?_, ?_, ?_, ?_, ?_, ?_, ?_, ?_, trivial⟩
       all_goals
        intro a' y8 hb hf
        have hzz := hb.size
        have HBZ := hide hb
        clear hb
        simp only [PlanFacts, List.getD_cons_zero, List.getD_cons_succ, Array.getD_eq_getD_getElem?] at hf
        try simp at hf
       iterate 4
        ·go_simp
         exact ⟨_, rfl, Far.refl _ _, rfl⟩
       ·have d0 := (unhide HBZ).blk (unhide HK).blk (by
         rintro ⟨q, hq, g1, g2, g3⟩
         simp at hq
         rcases hq with rfl | rfl
         ·exact hup g3
         ·exact absurd (show depB _ 11 4 = false from g2) (by decide +kernel))
        have d1 : y8.cell? ⟨p, 2 + r.s * 3, none⟩ = some (.slice ad n0 cap2) := by rw [blk_cell d0, (unhide HK).al r.s hs3, unhide HLV]
        clear d0
        go_simp
        exact ⟨_, rfl, Far.refl _ _, rfl⟩
       ·go_simp
        exact ⟨_, rfl, Far.refl _ _, rfl⟩
       ·have d0 := (unhide HBZ).blk (unhide H6) (by
         rintro ⟨q, hq, g1, g2, g3⟩
         simp at hq
         rcases hq with rfl | rfl
         ·exact hu6 g3
         ·exact hp6 g3)
        have d1 : y8.cell? ⟨g6, 2, none⟩ = some (.string r.b) := blk_cell (i := 2) d0
        clear d0
        go_simp
        exact ⟨_, rfl, Far.refl _ _, rfl⟩
       ·go_simp
        exact ⟨_, rfl, far_below ((Below.refl _ _).alloc (Nat.le_refl _) _), _, rfl, hzz, heap_alloc_new y8 _⟩
       ·have hoz := (unhide HROW).far (unhide HBZ) (by
         rintro g hg ⟨q, hq, g1, g2, g3⟩
         simp at hq
         rcases hq with rfl | rfl
         ·exact g1 rfl
         ·have g3 : g = p := g3
          exact hup (by rw [hg, g3]))
        obtain ⟨g, hg, hgB, hgh⟩ := hf.2
        have hoz2 : RowO y8 9 1 (.slice ad n0 cap2) n0 (strs (logs r.s)) := by rw [← unhide HLV]; exact hoz
        refine step_app_o rfl (.tmp 39) (.tmp 42) 45 rfl 9 _ 1 16 Tryz.underlying45 infoStr rfl (.slice ad n0 cap2) n0 (strs (logs r.s)) hoz2 (by simp [Act.eval, hf]) ⟨g, 0, none⟩ 1 1 [.string r.b] (by simp [Act.eval, hg]) rfl ?_ (by intro u hu; simp at hu; subst hu; rfl) (by omega) (by omega) (by omega) ?_
        ·intro k u hk
         rw [add_mk, blk_cell hgh, Nat.zero_add]
         simpa using hk
        ·intro v' w' g1 g2
         have hgr := g2.grown
         rw [← unhide HLV] at hgr g2
         exact ⟨v', rfl, footOf_of (.head _) (far_grown hgr), g1, loc_app hzz g2, Nat.le_trans hzz hgr.size⟩
       ·go_simp
        exact ⟨_, rfl, Far.refl _ _, rfl⟩
       ·go_simp
        exact ⟨_, rfl, Far.refl _ _, rfl⟩
       ·have hFz : Far (fun k => (lv r.s).ownBlock = some k) z y8 := (unhide HBZ).mono (by
         rintro k _ ⟨q, hq, g1, g2, g3⟩
         simp at hq
         rcases hq with rfl | rfl
         ·exact g3
         ·exact absurd rfl g1)
        have d0 := hFz.blk (unhide HK).blk hup
        have f1 : y8.frozen? ⟨p, 2 + r.s * 3, none⟩ = false := blk_free d0
        have d1 : y8.cell? ⟨p, 2 + r.s * 3, none⟩ = some (.slice ad n0 cap2) := by rw [blk_cell d0, (unhide HK).al r.s hs3, unhide HLV]
        obtain ⟨hv41, hrw⟩ := hf
        obtain ⟨ad3, cap3, hv39, _⟩ := hrw.1.shape
        have HRW := hide hrw
        have HFZ := hide hFz
        clear hrw d0 hFz
        rw [hv39] at HRW
        go_simp
        refine ⟨footOf_of (.tail _ (.head _)) (far_set y8 p (2 + r.s * 3) _), ?_⟩
        obtain ⟨R1, R2, _⟩ := unhide HRW
        have hF2 := (unhide HF).1
        have hN2 := (unhide HF).2
        have hroom : (logs 0).length + (logs 1).length + (logs 2).length < 120 := by
         have h1 := (unhide HN).2.2
         have h2 := (unhide HCC).1
         omega
        have hkl := ksAt_log (unhide HK) r.s hs3 r.b (.slice ad3 (n0 + 1) cap3) (unhide HFZ) (by rw [← unhide HN0, show strs (logs r.s ++ [r.b]) = strs (logs r.s) ++ [.string r.b] by simp [strs]]; exact R1) R2 hroom
        have hF3 : Far (fun k => k = p) w y8 := hF2.trans (unhide HFZ) (fun k hk h => absurd (hN2 r.s hs3 k h) (by omega))
        refine ⟨_, _, hkl, hF3.trans (far_set y8 p (2 + r.s * 3) _) (fun _ _ h => h), fun i hi g hg => ?_⟩
        split at hg
        ·rcases R2 with h3 | h3 | ⟨k, h3, h4⟩
         ·rw [h3] at hg; cases hg
         ·rw [h3] at hg; exact hN2 r.s hs3 g hg
         ·rw [h3] at hg; cases hg
          have := hF2.size
          omega
        ·exact hN2 i hi g hg
      ·intro f3 z3 hF3 hwd
       have hput := hwd.2.2.2.2.2.2.2.2.2.2.2.1
       have HP3 := hide hput
       clear hput hwd hF3
       simp only [mergeT]
       generalize f3 35 = v35
       generalize f3 36 = v36
       generalize f3 37 = v37
       generalize f3 38 = v38
       generalize f3 39 = v39
       generalize f3 40 = v40
       generalize f3 41 = v41
       generalize f3 42 = v42
       generalize f3 43 = v43
       generalize f3 44 = v44
       generalize f3 45 = v45
       go_wp2
       go_roundw
       case rel =>
        refine ⟨j + 1, by omega, by go_num, _, ?_, unhide HP3⟩
        rw [unhide HST, if_neg (unhide HQ).1, if_pos ⟨by rw [(unhide HN).1]; exact (unhide HCC).1, by rw [(unhide HCC).2]; exact (unhide HN).2.1⟩]
       case measure => simp [intOf]; omega
     ·have c2' : ((r.q : Int) != (nx : Int)) = true := by simp; omega
      have hbad : Hid (Mod.skLd rs 0 (fun _ => []) = none) := by
       refine hide (skLd_bad (j := j + 1) ?_)
       rw [unhide HST, if_neg (unhide HQ).1, if_neg (fun h => c2 (by rw [h.2, (unhide HN).2.1]))]
      clear c1 c2
      go_quiet (first
       | (go_at_call 157; exact Calls.quiet_of_same (unhide (hCM _)))
       | (go_at_call 158; exact Calls.quiet_of_same (unhide (hNX _))))
      go_wp2
      go_ret
      refine ⟨ret_b (by rw [unhide hbad]; rfl), (unhide HK).2.1.trans (far_drewN (fun _ => False) y _) (fun _ _ h => h.elim), fun l h => ?_⟩
      rw [unhide hbad] at h
      cases h
    ·have c1' : ((j : Int) != (cn : Int)) = true := by simp; omega
     have hbad : Hid (Mod.skLd rs 0 (fun _ => []) = none) := by
      refine hide (skLd_bad (j := j + 1) ?_)
      rw [unhide HST, if_neg (unhide HQ).1, if_neg (fun h => c1 (by rw [h.1, (unhide HN).1]))]
     clear c1
     go_quiet (first
      | (go_at_call 157; exact Calls.quiet_of_same (unhide (hCM _)))
      | (go_at_call 158; exact Calls.quiet_of_same (unhide (hNX _))))
     go_wp2
     go_ret
     refine ⟨ret_b (by rw [unhide hbad]; rfl), (unhide HK).2.1.trans (far_drewN (fun _ => False) y _) (fun _ _ h => h.elim), fun l h => ?_⟩
     rw [unhide hbad] at h
     cases h
  ·have hjm : j = m := by omega
   have hall : Mod.skLd rs 0 (fun _ => []) = some logs := by
    rw [← hsk, List.take_of_length_le (by have := unhide HML; omega)]
   have HALL := hide hall
   have HL := hide hL
   clear hall hsk hL hjm
   go_wp2
   go_ret
   refine ⟨ret_b (by rw [unhide HALL]; rfl), ?_, fun l h => ?_⟩
   ·obtain ⟨_, _, _, F, _⟩ := unhide HL
    exact F
   ·rw [unhide HALL] at h
    cases h
    exact unhide HL
end Go.Proofs.YtamafdcnbcoegaaGreat
namespace Go.Proofs.YtamafdcnbcoegaaGreat
open Go.RowKit
def NewSt2 (o h : Nat) (B : Nat) (L : List UInt8) (s : Nat) (w : World) : Prop := ∃ p, NewDk B L p w ∧ B ≤ s ∧ w.heap[s]? = some (.cells #[ptrTo p, .int .u32 o, .int .u64 0, .int .i64 h] 203 (0, 0))
theorem newSt2_below {o h B : Nat} {L : List UInt8} {s : Nat} {w x : World} (H : NewSt2 o h B L s w) (hb : Below w.heap.size w x) : NewSt2 o h B L s x := H.imp fun _ h => ⟨newDk_below h.1 hb, h.2.1, (hb.block _ (lt_of_block h.2.2)).trans h.2.2⟩
set_option maxRecDepth 100000 in
set_option maxHeartbeats 4000000 in
theorem storeOpen_yes (w : World) (v : Value) (L : List UInt8) (m : Nat) (hat : BytesAt w v L) (hL : L.length = m * 64) (hm1 : 2 ≤ m) (hm2 : m ≤ 150) {h : Mod.Hd} {at' : Nat} {rs : List Mod.Rc} (ho : Mod.openSt L = some (h, at', rs)) :
  Calls Tryz.prog 102 #[v] w fun r w' => ∃ s dp lv uv rv, r = .returned (.tuple #[ptrTo s, .agg #[.int .i64 h.a, .int .i64 h.b, .int .i64 h.d, rv], .int .i64 0]) ∧
   StAt w' s dp ((⟨h.o + 1, 0, at', ⟨L, 0, false⟩⟩ : Mod.Stv).putNumbers h.a h.b h.d).2 lv uv ∧ (∀ k, StU s dp lv uv k → w.heap.size ≤ k) ∧ w'.ownsRow w.heap.size 155 3 rv (m - 2) (rcRow rs) ∧ Below w.heap.size w w' := by
 obtain ⟨hne, hrf⟩ := Mod.openSt_some ho
 obtain ⟨hat1, hok, hhd, _⟩ := Mod.newest_some hne
 have hsm := Mod.headIs_small hok
 rw [← hhd] at hsm
 rw [show L.length / 64 = m by omega] at hrf
 have hH := hide (fun y (hb : Below w.heap.size w y) => newestHead_any y v L (hat.below hb) (by omega) (by omega))
 have hR := hide (fun y (hb : Below w.heap.size w y) => readRecords_any y v L m h.o (hat.below hb) hL hm1 hm2)
 rw [hrf] at hR
 have HNE := hide hne
 have HAT := hide hat1
 obtain ⟨so, sc, sa, sb, sd⟩ := hsm
 have hLl : 128 ≤ L.length ∧ L.length ≤ 10000 := by omega
 have hD := hide (fun y (hb : Below w.heap.size w y) => diskNew_any y v L (hat.below hb) hLl.1 hLl.2)
 clear hat hL ho hne hrf hhd hok sc hat1
 have w1 : IntKind.u32.wrap ((h.o : Int) + 1) = ((h.o + 1 : Nat) : Int) := by rw [IntKind.wrap_u32]; omega
 unfold ptrTo
 go_enter Tryz.func102, Tryz.ntmps102
 go_upto_region 2 with (go_at_call 146; refine ((unhide hH) _ ((Below.refl _ _).alloc (Nat.le_refl _) _)).mono ?_; rintro r y ⟨h2, k2, rfl, hhk, hb1⟩; obtain ⟨e1, e2⟩ := hhk _ _ (unhide HNE); rw [unhide HNE]; subst e1; subst e2; clear hhk; unfold hdVal)
 have hz1 := hb1.size
 simp only [World.size_alloc] at hz1
 have hb0 : Below w.heap.size w y := ((Below.refl _ _).alloc (Nat.le_refl _) _).trans (hb1.mono (by simp))
 have hy0 := (hb1.block w.heap.size (by simp)).trans (heap_alloc_new w _)
 obtain ⟨g5, hg5⟩ : ∃ g, g = y.heap.size := ⟨_, rfl⟩
 rw [← hg5]
 refine wp_world (fun x => x.heap[w.heap.size]? = some (.cells #[.int .i64 0, .int .i64 0, .int .i64 0, .slice none 0 0] 187 (0, 0)) ∧ x.heap[g5]? = some (.cells #[.int .u32 h2.o, .int .u64 h2.c, .int .i64 h2.a, .int .i64 h2.b, .int .i64 h2.d] 217 (0, 0)) ∧ Below w.heap.size w x) ?_ ?_
 ·exact ⟨(hao _ _ (by omega)).trans hy0, by rw [hg5]; exact heap_alloc_new _ _, hb0.alloc (by omega) _⟩
 have hg5w : w.heap.size < g5 := by omega
 clear hy0 hb0 hz1 hb1 hg5 hH
 rintro x ⟨h0, h5, hB⟩
 have e0 : x.cell? ⟨g5, 0, none⟩ = some (.int .u32 h2.o) := blk_cell (i := 0) h5
 have H0 := hide h0
 have H5 := hide h5
 have HB := hide hB
 have hzx := lt_of_block h5
 clear h0 h5 hB
 go_upto_region 7 with (go_at_call 147; refine ((unhide hR) _ (unhide HB)).mono ?_; rintro r y2 ⟨rv, rfl, hrv, hb2⟩; replace hrv := hrv _ rfl)
 have hrv := ownsRow_monoB hrv (B' := w.heap.size) (by omega)
 have hbw : Below w.heap.size w y2 := (unhide HB).trans (hb2.mono (by omega))
 have y0 := (hb2.block _ (by omega)).trans (unhide H0)
 have y5 := (hb2.block _ (by omega)).trans (unhide H5)
 obtain ⟨ra, rc, rfl, _⟩ := (RowO.of_own (ownsRow_monoB hrv (Nat.zero_le _))).shape
 have HRV := hide hrv
 have HBW := hide hbw
 have Y0 := hide y0
 have Y5 := hide y5
 have hzy := hbw.size
 have hg5y := lt_of_block y5
 clear hrv hbw y0 y5 hb2 HB H0 H5 hR e0 hzx
 refine wp_region_foot (by kernel_rfl)
  [fun u _ => u = v, fun u z => ∃ p, u = .pointer (some ⟨p, 0, none⟩) ∧ NewDk w.heap.size L p z, fun u _ => u = .pointer (some ⟨g5, 0, none⟩), fun u _ => u = .pointer (some ⟨g5, 0, none⟩), fun u _ => u = .int .u32 h2.o, fun u _ => u = .int .u32 (h2.o + 1 : Nat), fun u _ => u = .agg #[.int .u32 (h2.o + 1 : Nat), .int .u64 0], fun u _ => u = .int .i64 k2,
   fun u z => ∃ p, u = .agg #[.pointer (some ⟨p, 0, none⟩), .int .u32 (h2.o + 1 : Nat), .int .u64 0, .int .i64 k2] ∧ NewDk w.heap.size L p z, fun u z => ∃ s, u = .pointer (some ⟨s, 0, none⟩) ∧ NewSt2 (h2.o + 1) k2 w.heap.size L s z, fun u z => ∃ s, u = .pointer (some ⟨s, 0, none⟩) ∧ NewSt2 (h2.o + 1) k2 w.heap.size L s z]
  [[(0, none)], [(30, some 0)], [(5, none)], [(32, some 2)], [(33, some 3)], [(34, some 4)], [(35, some 5)], [(6, none)], [(31, some 1), (36, some 6), (37, some 7)], [(38, some 8)], [(39, some 9)]] [some 30, some 31, some 32, some 33, some 34, some 35, some 36, some 37, some 38, some 39, some 9] [false, false, false, false, false, false, false, false, false, true, false, false, false, false, false, false, false, false, false, false, false, false, false, false, false, false, false, false, false, false, true, true, true, true, true, true, true, true, true, true, false, false, false, false, false, false, false, false, false]
  []
  (by kernel_rfl) (by kernel_rfl) (by kernel_rfl) (by kernel_rfl) (by kernel_rfl) ?_ ?_ ?_ ?_
 ·repeat' (first | exact stable_eq _ | exact (fun _ _ _ h hb => h.imp fun _ h => ⟨h.1, newDk_below h.2 hb⟩) | exact (fun _ _ _ h hb => h.imp fun _ h => ⟨h.1, newSt2_below h.2 hb⟩) | exact trivial | apply And.intro)
 ·exact trivial
 ·refine ⟨?_, ?_, ?_, ?_, ?_, ?_, ?_, ?_, ?_, ?_, ?_, trivial⟩
  all_goals
   intro a z hb hf
   have z5 := hb.blk (unhide Y5) (footBut_no (by intro q hq; cases hq))
   have hbz : Below w.heap.size w z := (unhide HBW).trans ((hb.below (B := y2.heap.size) (Nat.le_refl _) (fun j _ h => by
    obtain ⟨q, hq, _⟩ := h
    cases hq)).mono hzy)
   have e0 : z.cell? ⟨g5, 0, none⟩ = some (.int .u32 h2.o) := blk_cell (i := 0) z5
   have HBZ := hide hbz
   clear z5 hb hbz
   simp only [PlanFacts, List.getD_cons_zero, List.getD_cons_succ, Array.getD_eq_getD_getElem?] at hf
   try simp at hf
  ·go_simp
   exact ⟨_, rfl, Far.refl _ _, rfl⟩
  ·have HC := hide ((unhide hD) z (unhide HBZ))
   have hzz := (unhide HBZ).size
   unfold ptrTo at HC
   go_simp
   refine (unhide HC).mono ?_
   rintro r z2 ⟨p, lv, rfl, k1, k2, k3⟩
   exact ⟨_, rfl, far_below k2, p, rfl, lv, k1, fun k hk => Nat.le_trans hzz (k3 k hk)⟩
  iterate 6
   ·go_simp
    exact ⟨_, rfl, Far.refl _ _, rfl⟩
  ·obtain ⟨⟨p, hp, hn⟩, hf⟩ := hf
   have HN := hide hn
   clear hn
   go_simp
   exact ⟨_, rfl, Far.refl _ _, p, rfl, unhide HN⟩
  ·obtain ⟨p, hp, hn⟩ := hf
   have HN := hide hn
   have hzz := (unhide HBZ).size
   clear hn
   go_simp
   refine ⟨_, rfl, far_below ((Below.refl _ _).alloc (Nat.le_refl _) _), _, rfl, p, newDk_below (unhide HN) ((Below.refl _ _).alloc (Nat.le_refl _) _), hzz, heap_alloc_new _ _⟩
  ·obtain ⟨s, hs, hn⟩ := hf
   have HN := hide hn
   clear hn
   go_simp
   exact ⟨_, rfl, Far.refl _ _, s, rfl, unhide HN⟩
 ·intro f z hF hwd
  obtain ⟨s, hs9, dp, ⟨lv, hdk, hnew⟩, hsB, hsb⟩ := hwd.2.2.2.2.2.2.2.2.2.2.1
  have hbz : Below y2.heap.size y2 z := hF.below (Nat.le_refl _) (fun j _ h => by
   obtain ⟨q, hq, _⟩ := h
   cases hq)
  have ST : StAt z s dp ⟨h2.o + 1, 0, k2, ⟨L, 0, false⟩⟩ lv (.slice none 0 0) := ⟨hsb, hdk, by show h2.o + 1 < _; omega, by simp, unhide HAT⟩
  have hnewS : ∀ k, StU s dp lv (.slice none 0 0) k → w.heap.size ≤ k := by
   rintro k (rfl | hk)
   ·exact hsB
   ·exact hnew k hk
  have z0 := (hbz.block _ (by omega)).trans (unhide Y0)
  have z5 := (hbz.block _ hg5y).trans (unhide Y5)
  have e2 : z.cell? ⟨g5, 2, none⟩ = some (.int .i64 h2.a) := blk_cell (i := 2) z5
  have e3 : z.cell? ⟨g5, 3, none⟩ = some (.int .i64 h2.b) := blk_cell (i := 3) z5
  have e4 : z.cell? ⟨g5, 4, none⟩ = some (.int .i64 h2.d) := blk_cell (i := 4) z5
  have HW := hide (writeNumbers_any z s dp _ lv _ ST h2.a h2.b h2.d (by omega) (by omega) (by omega))
  have hrz := ownsRow_keepB (w' := z) (unhide HRV) (fun g hg => hbz.block g (World.ownsRow.lt (unhide HRV) g hg).2)
  have HRZ := hide hrz
  have HBZ := hide ((unhide HBW).trans (hbz.mono hzy))
  have Z0 := hide z0
  have Z5 := hide z5
  have hSn : ¬ StU s dp lv (.slice none 0 0) w.heap.size := by
   rintro (h | h)
   ·rw [← h, z0] at hsb
    cases hsb
   ·exact dk_ne hdk z0 (by decide) (by decide) (by decide) h
  have hS5 : ¬ StU s dp lv (.slice none 0 0) g5 := by
   rintro (h | h)
   ·rw [← h, z5] at hsb
    cases hsb
   ·exact dk_ne hdk z5 (by decide) (by decide) (by decide) h
  have hSr : ∀ g, (Value.slice ra (m - 2) rc).ownBlock = some g → ¬ StU s dp lv (.slice none 0 0) g := by
   rintro g hg (h | h | h | h)
   ·exact (RowO.of_own (ownsRow_monoB hrz (Nat.zero_le _))).ne hsb (by decide) (by rw [hg, h])
   ·exact (RowO.of_own (ownsRow_monoB hrz (Nat.zero_le _))).ne hdk.blk (by decide) (by rw [hg, h])
   ·exact (RowO.of_own (ownsRow_monoB hrz (Nat.zero_le _))).ty (RowO.of_own hdk.row) (by decide) hg h
   ·cases h
  have hzz := hbz.size
  clear hwd hF hbz z0 z5 hdk hsb hrz HRV HBW Y0 Y5 hD ST
  simp only [mergeT, hs9]
  generalize f 30 = x30
  generalize f 31 = x31
  generalize f 32 = x32
  generalize f 33 = x33
  generalize f 34 = x34
  generalize f 35 = x35
  generalize f 36 = x36
  generalize f 37 = x37
  generalize f 38 = x38
  generalize f 39 = x39
  go_simp
  unfold ptrTo at HW
  go_upto_region 9 with (go_at_call 149; refine (unhide HW).mono ?_; rintro r z2 ⟨rfl, uv, k1, k2, k3⟩; replace k1 := hide k1; replace k2 := hide k2; replace k3 := hide k3)
  have K3 := unhide k3
  have z0 := K3.blk (unhide Z0) hSn
  have z5 := K3.blk (unhide Z5) hS5
  have hr2 := ownsRow_keepB (w' := z2) (unhide HRZ) (fun g hg => K3.rest g (World.ownsRow.lt (unhide HRZ) g hg).2 (hSr g hg))
  have hbz2 : Below w.heap.size w z2 := (unhide HBZ).trans (K3.below (by omega) (fun k hk h => by have := hnewS k h; omega))
  have HR2 := hide hr2
  have HB2 := hide hbz2
  have Z0' := hide z0
  have Z5' := hide z5
  have hz2 := hbz2.size
  have hz2g := lt_of_block z5
  have hzn := lt_of_block z0
  clear K3 z0 z5 hr2 hbz2 HRZ HBZ Z0 Z5 e2 e3 e4 HW
  refine wp_region_foot (by kernel_rfl)
   [fun u _ => u = .pointer (some ⟨s, 0, none⟩), fun u _ => u = .pointer (some ⟨g5, 2, none⟩), fun u _ => u = .agg #[.int .i64 h2.a, .int .i64 h2.b, .int .i64 h2.d], fun u _ => u = .slice ra (m - 2) rc, fun u _ => u = .agg #[.int .i64 h2.a, .int .i64 h2.b, .int .i64 h2.d, .slice ra (m - 2) rc], fun u _ => u = .pointer (some ⟨s, 0, none⟩),
    fun _ q => q.heap[w.heap.size]? = some (.cells #[.int .i64 h2.a, .int .i64 h2.b, .int .i64 h2.d, .slice ra (m - 2) rc] 187 (0, 0)), fun u _ => u = .int .i64 0]
   [[(9, none)], [(5, none)], [(45, some 1)], [(8, none)], [(46, some 2), (47, some 3)], [(44, some 0)], [(3, none), (48, some 4)], []] [some 44, some 45, some 46, some 47, some 48, some 2, none, some 4] [false, false, true, false, true, false, false, false, false, false, false, false, false, false, false, false, false, false, false, false, false, false, false, false, false, false, false, false, false, false, false, false, false, false, false, false, false, false, false, false, false, false, false, false, true, true, true, true, true]
   [(6, fun k => k = w.heap.size)]
   (by kernel_rfl) (by kernel_rfl) (by kernel_rfl) (by kernel_rfl) (by kernel_rfl) ?_ ?_ ?_ ?_
  ·repeat' (first | exact stable_eq _ | exact stable_blk _ _ | exact trivial | apply And.intro)
  ·repeat' (first | exact trivial | exact .inl rfl | exact .inr (.inr (stableF_eq _ _)) | apply And.intro)
  ·refine ⟨?_, ?_, ?_, ?_, ?_, ?_, ?_, ?_, trivial⟩
   all_goals
    intro a q hb hf
    have q5 := hb.blk (unhide Z5') (footBut_no (by intro p hp; simp at hp; subst hp; intro (e : g5 = w.heap.size); omega))
    have e2 : q.cell? ⟨g5, 2, none⟩ = some (.int .i64 h2.a) := blk_cell (i := 2) q5
    have e3 : q.cell? ⟨g5, 3, none⟩ = some (.int .i64 h2.b) := blk_cell (i := 3) q5
    have e4 : q.cell? ⟨g5, 4, none⟩ = some (.int .i64 h2.d) := blk_cell (i := 4) q5
    clear q5
    simp only [PlanFacts, List.getD_cons_zero, List.getD_cons_succ, Array.getD_eq_getD_getElem?] at hf
    try simp at hf
   iterate 6
    ·clear hb
     go_simp
     exact ⟨_, rfl, Far.refl _ _, rfl⟩
   ·have q0 := hb.blk (unhide Z0') (by
     rintro ⟨p, hp, g1, g2, g3⟩
     simp at hp
     subst hp
     exact g1 rfl)
    clear hb
    rw [if_pos (by rfl)]
    refine wp_store_row 187 (.tmp 3) (.tmp 48) rfl w.heap.size #[.int .i64 h2.a, .int .i64 h2.b, .int .i64 h2.d, .slice ra (m - 2) rc] (by simp [Act.eval, hf]) (by simp [Act.eval, hf]) 187 _ q0 (by rw [size_contents]; rfl) (by simp) (by rw [Array.all_eq_true_iff_forall_mem]; intro u hu; simp at hu; rcases hu with rfl | rfl | rfl | rfl <;> rfl) ?_
    exact ⟨_, rfl, footOf_of (.head _) (far_setRow _ _ _), setRow_heap _ _ _ _ _ _ q0⟩
   ·clear hb
    go_simp
    exact ⟨_, rfl, Far.refl _ _, rfl⟩
  ·intro f q hF hwd
   have hv2 := hwd.2.2.2.2.2.1
   have h6 := hwd.2.2.2.2.2.2.1
   have h7 := hwd.2.2.2.2.2.2.2.1
   have q0 : q.cell? ⟨w.heap.size, 0, none⟩ = some (.int .i64 h2.a) := blk_cell (i := 0) h6
   have q1 : q.cell? ⟨w.heap.size, 1, none⟩ = some (.int .i64 h2.b) := blk_cell (i := 1) h6
   have q2 : q.cell? ⟨w.heap.size, 2, none⟩ = some (.int .i64 h2.d) := blk_cell (i := 2) h6
   have q3 : q.cell? ⟨w.heap.size, 3, none⟩ = some (.slice ra (m - 2) rc) := blk_cell (i := 3) h6
   have hF : Far (fun k => k = w.heap.size) z2 q := hF.mono (fun k _ h => by
    obtain ⟨p, hp, h⟩ := h
    simp at hp
    subst hp
    exact h)
   have HF := hide hF
   clear hwd hF h6
   simp only [mergeT, hv2, h7]
   generalize f 44 = x44
   generalize f 45 = x45
   generalize f 46 = x46
   generalize f 47 = x47
   generalize f 48 = x48
   go_simp
   go_wp2
   refine bodyPost_ret (v := .tuple #[.pointer (some ⟨s, 0, none⟩), .agg #[.int .i64 h2.a, .int .i64 h2.b, .int .i64 h2.d, .slice ra (m - 2) rc], .int .i64 0]) (by simp [results, Tryz.results102, go_sem, q0, q1, q2, q3]) rfl ?_
   have hF := unhide HF
   have K2 := unhide k2
   have hnu : ∀ k, StU s dp lv uv k → w.heap.size ≤ k := by
    rintro k (h | h | h | h)
    ·exact hnewS k (.inl h)
    ·exact hnewS k (.inr (.inl h))
    ·exact hnewS k (.inr (.inr (.inl h)))
    ·rcases K2 with k2 | k2 | ⟨g, k2, k5⟩
     ·rw [k2] at h; cases h
     ·rw [k2] at h; cases h
     ·rw [k2] at h; cases h; omega
   have hne : ¬ StU s dp lv uv w.heap.size := by
    rintro (h | h | h | h)
    ·exact hSn (.inl h)
    ·exact hSn (.inr (.inl h))
    ·exact hSn (.inr (.inr (.inl h)))
    ·exact (unhide k1).dk.un.ne (unhide Z0') (by decide) h
   exact ⟨s, dp, lv, uv, _, rfl, (unhide k1).far hF (fun k hk e => hne (by rw [← e]; exact hk)), hnu, ownsRow_keepB (unhide HR2) (fun g hg => hF.rest g (World.ownsRow.lt (unhide HR2) g hg).2 (fun e => (RowO.of_own (ownsRow_monoB (unhide HR2) (Nat.zero_le _))).ne (unhide Z0') (by decide) (by rw [hg, e]))), (unhide HB2).trans (hF.below (by omega) (fun k hk e => by omega))⟩
end Go.Proofs.YtamafdcnbcoegaaGreat
namespace Go.Proofs.YtamafdcnbcoegaaGreat
open Go.RowKit
structure AgGood (N : Nat) (a : Mod.Ag) : Prop where
 ep : a.epoch ≤ 2147483647
 tk : a.ticks ≤ N
 sum : ∀ s, s < 3 → (a.fl s).base + (a.fl s).kept.length ≤ N
 bod : ∀ s, s < 3 → ∀ x ∈ (a.fl s).kept, x.1.size ≤ 20 ∧ x.2 ≤ N
theorem AgGood.mono {N M : Nat} {a : Mod.Ag} (G : AgGood N a) (h : N ≤ M) : AgGood M a :=
 ⟨G.ep, Nat.le_trans G.tk h, fun s hs => Nat.le_trans (G.sum s hs) h, fun s hs x hx => ⟨(G.bod s hs x hx).1, Nat.le_trans (G.bod s hs x hx).2 h⟩⟩
theorem agGood_submit {N : Nat} {a : Mod.Ag} (G : AgGood N a) (s : Nat) (b : ByteArray) (hb : b.size ≤ 20) : AgGood (N + 1) (a.submit s b) := by
 refine ⟨G.ep, Nat.le_succ_of_le G.tk, fun t ht => ?_, fun t ht x hx => ?_⟩
 ·have := G.sum t ht
  unfold Mod.Ag.submit Mod.upd
  simp only
  split
  ·rename_i e
   subst e
   simp; omega
  ·omega
 ·unfold Mod.Ag.submit Mod.upd at hx
  simp only at hx
  split at hx
  ·rename_i e
   subst e
   rw [List.mem_append, List.mem_singleton] at hx
   rcases hx with hx | rfl
   ·exact ⟨(G.bod t ht x hx).1, Nat.le_succ_of_le (G.bod t ht x hx).2⟩
   ·exact ⟨hb, Nat.zero_le _⟩
  ·exact ⟨(G.bod t ht x hx).1, Nat.le_succ_of_le (G.bod t ht x hx).2⟩
theorem sendTo_mem (epoch s : Nat) (f : Mod.Flow) (ticks : Nat) : ∀ i, ∀ y ∈ (Mod.sendTo epoch s f ticks i).1, ∃ x ∈ f.kept, y.1 = x.1 ∧ (y.2 = x.2 ∨ y.2 = ticks)
 | 0 => fun y hy => ⟨y, hy, rfl, .inl rfl⟩
 | i + 1 => by
  intro y hy
  have ih := sendTo_mem epoch s f ticks i
  rw [Mod.sendTo] at hy
  split at hy
  ·exact ih y hy
  ·rename_i x hx
   split at hy
   ·rcases List.mem_or_eq_of_mem_set hy with hy | rfl
    ·exact ih y hy
    ·exact ⟨x, List.mem_of_getElem? hx, rfl, .inr rfl⟩
   ·exact ih y hy
theorem agGood_tick {N : Nat} {a : Mod.Ag} (G : AgGood N a) : AgGood (N + 1) a.tick.1 := by
 have h0 : AgGood (N + 1) { a with ticks := a.ticks + 1 } := ⟨G.ep, Nat.succ_le_succ G.tk, fun s hs => Nat.le_succ_of_le (G.sum s hs), fun s hs x hx => ⟨(G.bod s hs x hx).1, Nat.le_succ_of_le (G.bod s hs x hx).2⟩⟩
 unfold Mod.Ag.tick
 split
 ·exact h0
 ·split
  ·exact h0
  ·refine ⟨G.ep, Nat.succ_le_succ G.tk, fun s hs => ?_, fun s hs y hy => ?_⟩
   ·have := G.sum s hs
    simp only [Mod.sendFl, if_pos hs, sendTo_len]
    omega
   ·simp only [Mod.sendFl, if_pos hs] at hy
    obtain ⟨x, hx, h1, h2⟩ := sendTo_mem _ _ _ _ _ y hy
    have h3 := G.bod s hs x hx
    refine ⟨h1 ▸ h3.1, ?_⟩
    have := G.tk
    rcases h2 with h2 | h2
    ·omega
    ·omega
theorem agGood_drop {N : Nat} {a : Mod.Ag} (G : AgGood N a) (n : Nat → Nat) (hn : ∀ s, s < 3 → n s ≤ (a.fl s).kept.length) : AgGood N (a.drop n) := by
 refine ⟨G.ep, G.tk, fun s hs => ?_, fun s hs x hx => ?_⟩
 ·have := G.sum s hs
  have := hn s hs
  simp only [Mod.Ag.drop, Mod.dropTo, if_pos hs, Mod.Flow.drop, List.length_drop]
  omega
 ·simp only [Mod.Ag.drop, Mod.dropTo, if_pos hs, Mod.Flow.drop] at hx
  exact G.bod s hs x (List.mem_of_mem_drop hx)
theorem agGood_deliver {N : Nat} {a : Mod.Ag} (G : AgGood N a) (k e st q : Int) (b : ByteArray) : AgGood N (a.deliver k e st q b) := by
 have GD := agGood_drop G (a.says k e st q b) (fun s _ => says_le a k e st q b s)
 unfold Mod.Ag.deliver
 split
 ·exact ⟨G.ep, G.tk, G.sum, G.bod⟩
 ·split
  ·exact G
  ·split
   ·exact ⟨G.ep, G.tk, G.sum, G.bod⟩
   ·split
    ·refine ⟨GD.ep, GD.tk, fun s hs => ?_, fun s hs x hx => ?_⟩
     ·have := GD.sum s hs
      simp only [Mod.fresh, if_pos hs, List.length_map]
      exact this
     ·simp only [Mod.fresh, if_pos hs] at hx
      obtain ⟨y, hy, rfl⟩ := List.mem_map.1 hx
      exact ⟨(GD.bod s hs y hy).1, Nat.zero_le _⟩
    ·split
     ·split
      ·exact G
      ·refine ⟨GD.ep, GD.tk, fun s hs => ?_, fun s hs x hx => ?_⟩
       ·have := GD.sum s hs
        simp only [Mod.upd]
        split
        ·rename_i e'
         subst e'
         exact this
        ·exact this
       ·simp only [Mod.upd] at hx
        split at hx
        ·rename_i e'
         subst e'
         exact GD.bod _ hs x hx
        ·exact GD.bod s hs x hx
     ·exact G
end Go.Proofs.YtamafdcnbcoegaaGreat
namespace Go.Proofs.YtamafdcnbcoegaaGreat
open Go.RowKit
def agSpools (a : Mod.Ag) (i : Int) : List ByteArray := if 0 ≤ i ∧ i < 3 then a.spool i.toNat else []
def agSays (a : Mod.Ag) (l : List UInt8) : Int × Mod.Ag :=
 if Wire.reads l = true then (0, a.deliver (Wire.kindOf l) (Wire.epochOf l) (Wire.streamOf l) (Wire.seqOf l) (Wire.bodyOf l)) else (1, a)
def agSubmits (a : Mod.Ag) (i : Int) (s : ByteArray) : Mod.Ag := if a.refuses i s.size = 0 then a.submit i.toNat s else a
structure AgentC (top : Nat) where
 At : World → Nat → Mod.Ag → (Nat → Prop) → Prop
 lt : ∀ {w v a U}, At w v a U → ∀ k, U k → k < w.heap.size
 far : ∀ {w w' v a U E}, At w v a U → Far E w w' → (∀ k, U k → ¬ E k) → At w' v a U
 submit : ∀ {w v a U N} (i : Int) (s : ByteArray), At w v a U → AgGood N a → N < top → Calls Tryz.prog 21 #[ptrTo v, .int .i64 i, .string s] w fun r w' =>
  ∃ U', r = .returned (.int .i64 (a.refuses i s.size)) ∧ At w' v (agSubmits a i s) U' ∧ Far U w w' ∧ ∀ k, U' k → U k ∨ w.heap.size ≤ k
 deliver : ∀ {w v a U N} (bs : Value) (l : List UInt8), At w v a U → AgGood N a → N < top → BytesAt w bs l → Calls Tryz.prog 28 #[ptrTo v, bs] w fun r w' =>
  ∃ U', r = .returned (.int .i64 (agSays a l).1) ∧ At w' v (agSays a l).2 U' ∧ Far U w w' ∧ ∀ k, U' k → U k ∨ w.heap.size ≤ k
 tick : ∀ {w v a U N}, At w v a U → AgGood N a → N < top → Calls Tryz.prog 24 #[ptrTo v] w fun r w' =>
  ∃ lv fs U', r = .returned lv ∧ FramesOut w.heap.size w' lv fs (a.tick.2.map fun l => ⟨l.toArray⟩) U' ∧ At w' v a.tick.1 U' ∧ Far U w w' ∧ ∀ k, U' k → U k ∨ w.heap.size ≤ k
 epoch : ∀ {w v a U}, At w v a U → Calls Tryz.prog 39 #[ptrTo v] w fun r w' => r = .returned (.int .i64 a.epoch) ∧ Below w.heap.size w w'
 spool : ∀ {w v a U} (i : Int), At w v a U → Calls Tryz.prog 26 #[ptrTo v, .int .i64 i] w fun r w' =>
  ∃ lv, r = .returned lv ∧ w'.ownsRow w.heap.size 9 1 lv (agSpools a i).length (strs (agSpools a i)) ∧ Below w.heap.size w w'
 opened : ∀ {w} (bs : Value), BytesAt w bs (List.replicate 1664 0) → Calls Tryz.prog 37 #[bs] w fun r w' =>
  ∃ v U, r = .returned (.tuple #[ptrTo v, .int .i64 0]) ∧ At w' v { epoch := 1, ticks := 0, welcome := false, fenced := false, fl := fun _ => { base := 0, kept := [], held := [] } } U ∧ Below w.heap.size w w' ∧ ∀ k, U k → w.heap.size ≤ k
section
variable {top N : Nat} {C : AgentC top} {w x : World} {q sv rp : Nat} {a : Mod.Ag} {r : RRest} {kv hk : Nat → Value} {U : Nat → Prop} {left : Int} {E : Nat → Prop}
end
end Go.Proofs.YtamafdcnbcoegaaGreat
namespace Go.Proofs.YtamafdcnbcoegaaGreat
open Go.RowKit
def boxed2 (w : World) (p o : Nat) (m : Int) : World := (w.alloc (.cells #[.pointer (some ⟨p, o, none⟩)] 209)).alloc (.cells #[.int .i64 m] 3)
def iterA (b : Nat) : Value := .func (.func 189) #[] #[.pointer (some ⟨b, 0, none⟩), .pointer (some ⟨b + 1, 0, none⟩)]
set_option maxHeartbeats 400000 in
theorem firstA_any (p o : Nat) (m : Int) (w : World) :
  Calls Tryz.prog 137 #[.pointer (some ⟨p, o, none⟩), .int .i64 m] w fun e w' => e = .returned (iterA w.heap.size) ∧ w' = boxed2 w p o m := by
 go_enter Tryz.func137, Tryz.ntmps137
 go_wp2
 go_ret
 exact ⟨rfl, rfl⟩
set_option maxHeartbeats 400000 in
theorem allA_any {w : World} {p o : Nat} {arr : Array Value} {t : TypeId} {nv mv : Value} {l : List (Nat × Value)} (hb : w.heap[p]? = some (.cells arr t (0, 0))) (h0 : arr[o]? = some nv) (S : ShelfIs w nv mv l) :
  Calls Tryz.prog 97 #[.pointer (some ⟨p, o, none⟩)] w fun e w' => e = .returned (iterA w.heap.size) ∧ w' = boxed2 w p o l.length := by
 have H := hide (lenA_any hb h0 S)
 clear S hb h0
 go_enter Tryz.func97, Tryz.ntmps97
 go_wp2_with (first | (go_at_call 143; refine (unhide H).mono ?_; rintro e w' ⟨rfl, rfl⟩) | (go_at_call 137; refine (firstA_any _ _ _ _).mono ?_; rintro e w' ⟨rfl, rfl⟩))
 go_ret
 exact ⟨rfl, rfl⟩
end Go.Proofs.YtamafdcnbcoegaaGreat
