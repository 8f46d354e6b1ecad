/-
  Part 10 of a proof: D21, D22, D23, L27, L28, L29.
-/
import Derived.Test.YtamafdcnbcoegaaGreatFl9
namespace Go.Proofs.YtamafdcnbcoegaaGreat
open Go.RowKit

set_option maxRecDepth 100000 in
theorem eq_head_no (o c a b d : Nat) (ho : o ≠ 0) (w : World) : (Op.equalIn 10000 217 (.agg #[.int .u32 o, .int .u64 c, .int .i64 a, .int .i64 b, .int .i64 d]) (.agg #[.int .u32 0, .int .u64 0, .int .i64 0, .int .i64 0, .int .i64 0])).run Tryz.prog w = .ok false w := by
  have hne : ((o : Int) == 0) = false := by simp; omega
  rw [run_equalIn_struct w 9999 217 _ _ (by kernel_rfl) (by kernel_rfl)]
  simp [go_sem, hne]
theorem mod_newer (h g : Mod.Hd) : Mod.newer h.o h.c g.o g.c = Mod.newer2 h g := rfl
/-- The end: a head, its sector, whether there is one. -/
def NhOut (L : List UInt8) (w : World) (r : Ending) (w' : World) : Prop :=
  ∃ (h : Mod.Hd) (k : Nat), r = .returned (.tuple #[hdVal h, .int .i64 k, .bool (Mod.newest L).isSome]) ∧ (∀ h' k', Mod.newest L = some (h', k') → h = h' ∧ k = k') ∧ Below w.heap.size w w'
theorem nhOut_no {L : List UInt8} {w y : World} (h : Mod.newest L = none) (h2 : Mod.Hd) (k : Nat) (hb : Below w.heap.size w y) : NhOut L w (.returned (.tuple #[hdVal h2, .int .i64 k, .bool false])) y :=
  ⟨h2, k, (by rw [h]; rfl), (fun h' k' e => (by rw [h] at e; cases e)), hb⟩
theorem nhOut_yes {L : List UInt8} {w y : World} {h2 : Mod.Hd} {k : Nat} (h : Mod.newest L = some (h2, k)) (hb : Below w.heap.size w y) : NhOut L w (.returned (.tuple #[hdVal h2, .int .i64 k, .bool true])) y :=
  ⟨h2, k, (by rw [h]; rfl), (fun h' k' e => (by rw [h] at e; cases e; exact ⟨rfl, rfl⟩)), hb⟩
theorem below_set5 {w z : World} {g : Nat} (hb : Below w.heap.size w z) (hg : w.heap.size ≤ g) (a b c d e : Value) : Below w.heap.size w (((((z.setCell ⟨g, 0, none⟩ a).setCell ⟨g, 1, none⟩ b).setCell ⟨g, 2, none⟩ c).setCell ⟨g, 3, none⟩ d).setCell ⟨g, 4, none⟩ e) :=
  ((((hb.setCell (p := ⟨g, 0, none⟩) hg _).setCell (p := ⟨g, 1, none⟩) hg _).setCell (p := ⟨g, 2, none⟩) hg _).setCell (p := ⟨g, 3, none⟩) hg _).setCell (p := ⟨g, 4, none⟩) hg _

set_option maxRecDepth 100000 in
set_option maxHeartbeats 4000000 in
theorem newestHead_any (w : World) (v : Value) (L : List UInt8) (hat : BytesAt w v L) (hn1 : 128 ≤ L.length) (hn2 : L.length ≤ 10000) :
    Calls Tryz.prog 146 #[v] w (NhOut L w) := by
  have hS := fun (k : Nat) (hk : 64 * k + 64 ≤ L.length) y (hb : Below w.heap.size w y) => hide (sectorAt_any y v L k (hat.below hb) hk hn2)
  have hS0 := hS 0 (by omega)
  have hS1 := hS 1 (by omega)
  have hR0 := fun y => hide (readHead_any (Mod.sec L 0) (Mod.length_sec (by omega)) y)
  have hR1 := fun y => hide (readHead_any (Mod.sec L 1) (Mod.length_sec (by omega)) y)
  have hnw : Mod.newest L = if Mod.headOk (Mod.sec L 0) = true ∧ Mod.headOk (Mod.sec L 1) = true then
    if Mod.newer2 (Mod.headIs (Mod.sec L 1)) (Mod.headIs (Mod.sec L 0)) = true then some (Mod.headIs (Mod.sec L 1), 1)
    else if Mod.newer2 (Mod.headIs (Mod.sec L 0)) (Mod.headIs (Mod.sec L 1)) = true then some (Mod.headIs (Mod.sec L 0), 0)
    else if (Mod.headIs (Mod.sec L 0)).o = 0 ∧ (Mod.headIs (Mod.sec L 1)).o = 0 then some (Mod.hd0, 0) else none
  else none := rfl
  have hz0 : Mod.headOk (Mod.sec L 0) = true → (Mod.headIs (Mod.sec L 0)).o = 0 → Mod.headIs (Mod.sec L 0) = Mod.hd0 := fun h e => by
    rcases Mod.headOk_some h with ⟨_, e2⟩ | ⟨e2, _⟩
    · exact e2
    · rw [e] at e2; cases e2
  have hz1 : Mod.headOk (Mod.sec L 1) = true → (Mod.headIs (Mod.sec L 1)).o = 0 → Mod.headIs (Mod.sec L 1) = Mod.hd0 := fun h e => by
    rcases Mod.headOk_some h with ⟨_, e2⟩ | ⟨e2, _⟩
    · exact e2
    · rw [e] at e2; cases e2
  obtain ⟨S0, hS0d⟩ : ∃ S0, S0 = Mod.sec L 0 := ⟨_, rfl⟩
  obtain ⟨S1, hS1d⟩ : ∃ S1, S1 = Mod.sec L 1 := ⟨_, rfl⟩
  unfold Mod.sec at hS0d hS1d
  rw [← hS0d] at hS0
  rw [← hS1d] at hS1
  have e0 : Mod.sec L 0 = S0 := hS0d.symm
  have e1 : Mod.sec L 1 = S1 := hS1d.symm
  rw [e0] at hR0 hnw hz0
  rw [e1] at hR1 hnw hz1
  clear hS hS0d hS1d e0 e1 hat
  generalize Mod.headOk S0 = k0 at *
  generalize Mod.headOk S1 = k1 at *
  generalize Mod.headIs S0 = F at *
  generalize Mod.headIs S1 = G at *
  have HNW := hide hnw
  have HZ0 := hide hz0
  have HZ1 := hide hz1
  clear hnw hz0 hz1
  go_enter Tryz.func146, Tryz.ntmps146
  go_upto_region 2 with (first
    | (go_at_call 195; refine (unhide (hS0 _ ((Below.refl _ _).alloc (Nat.le_refl _) _))).mono ?_; rintro r y ⟨rfl, hb1⟩)
    | (go_at_call 194; refine (unhide (hR0 _)).mono ?_; rintro r y2 ⟨f, rfl, hf0, hb2⟩; unfold hdVal))
  have HF0 := hide hf0
  clear hf0
  have hz1 := hb1.size
  have hz2 := hb2.size
  simp only [World.size_alloc] at hz1
  have hy2 : y2.heap[w.heap.size]? = some (.cells #[.int .u32 0, .int .u64 0, .int .i64 0, .int .i64 0, .int .i64 0] 217 (0, 0)) := (hb2.block _ (by omega)).trans ((hb1.block _ (by simp)).trans (heap_alloc_new w _))
  have hBy : Below w.heap.size w y2 := (((Below.refl _ _).alloc (Nat.le_refl _) _).trans (hb1.mono (by simp))).trans (hb2.mono (by omega))
  obtain ⟨g5, hg5⟩ : ∃ g, g = y2.heap.size := ⟨_, rfl⟩
  rw [← hg5]
  refine wp_world (fun x => x.heap[w.heap.size]? = some (.cells #[.int .u32 0, .int .u64 0, .int .i64 0, .int .i64 0, .int .i64 0] 217 (0, 0)) ∧ x.heap[g5]? = some (.cells #[.int .u32 f.o, .int .u64 f.c, .int .i64 f.a, .int .i64 f.b, .int .i64 f.d] 217 (0, 0)) ∧ Below w.heap.size w x) ?_ ?_
  · exact ⟨(hao _ _ (by omega)).trans hy2, by rw [hg5]; exact heap_alloc_new _ _, hBy.alloc (by omega) _⟩
  have hg5w : w.heap.size < g5 := by omega
  clear hy2 hBy hz1 hz2 hb1 hb2 hg5
  rintro x ⟨h0, h5, hB⟩
  have H0 := hide h0
  have H5 := hide h5
  have HB := hide hB
  have hzx := lt_of_block h5
  clear h0 h5 hB
  go_upto_region 3 with (first
    | (go_at_call 195; refine (unhide (hS1 x (unhide HB))).mono ?_; rintro r y3 ⟨rfl, hb3⟩)
    | (go_at_call 194; refine (unhide (hR1 _)).mono ?_; rintro r y4 ⟨s, rfl, hf1, hb4⟩; unfold hdVal))
  have HF1 := hide hf1
  have hz3 := hb3.size
  have hz4 := hb4.size
  obtain ⟨g7, hg7⟩ : ∃ g, g = y4.heap.size := ⟨_, rfl⟩
  rw [← hg7]
  refine wp_world (fun x => x.heap[w.heap.size]? = some (.cells #[.int .u32 0, .int .u64 0, .int .i64 0, .int .i64 0, .int .i64 0] 217 (0, 0)) ∧ x.heap[g5]? = some (.cells #[.int .u32 f.o, .int .u64 f.c, .int .i64 f.a, .int .i64 f.b, .int .i64 f.d] 217 (0, 0)) ∧ x.heap[g7]? = some (.cells #[.int .u32 s.o, .int .u64 s.c, .int .i64 s.a, .int .i64 s.b, .int .i64 s.d] 217 (0, 0)) ∧ Below w.heap.size w x) ?_ ?_
  · have hb : Below x.heap.size x y4 := hb3.trans (hb4.mono hz3)
    exact ⟨(hao _ _ (by omega)).trans ((hb.block _ (by omega)).trans (unhide H0)), (hao _ _ (by omega)).trans ((hb.block _ (by omega)).trans (unhide H5)), by rw [hg7]; exact heap_alloc_new _ _, ((unhide HB).trans (hb.mono (by omega))).alloc (by omega) _⟩
  have hg57 : g5 < g7 := by omega
  clear H0 H5 HB hb3 hb4 hz3 hz4 hg7 hzx hf1 hS0 hS1 hR0 hR1
  rintro x2 ⟨h0, h5, h7, hB⟩
  have q0 : x2.cell? ⟨w.heap.size, 0, none⟩ = some (.int .u32 0) := blk_cell (i := 0) h0
  have q1 : x2.cell? ⟨w.heap.size, 1, none⟩ = some (.int .u64 0) := blk_cell (i := 1) h0
  have q2 : x2.cell? ⟨w.heap.size, 2, none⟩ = some (.int .i64 0) := blk_cell (i := 2) h0
  have q3 : x2.cell? ⟨w.heap.size, 3, none⟩ = some (.int .i64 0) := blk_cell (i := 3) h0
  have q4 : x2.cell? ⟨w.heap.size, 4, none⟩ = some (.int .i64 0) := blk_cell (i := 4) h0
  have p0 : ∀ i, x2.frozen? ⟨w.heap.size, i, none⟩ = false := fun i => blk_free h0
  have e50 : x2.cell? ⟨g5, 0, none⟩ = some (.int .u32 f.o) := blk_cell (i := 0) h5
  have e51 : x2.cell? ⟨g5, 1, none⟩ = some (.int .u64 f.c) := blk_cell (i := 1) h5
  have e70 : x2.cell? ⟨g7, 0, none⟩ = some (.int .u32 s.o) := blk_cell (i := 0) h7
  have e71 : x2.cell? ⟨g7, 1, none⟩ = some (.int .u64 s.c) := blk_cell (i := 1) h7
  have H0 := hide h0
  have H5 := hide h5
  have H7 := hide h7
  have HB := hide hB
  have hz7 := lt_of_block h7
  clear h0 h5 h7 hB
  cases k0 with
  | false =>
    clear HF0 HF1 HZ0 HZ1 e50 e51 e70 e71 H5 H7
    go_wp2
    refine bodyPost_ret (v := .tuple #[.agg #[.int .u32 0, .int .u64 0, .int .i64 0, .int .i64 0, .int .i64 0], .int .i64 0, .bool false]) (by simp [results, Tryz.results146, go_sem, q0, q1, q2, q3, q4]) rfl ?_
    exact nhOut_no (by rw [unhide HNW]; simp) Mod.hd0 0 (below_set5 (unhide HB) (Nat.le_refl _) _ _ _ _ _)
  | true =>
    obtain rfl : f = F := (unhide HF0) rfl
    cases k1 with
    | false =>
      clear HF0 HF1 HZ0 HZ1 e50 e51 e70 e71 H5 H7
      go_wp2
      refine bodyPost_ret (v := .tuple #[.agg #[.int .u32 0, .int .u64 0, .int .i64 0, .int .i64 0, .int .i64 0], .int .i64 0, .bool false]) (by simp [results, Tryz.results146, go_sem, q0, q1, q2, q3, q4]) rfl ?_
      exact nhOut_no (by rw [unhide HNW]; simp) Mod.hd0 0 (below_set5 (unhide HB) (Nat.le_refl _) _ _ _ _ _)
    | true =>
      obtain rfl : s = G := (unhide HF1) rfl
      have hN := fun y => hide (isNewer_any s.o s.c f.o f.c y)
      have hM := fun y => hide (isNewer_any f.o f.c s.o s.c y)
      rw [mod_newer] at hN hM
      cases n1 : Mod.newer2 s f with
      | true =>
        go_upto_region 6 with (go_at_call 196; refine (unhide (hN _)).mono ?_; rw [n1]; rintro r y5 ⟨rfl, hb5⟩)
        have hz5 := hb5.size
        have b0 := (hb5.block _ (by omega)).trans (unhide H0)
        have b5 := (hb5.block _ (by omega)).trans (unhide H5)
        have b7 := (hb5.block _ (by omega)).trans (unhide H7)
        have HBY := hide ((unhide HB).trans (hb5.mono (unhide HB).size))
        clear hb5 e50 e51 e70 e71 q0 q1 q2 q3 q4 p0 hN hM HZ0 HZ1
        have e0 : y5.cell? ⟨g7, 0, none⟩ = some (.int .u32 s.o) := blk_cell (i := 0) b7
        have e1 : y5.cell? ⟨g7, 1, none⟩ = some (.int .u64 s.c) := blk_cell (i := 1) b7
        have e2 : y5.cell? ⟨g7, 2, none⟩ = some (.int .i64 s.a) := blk_cell (i := 2) b7
        have e3 : y5.cell? ⟨g7, 3, none⟩ = some (.int .i64 s.b) := blk_cell (i := 3) b7
        have e4 : y5.cell? ⟨g7, 4, none⟩ = some (.int .i64 s.d) := blk_cell (i := 4) b7
        have q0 : y5.cell? ⟨w.heap.size, 0, none⟩ = some (.int .u32 0) := blk_cell (i := 0) b0
        have q1 : y5.cell? ⟨w.heap.size, 1, none⟩ = some (.int .u64 0) := blk_cell (i := 1) b0
        have q2 : y5.cell? ⟨w.heap.size, 2, none⟩ = some (.int .i64 0) := blk_cell (i := 2) b0
        have q3 : y5.cell? ⟨w.heap.size, 3, none⟩ = some (.int .i64 0) := blk_cell (i := 3) b0
        have q4 : y5.cell? ⟨w.heap.size, 4, none⟩ = some (.int .i64 0) := blk_cell (i := 4) b0
        have p0 : ∀ i, y5.frozen? ⟨w.heap.size, i, none⟩ = false := fun i => blk_free b0
        clear b0 b5 b7 H0 H5 H7 HB
        have HN1 := hide n1
        clear n1
        go_wp2
        refine bodyPost_ret (v := .tuple #[.agg #[.int .u32 s.o, .int .u64 s.c, .int .i64 s.a, .int .i64 s.b, .int .i64 s.d], .int .i64 1, .bool true]) (by simp [results, Tryz.results146, go_sem, q0, q1, q2, q3, q4]) rfl ?_
        exact nhOut_yes (by rw [unhide HNW, unhide HN1]; simp) (below_set5 (unhide HBY) (Nat.le_refl _) _ _ _ _ _)
      | false =>
        cases n2 : Mod.newer2 f s with
        | true =>
          go_upto_region 7 with (go_at_call 196; refine (unhide (hN _)).mono ?_; rw [n1]; rintro r y5 ⟨rfl, hb5⟩)
          have e50 := (hb5.cell (p := ⟨g5, 0, none⟩) (by show g5 < _; omega)).trans e50
          have e51 := (hb5.cell (p := ⟨g5, 1, none⟩) (by show g5 < _; omega)).trans e51
          have e70 := (hb5.cell (p := ⟨g7, 0, none⟩) (by show g7 < _; omega)).trans e70
          have e71 := (hb5.cell (p := ⟨g7, 1, none⟩) (by show g7 < _; omega)).trans e71
          have hzx5 := hb5.size
          have HB5 := hide hb5
          clear hb5
          go_upto_region 8 with (go_at_call 196; refine (unhide (hM _)).mono ?_; rw [n2]; rintro r y6 ⟨rfl, hb6⟩)
          have hb : Below x2.heap.size x2 y6 := (unhide HB5).trans (hb6.mono hzx5)
          clear hb6 HB5
          have hz5 := hb.size
          have b0 := (hb.block _ (by omega)).trans (unhide H0)
          have b5 := (hb.block _ (by omega)).trans (unhide H5)
          have b7 := (hb.block _ (by omega)).trans (unhide H7)
          have HBY := hide ((unhide HB).trans (hb.mono (unhide HB).size))
          clear hb e50 e51 e70 e71 q0 q1 q2 q3 q4 p0 hN hM HZ0 HZ1
          have e0 : y6.cell? ⟨g5, 0, none⟩ = some (.int .u32 f.o) := blk_cell (i := 0) b5
          have e1 : y6.cell? ⟨g5, 1, none⟩ = some (.int .u64 f.c) := blk_cell (i := 1) b5
          have e2 : y6.cell? ⟨g5, 2, none⟩ = some (.int .i64 f.a) := blk_cell (i := 2) b5
          have e3 : y6.cell? ⟨g5, 3, none⟩ = some (.int .i64 f.b) := blk_cell (i := 3) b5
          have e4 : y6.cell? ⟨g5, 4, none⟩ = some (.int .i64 f.d) := blk_cell (i := 4) b5
          have q0 : y6.cell? ⟨w.heap.size, 0, none⟩ = some (.int .u32 0) := blk_cell (i := 0) b0
          have q1 : y6.cell? ⟨w.heap.size, 1, none⟩ = some (.int .u64 0) := blk_cell (i := 1) b0
          have q2 : y6.cell? ⟨w.heap.size, 2, none⟩ = some (.int .i64 0) := blk_cell (i := 2) b0
          have q3 : y6.cell? ⟨w.heap.size, 3, none⟩ = some (.int .i64 0) := blk_cell (i := 3) b0
          have q4 : y6.cell? ⟨w.heap.size, 4, none⟩ = some (.int .i64 0) := blk_cell (i := 4) b0
          have p0 : ∀ i, y6.frozen? ⟨w.heap.size, i, none⟩ = false := fun i => blk_free b0
          clear b0 b5 b7 H0 H5 H7 HB
          have HN1 := hide (And.intro n1 n2)
          clear n1 n2
          go_wp2
          refine bodyPost_ret (v := .tuple #[.agg #[.int .u32 f.o, .int .u64 f.c, .int .i64 f.a, .int .i64 f.b, .int .i64 f.d], .int .i64 0, .bool true]) (by simp [results, Tryz.results146, go_sem, q0, q1, q2, q3, q4]) rfl ?_
          exact nhOut_yes (by rw [unhide HNW, (unhide HN1).1, (unhide HN1).2]; simp) (below_set5 (unhide HBY) (Nat.le_refl _) _ _ _ _ _)
        | false =>
          go_upto_region 7 with (go_at_call 196; refine (unhide (hN _)).mono ?_; rw [n1]; rintro r y5 ⟨rfl, hb5⟩)
          have e50 := (hb5.cell (p := ⟨g5, 0, none⟩) (by show g5 < _; omega)).trans e50
          have e51 := (hb5.cell (p := ⟨g5, 1, none⟩) (by show g5 < _; omega)).trans e51
          have e70 := (hb5.cell (p := ⟨g7, 0, none⟩) (by show g7 < _; omega)).trans e70
          have e71 := (hb5.cell (p := ⟨g7, 1, none⟩) (by show g7 < _; omega)).trans e71
          have hzx5 := hb5.size
          have HB5 := hide hb5
          clear hb5
          go_upto_region 9 with (go_at_call 196; refine (unhide (hM _)).mono ?_; rw [n2]; rintro r y6 ⟨rfl, hb6⟩)
          have hb : Below x2.heap.size x2 y6 := (unhide HB5).trans (hb6.mono hzx5)
          clear hb6 HB5
          have hz5 := hb.size
          have H0 := hide ((hb.block _ (by omega)).trans (unhide H0))
          have H5 := hide ((hb.block _ (by omega)).trans (unhide H5))
          have H7 := hide ((hb.block _ (by omega)).trans (unhide H7))
          have HBY := hide ((unhide HB).trans (hb.mono (unhide HB).size))
          clear hb e50 e51 e70 e71 q0 q1 q2 q3 q4 p0 hN hM HB
          by_cases hfo : f.o = 0
          · have hso : s.o = 0 := by
              have ef := (unhide HZ0) (by trivial) hfo
              rw [ef] at n1
              unfold Mod.newer2 Mod.hd0 at n1
              simp only at n1
              by_cases h : s.o = 0
              · exact h
              · rw [if_pos h, decide_eq_true (by omega)] at n1
                cases n1
            have ef := (unhide HZ0) (by trivial) hfo
            have es := (unhide HZ1) (by trivial) hso
            have HNN : Hid (Mod.newest L = some (Mod.hd0, 0)) := by
              show _ = _
              rw [unhide HNW, n1, n2]; simp [hfo, hso]
            rw [ef] at H5
            rw [es] at H7
            clear HNW HZ0 HZ1 HF0 HF1 n1 n2 ef es hfo hso
            have heq : ∀ y : World, (Op.equalIn 10000 217 (.agg #[.int .u32 0, .int .u64 0, .int .i64 0, .int .i64 0, .int .i64 0]) (.agg #[.int .u32 0, .int .u64 0, .int .i64 0, .int .i64 0, .int .i64 0])).run Tryz.prog y = .ok true y := fun y => by kernel_rfl
            refine wp_region_foot (by kernel_rfl)
              [fun v _ => v = .agg #[.int .u32 0, .int .u64 0, .int .i64 0, .int .i64 0, .int .i64 0], fun v _ => v = .agg #[.int .u32 0, .int .u64 0, .int .i64 0, .int .i64 0, .int .i64 0], fun v _ => v = .agg #[.int .u32 0, .int .u64 0, .int .i64 0, .int .i64 0, .int .i64 0], fun v _ => v = .bool true, fun v _ => v = .bool true, fun v _ => v = .agg #[.int .u32 0, .int .u64 0, .int .i64 0, .int .i64 0, .int .i64 0], fun v _ => v = .agg #[.int .u32 0, .int .u64 0, .int .i64 0, .int .i64 0, .int .i64 0], fun v _ => v = .bool true, fun v _ => v = .bool true, fun _ z => z.heap[w.heap.size]? = some (.cells #[.int .u32 0, .int .u64 0, .int .i64 0, .int .i64 0, .int .i64 0] 217 (0, 0)), fun v _ => v = .int .i64 0, fun v _ => v = .bool true]
              [[], [(5, none)], [], [(44, some 1), (45, some 2)], [(46, some 3)], [(7, none), (47, some 4)], [(47, some 4)], [(48, some 5), (49, some 6), (47, some 4)], [(47, some 4), (50, some 7)], [(2, none), (43, some 0)], [], [(51, some 8)]] [some 43, some 44, some 45, some 46, some 47, some 48, some 49, some 50, some 51, none, some 3, some 4] [false, false, false, true, true, false, false, false, false, false, false, false, false, false, false, false, false, false, false, false, false, false, false, false, false, false, false, false, false, false, false, false, false, false, false, false, false, false, false, false, false, false, false, true, true, true, true, true, true, true, true, true]
              [(9, fun k => k = w.heap.size)]
              (by kernel_rfl) (by kernel_rfl) (by kernel_rfl) (by kernel_rfl) (by kernel_rfl) ?_ ?_ ?_ ?_
            · repeat' (first | exact stable_eq _ | exact stable_true | exact stable_blk _ _ | exact trivial | apply And.intro)
            · repeat' (first | exact trivial | exact .inl rfl | exact .inr (.inr (stableF_eq _ _)) | exact .inr (.inr (fun _ _ _ _ _ => trivial)) | apply And.intro)
            · refine ⟨?_, ?_, ?_, ?_, ?_, ?_, ?_, ?_, ?_, ?_, ?_, ?_, trivial⟩
              all_goals
                intro a z hb hf
                have z5 := hb.blk (unhide H5) (footBut_no (by intro q hq; simp at hq; subst hq; intro (e : g5 = w.heap.size); omega))
                have z7 := hb.blk (unhide H7) (footBut_no (by intro q hq; simp at hq; subst hq; intro (e : g7 = w.heap.size); omega))
                have e50 : z.cell? ⟨g5, 0, none⟩ = some (.int .u32 0) := blk_cell (i := 0) z5
                have e70 : z.cell? ⟨g7, 0, none⟩ = some (.int .u32 0) := blk_cell (i := 0) z7
                have e51 : z.cell? ⟨g5, 1, none⟩ = some (.int .u64 0) := blk_cell (i := 1) z5
                have e71 : z.cell? ⟨g7, 1, none⟩ = some (.int .u64 0) := blk_cell (i := 1) z7
                have e52 : z.cell? ⟨g5, 2, none⟩ = some (.int .i64 0) := blk_cell (i := 2) z5
                have e72 : z.cell? ⟨g7, 2, none⟩ = some (.int .i64 0) := blk_cell (i := 2) z7
                have e53 : z.cell? ⟨g5, 3, none⟩ = some (.int .i64 0) := blk_cell (i := 3) z5
                have e73 : z.cell? ⟨g7, 3, none⟩ = some (.int .i64 0) := blk_cell (i := 3) z7
                have e54 : z.cell? ⟨g5, 4, none⟩ = some (.int .i64 0) := blk_cell (i := 4) z5
                have e74 : z.cell? ⟨g7, 4, none⟩ = some (.int .i64 0) := blk_cell (i := 4) z7
                clear z5 z7
                simp only [PlanFacts, List.getD_cons_zero, List.getD_cons_succ, Array.getD_eq_getD_getElem?] at hf
                try simp at hf
              iterate 5
                · clear hb
                  go_simp
                  exact ⟨_, rfl, Far.refl _ _, rfl⟩
              iterate 3
                · clear hb
                  have hg : a.tmps[47]? = some (.bool true) := tmpB (by first | exact hf | exact hf.2 | exact hf.2.2)
                  go_simp
                  exact ⟨_, rfl, Far.refl _ _, rfl⟩
              · clear hb
                go_simp
                exact ⟨_, rfl, Far.refl _ _, rfl⟩
              · have z0 := hb.blk (unhide H0) (by
                  rintro ⟨q, hq, g1, g2, g3⟩
                  simp at hq
                  subst hq
                  exact g1 rfl)
                clear hb
                rw [if_pos (by rfl)]
                refine wp_store_row 217 (.tmp 2) (.tmp 43) rfl w.heap.size #[.int .u32 0, .int .u64 0, .int .i64 0, .int .i64 0, .int .i64 0] (by simp [Act.eval, hf]) (by simp [Act.eval, hf]) 217 _ z0 (by rw [size_head]; rfl) (by simp) (by rw [Array.all_eq_true_iff_forall_mem]; intro u hu; simp at hu; rcases hu with rfl | rfl | rfl <;> rfl) ?_
                exact ⟨_, rfl, footOf_of (.head _) (far_setRow _ _ _), setRow_heap _ _ _ _ _ _ z0⟩
              iterate 2
                · clear hb
                  go_simp
                  exact ⟨_, rfl, Far.refl _ _, rfl⟩
            · intro f' z hF hwd
              have h9 := hwd.2.2.2.2.2.2.2.2.2.1
              have h10 := hwd.2.2.2.2.2.2.2.2.2.2.1
              have h11 := hwd.2.2.2.2.2.2.2.2.2.2.2.1
              have q0 : z.cell? ⟨w.heap.size, 0, none⟩ = some (.int .u32 0) := blk_cell (i := 0) h9
              have q1 : z.cell? ⟨w.heap.size, 1, none⟩ = some (.int .u64 0) := blk_cell (i := 1) h9
              have q2 : z.cell? ⟨w.heap.size, 2, none⟩ = some (.int .i64 0) := blk_cell (i := 2) h9
              have q3 : z.cell? ⟨w.heap.size, 3, none⟩ = some (.int .i64 0) := blk_cell (i := 3) h9
              have q4 : z.cell? ⟨w.heap.size, 4, none⟩ = some (.int .i64 0) := blk_cell (i := 4) h9
              have HBZ := hide ((unhide HBY).trans (hF.below (unhide HBY).size (fun k hk h => by
                obtain ⟨q, hq, h⟩ := h
                simp at hq
                subst hq
                have h : k = w.heap.size := h
                omega)))
              clear hwd hF h9
              simp only [mergeT, h10, h11]
              generalize f' 43 = x43
              generalize f' 44 = x44
              generalize f' 45 = x45
              generalize f' 46 = x46
              generalize f' 47 = x47
              generalize f' 48 = x48
              generalize f' 49 = x49
              generalize f' 50 = x50
              generalize f' 51 = x51
              go_simp
              go_wp2
              refine bodyPost_ret (v := .tuple #[.agg #[.int .u32 0, .int .u64 0, .int .i64 0, .int .i64 0, .int .i64 0], .int .i64 0, .bool true]) (by simp [results, Tryz.results146, go_sem, q0, q1, q2, q3, q4]) rfl ?_
              exact nhOut_yes (h2 := Mod.hd0) (unhide HNN) (unhide HBZ)
          · have HNN : Hid (Mod.newest L = none) := by
              show _ = _
              rw [unhide HNW, n1, n2]; simp [hfo]
            have heq := fun y => eq_head_no f.o f.c f.a f.b f.d hfo y
            clear HNW HZ0 HZ1 HF0 HF1 n1 n2 hfo
            refine wp_region_foot (by kernel_rfl)
              [fun v _ => v = .agg #[.int .u32 0, .int .u64 0, .int .i64 0, .int .i64 0, .int .i64 0], fun v _ => v = .agg #[.int .u32 f.o, .int .u64 f.c, .int .i64 f.a, .int .i64 f.b, .int .i64 f.d], fun v _ => v = .agg #[.int .u32 0, .int .u64 0, .int .i64 0, .int .i64 0, .int .i64 0], fun v _ => v = .bool false, fun v _ => v = .bool false, fun _ _ => True, fun _ _ => True, fun _ _ => True, fun v _ => v = .bool false, fun _ z => z.heap[w.heap.size]? = some (.cells #[.int .u32 0, .int .u64 0, .int .i64 0, .int .i64 0, .int .i64 0] 217 (0, 0)), fun v _ => v = .int .i64 0, fun v _ => v = .bool false]
              [[], [(5, none)], [], [(44, some 1), (45, some 2)], [(46, some 3)], [(7, none), (47, some 4)], [(47, some 4)], [(48, some 5), (49, some 6), (47, some 4)], [(47, some 4), (50, some 7)], [(2, none), (43, some 0)], [], [(51, some 8)]] [some 43, some 44, some 45, some 46, some 47, some 48, some 49, some 50, some 51, none, some 3, some 4] [false, false, false, true, true, false, false, false, false, false, false, false, false, false, false, false, false, false, false, false, false, false, false, false, false, false, false, false, false, false, false, false, false, false, false, false, false, false, false, false, false, false, false, true, true, true, true, true, true, true, true, true]
              [(9, fun k => k = w.heap.size)]
              (by kernel_rfl) (by kernel_rfl) (by kernel_rfl) (by kernel_rfl) (by kernel_rfl) ?_ ?_ ?_ ?_
            · repeat' (first | exact stable_eq _ | exact stable_true | exact stable_blk _ _ | exact trivial | apply And.intro)
            · repeat' (first | exact trivial | exact .inl rfl | exact .inr (.inr (stableF_eq _ _)) | exact .inr (.inr (fun _ _ _ _ _ => trivial)) | apply And.intro)
            · refine ⟨?_, ?_, ?_, ?_, ?_, ?_, ?_, ?_, ?_, ?_, ?_, ?_, trivial⟩
              all_goals
                intro a z hb hf
                have z5 := hb.blk (unhide H5) (footBut_no (by intro q hq; simp at hq; subst hq; intro (e : g5 = w.heap.size); omega))
                have z7 := hb.blk (unhide H7) (footBut_no (by intro q hq; simp at hq; subst hq; intro (e : g7 = w.heap.size); omega))
                have e50 : z.cell? ⟨g5, 0, none⟩ = some (.int .u32 f.o) := blk_cell (i := 0) z5
                have e70 : z.cell? ⟨g7, 0, none⟩ = some (.int .u32 s.o) := blk_cell (i := 0) z7
                have e51 : z.cell? ⟨g5, 1, none⟩ = some (.int .u64 f.c) := blk_cell (i := 1) z5
                have e71 : z.cell? ⟨g7, 1, none⟩ = some (.int .u64 s.c) := blk_cell (i := 1) z7
                have e52 : z.cell? ⟨g5, 2, none⟩ = some (.int .i64 f.a) := blk_cell (i := 2) z5
                have e72 : z.cell? ⟨g7, 2, none⟩ = some (.int .i64 s.a) := blk_cell (i := 2) z7
                have e53 : z.cell? ⟨g5, 3, none⟩ = some (.int .i64 f.b) := blk_cell (i := 3) z5
                have e73 : z.cell? ⟨g7, 3, none⟩ = some (.int .i64 s.b) := blk_cell (i := 3) z7
                have e54 : z.cell? ⟨g5, 4, none⟩ = some (.int .i64 f.d) := blk_cell (i := 4) z5
                have e74 : z.cell? ⟨g7, 4, none⟩ = some (.int .i64 s.d) := blk_cell (i := 4) z7
                clear z5 z7
                simp only [PlanFacts, List.getD_cons_zero, List.getD_cons_succ, Array.getD_eq_getD_getElem?] at hf
                try simp at hf
              iterate 5
                · clear hb
                  go_simp
                  exact ⟨_, rfl, Far.refl _ _, rfl⟩
              iterate 3
                · clear hb
                  have hg : a.tmps[47]? = some (.bool false) := tmpB (by first | exact hf | exact hf.2 | exact hf.2.2)
                  go_simp
                  try trivial
              · clear hb
                go_simp
                exact ⟨_, rfl, Far.refl _ _, rfl⟩
              · have z0 := hb.blk (unhide H0) (by
                  rintro ⟨q, hq, g1, g2, g3⟩
                  simp at hq
                  subst hq
                  exact g1 rfl)
                clear hb
                rw [if_pos (by rfl)]
                refine wp_store_row 217 (.tmp 2) (.tmp 43) rfl w.heap.size #[.int .u32 0, .int .u64 0, .int .i64 0, .int .i64 0, .int .i64 0] (by simp [Act.eval, hf]) (by simp [Act.eval, hf]) 217 _ z0 (by rw [size_head]; rfl) (by simp) (by rw [Array.all_eq_true_iff_forall_mem]; intro u hu; simp at hu; rcases hu with rfl | rfl | rfl <;> rfl) ?_
                exact ⟨_, rfl, footOf_of (.head _) (far_setRow _ _ _), setRow_heap _ _ _ _ _ _ z0⟩
              iterate 2
                · clear hb
                  go_simp
                  exact ⟨_, rfl, Far.refl _ _, rfl⟩
            · intro f' z hF hwd
              have h9 := hwd.2.2.2.2.2.2.2.2.2.1
              have h10 := hwd.2.2.2.2.2.2.2.2.2.2.1
              have h11 := hwd.2.2.2.2.2.2.2.2.2.2.2.1
              have q0 : z.cell? ⟨w.heap.size, 0, none⟩ = some (.int .u32 0) := blk_cell (i := 0) h9
              have q1 : z.cell? ⟨w.heap.size, 1, none⟩ = some (.int .u64 0) := blk_cell (i := 1) h9
              have q2 : z.cell? ⟨w.heap.size, 2, none⟩ = some (.int .i64 0) := blk_cell (i := 2) h9
              have q3 : z.cell? ⟨w.heap.size, 3, none⟩ = some (.int .i64 0) := blk_cell (i := 3) h9
              have q4 : z.cell? ⟨w.heap.size, 4, none⟩ = some (.int .i64 0) := blk_cell (i := 4) h9
              have HBZ := hide ((unhide HBY).trans (hF.below (unhide HBY).size (fun k hk h => by
                obtain ⟨q, hq, h⟩ := h
                simp at hq
                subst hq
                have h : k = w.heap.size := h
                omega)))
              clear hwd hF h9
              simp only [mergeT, h10, h11]
              generalize f' 43 = x43
              generalize f' 44 = x44
              generalize f' 45 = x45
              generalize f' 46 = x46
              generalize f' 47 = x47
              generalize f' 48 = x48
              generalize f' 49 = x49
              generalize f' 50 = x50
              generalize f' 51 = x51
              go_simp
              go_wp2
              refine bodyPost_ret (v := .tuple #[.agg #[.int .u32 0, .int .u64 0, .int .i64 0, .int .i64 0, .int .i64 0], .int .i64 0, .bool false]) (by simp [results, Tryz.results146, go_sem, q0, q1, q2, q3, q4]) rfl ?_
              exact nhOut_no (unhide HNN) Mod.hd0 0 (unhide HBZ)
end Go.Proofs.YtamafdcnbcoegaaGreat
namespace Go.Proofs.YtamafdcnbcoegaaGreat
open Go.RowKit

theorem readRecord_any (S : List UInt8) (hS : S.length = 64) (last : Nat) (w : World) : Calls Tryz.prog 197 #[.agg (bv S).toArray, .int .u32 last] w fun r w' =>
    ∃ h : Mod.Rc, r = .returned (.tuple #[rcVal h, .bool (Mod.recOk S last)]) ∧ (Mod.recOk S last = true → h = Mod.recIs S) ∧ Below w.heap.size w w' := by
  by_cases hne : S = zeros
  · subst hne
    refine (readRecord_zero w last).mono ?_
    rintro r y ⟨rfl, hb⟩
    have h1 : Mod.recOk zeros last = true := by unfold Mod.recOk; rw [nought_zeros]; simp
    refine ⟨Mod.rc0, (by rw [h1]; rfl), fun _ => ?_, hb⟩
    unfold Mod.recIs
    rw [nought_zeros, if_pos rfl]
  · refine (readRecord_some S hS hne last w).mono ?_
    rintro r y ⟨h, rfl, h2, hb⟩
    refine ⟨h, rfl, fun hk => ?_, hb⟩
    rw [h2 hk]
    unfold Mod.recIs
    rw [nought_zeros, if_neg hne]
/-- Records, as cells. -/
def rcRow : List Mod.Rc → List Value
  | [] => []
  | r :: l => .int .i64 r.s :: .int .i64 r.q :: .string r.b :: rcRow l
theorem length_rcRow : ∀ l, (rcRow l).length = l.length * 3
  | [] => rfl
  | r :: l => by simp [rcRow, length_rcRow l]; omega
theorem rcRow_app : ∀ (l k : List Mod.Rc), rcRow (l ++ k) = rcRow l ++ rcRow k
  | [], k => rfl
  | r :: l, k => by simp [rcRow, rcRow_app l k]
theorem rcRow_get : ∀ (l : List Mod.Rc) (j : Nat) (r : Mod.Rc), l[j]? = some r → (rcRow l)[j * 3]? = some (.int .i64 r.s) ∧ (rcRow l)[j * 3 + 1]? = some (.int .i64 r.q) ∧ (rcRow l)[j * 3 + 2]? = some (.string r.b)
  | [], j, r, h => by simp at h
  | x :: l, 0, r, h => by
    simp at h
    subst h
    exact ⟨rfl, rfl, rfl⟩
  | x :: l, j + 1, r, h => by
    have := rcRow_get l j r (by simpa using h)
    rw [show (j + 1) * 3 = j * 3 + 1 + 1 + 1 by omega, show j * 3 + 1 + 1 + 1 + 1 = j * 3 + 1 + 1 + 1 + 1 from rfl]
    exact this
def recsTo (L : List UInt8) (k : Nat) : List Mod.Rc := (List.range k).map fun x => Mod.recIs (Mod.sec L (2 + x))
theorem recsTo_succ (L : List UInt8) (k : Nat) : recsTo L (k + 1) = recsTo L k ++ [Mod.recIs (Mod.sec L (2 + k))] := by
  simp [recsTo, List.range_succ]
theorem recsFrom_all {L : List UInt8} {last : Nat} : ∀ (n x : Nat), (∀ y, x ≤ y → y < x + n → Mod.recOk (Mod.sec L (2 + y)) last = true) → Mod.recsFrom L last x n = some ((List.range n).map fun j => Mod.recIs (Mod.sec L (2 + (x + j))))
  | 0, _, _ => rfl
  | n + 1, x, h => by
    have ih := recsFrom_all n (x + 1) (fun y hy hy2 => h y (by omega) (by omega))
    rw [Mod.recsFrom, if_pos (h x (Nat.le_refl _) (by omega)), ih, List.range_succ_eq_map]
    simp
    intro a _
    rw [Nat.add_assoc, Nat.add_comm 1 a]
theorem recsFrom_to {L : List UInt8} {last n : Nat} (h : ∀ y, y < n → Mod.recOk (Mod.sec L (2 + y)) last = true) : Mod.recsFrom L last 0 n = some (recsTo L n) := by
  have := recsFrom_all (L := L) (last := last) n 0 (fun y _ hy => h y (by omega))
  simpa [recsTo] using this
theorem recsFrom_bad {L : List UInt8} {last n y : Nat} (hy : y < n) (h : Mod.recOk (Mod.sec L (2 + y)) last = false) : Mod.recsFrom L last 0 n = none := by
  cases hr : Mod.recsFrom L last 0 n with
  | none => rfl
  | some rs =>
    have := ((Mod.recsFrom_some n 0 hr).2 y hy).1
    rw [Nat.zero_add, h] at this
    cases this

set_option maxRecDepth 100000 in
set_option maxHeartbeats 1000000 in
theorem readRecords_any (w : World) (v : Value) (L : List UInt8) (m : Nat) (last : Nat) (hat : BytesAt w v L) (hL : L.length = m * 64) (hm1 : 2 ≤ m) (hm2 : m ≤ 150) :
    Calls Tryz.prog 147 #[v, .int .u32 last] w fun r w' => ∃ rv, r = .returned (.tuple #[rv, .bool (Mod.recsFrom L last 0 (m - 2)).isSome]) ∧ (∀ rs, Mod.recsFrom L last 0 (m - 2) = some rs → w'.ownsRow w.heap.size 155 3 rv (m - 2) (rcRow rs)) ∧ Below w.heap.size w w' := by
  obtain ⟨i0, hi, hz0, hz1, hz2⟩ := info_parts2 info_rec
  have hS := fun (k : Nat) (hk : 64 * k + 64 ≤ L.length) y (hb : Below w.heap.size w y) => hide (sectorAt_any y v L k (hat.below hb) hk (by omega))
  have hsl := fun (k : Nat) (hk : k * 64 + 64 ≤ L.length) => Mod.length_sec hk
  obtain ⟨ad, cap, rfl, hc1, hc2, hc3⟩ := hat
  clear hc3
  have hq : (((m * 64 : Nat) : Int)).tdiv 64 = (m : Int) := by rw [Int.natCast_mul]; exact Int.mul_tdiv_cancel _ (by omega)
  obtain ⟨n, hn⟩ : ∃ n, n = m * 64 := ⟨_, rfl⟩
  rw [hL] at hc1 hc2 hS hsl ⊢
  rw [← hn] at hq hS hsl hc1 hc2 ⊢
  have hjm : ∀ j, j < m → 64 * j + 64 ≤ n := by intro j hj; omega
  clear hn hL
  go_enter Tryz.func147, Tryz.ntmps147
  go_wp2
  go_loopw [6, 7, 8, 9] (fun v6 i _ _ wr => ∃ j : Nat, 2 ≤ j ∧ j ≤ m ∧ i = .int .i64 j ∧ wr.ownsRow w.heap.size 155 3 v6 (j - 2) (rcRow (recsTo L (j - 2))) ∧ Below w.heap.size w wr ∧ ∀ y, y < j - 2 → Mod.recOk (Mod.sec L (2 + y)) last = true) (fun _ i _ _ _ => m - (intOf i).toNat)
  case atStart => exact ⟨2, by omega, by omega, rfl, World.ownsRow_nil _ _ _ _, Below.refl _ _, fun y hy => by omega⟩
  case round =>
    obtain ⟨j, hj1, hj2, rfl, ho, hb, hok⟩ := hrel
    by_cases hlt : j < m
    · have hSj := unhide (hS j (hjm j hlt) wr hb)
      have hRj := fun y => hide (readRecord_any (Mod.sec L j) (hsl j (by have := hjm j hlt; omega)) last y)
      have hsj : Mod.sec L j = (L.drop (j * 64)).take 64 := rfl
      rw [← hsj] at hSj
      have hj22 : 2 + (j - 2) = j := by omega
      have hrec : recsTo L (j - 2 + 1) = recsTo L (j - 2) ++ [Mod.recIs (Mod.sec L j)] := by rw [recsTo_succ, hj22]
      have hbad : Mod.recOk (Mod.sec L j) last = false → Mod.recsFrom L last 0 (m - 2) = none := fun h => recsFrom_bad (y := j - 2) (by omega) (by rw [hj22]; exact h)
      have hgood : Mod.recOk (Mod.sec L j) last = true → ∀ y, y < j + 1 - 2 → Mod.recOk (Mod.sec L (2 + y)) last = true := fun h y hy => by
        by_cases e : y < j - 2
        · exact hok y e
        · obtain rfl : y = j - 2 := by omega
          rw [hj22]; exact h
      clear hsj hj22 hok
      generalize Mod.recOk (Mod.sec L j) last = ok at *
      generalize Mod.recIs (Mod.sec L j) = R at *
      generalize Mod.sec L j = S at *
      obtain ⟨XS, hXS⟩ : ∃ XS, XS = rcRow (recsTo L (j - 2)) := ⟨_, rfl⟩
      have hXL : XS.length = (j - 2) * 3 := by rw [hXS, length_rcRow]; simp [recsTo]
      have hrecC : rcRow (recsTo L (j - 2 + 1)) = XS ++ [.int .i64 R.s, .int .i64 R.q, .string R.b] := by rw [hrec, rcRow_app, ← hXS]; rfl
      rw [← hXS] at ho
      clear hXS hrec
      have HO := hide ho
      have HSJ := hide hSj
      have HB := hide hb
      have hsz := hb.size
      have HLZ := hide hXL
      have HG := hide (And.intro hrecC (And.intro hbad hgood))
      clear ho hb hSj hS hsl hjm hXL hrecC hbad hgood
      have HI := hide (And.intro hi (And.intro hz0 (And.intro hz1 hz2)))
      clear hi hz0 hz1 hz2
      go_upto_region 6 with (first
        | (go_at_call 195; refine (unhide HSJ).mono ?_; rintro r y ⟨rfl, hb1⟩)
        | (go_at_call 197; refine (unhide (hRj _)).mono ?_; rintro r y2 ⟨R1, rfl, hR1, hb2⟩; unfold rcVal))
      have hb12 : Below wr.heap.size wr y2 := hb1.trans (hb2.mono hb1.size)
      have HR1 := hide hR1
      obtain ⟨g8, hg8⟩ : ∃ g, g = y2.heap.size := ⟨_, rfl⟩
      rw [← hg8]
      refine wp_world (fun x => x.heap[g8]? = some (.cells #[.int .i64 R1.s, .int .i64 R1.q, .string R1.b] 155 (0, 0)) ∧ Below wr.heap.size wr x) ?_ ?_
      · exact ⟨by rw [hg8]; exact heap_alloc_new _ _, hb12.alloc hb12.size _⟩
      clear hb1 hb2 hb12 hg8 hRj hR1
      rintro x ⟨h8, hbx⟩
      have e0 : x.cell? ⟨g8, 0, none⟩ = some (.int .i64 R1.s) := blk_cell (i := 0) h8
      have e1 : x.cell? ⟨g8, 1, none⟩ = some (.int .i64 R1.q) := blk_cell (i := 1) h8
      have e2 : x.cell? ⟨g8, 2, none⟩ = some (.string R1.b) := blk_cell (i := 2) h8
      have hOx := ownsRow_keepB (w' := x) (unhide HO) (fun g hg => hbx.block g (World.ownsRow.lt (unhide HO) g hg).2)
      have hbw : Below w.heap.size w x := (unhide HB).trans (hbx.mono hsz)
      have HOX := hide hOx
      have HBX := hide hbw
      have hszx := hbw.size
      clear h8 hbx hOx hbw HO HB
      cases ok with
      | false =>
        have hnone := (unhide HG).2.1 rfl
        clear HG HOX HI HLZ HSJ
        go_wp2
        go_ret2
        refine ⟨.slice none 0 0, by rw [hnone]; rfl, fun rs h => ?_, unhide HBX⟩
        rw [hnone] at h
        cases h
      | true =>
        obtain rfl : R1 = R := (unhide HR1) (by trivial)
        go_upto_region 4 with (at_builtin; obtain ⟨hi, hz0, hz1, hz2⟩ := unhide HI; refine wpList_append_own _ rfl (.tmp 27) (.tmp 29) 185 rfl w.heap.size 155 i0 _ 3 32 Tryz.underlying185 hi hz0 hz1 hz2 rfl (by decide) u6 (j - 2) XS rfl ((unhide HOX).alloc _) ⟨x.heap.size, 0, none⟩ 1 1 [.int .i64 R1.s, .int .i64 R1.q, .string R1.b] rfl rfl cells_new (by intro u hu; simp at hu; rcases hu with rfl | rfl | rfl <;> rfl) (by unfold maxLen; omega) (by omega) (by simp; omega) ?_; intro v' w1 hown' hgrow _; have hb3 : Below w.heap.size x w1 := ((Below.refl _ x).alloc hszx _).trans (below_grown_new (B := w.heap.size) hgrow (by simp; omega) (fun g' hg' => (World.ownsRow.lt (unhide HOX) g' hg').1)); replace hown' := hide hown'; replace hb3 := hide hb3; clear hgrow hi hz0 hz1 hz2; go_simp)
        have hw : IntKind.i64.wrap ((j : Int) + 1) = (j : Int) + 1 := by rw [IntKind.wrap_i64]; omega
        go_wp2
        refine ⟨⟨j + 1, by omega, by omega, by go_num, ?_, (unhide HBX).trans (unhide hb3), (unhide HG).2.2 (by trivial)⟩, ?_⟩
        · have e : j + 1 - 2 = (j - 2) + 1 := by omega
          rw [e, (unhide HG).1]
          exact unhide hown'
        · simp [intOf]
          omega
    · have e : j = m := by omega
      subst e
      have HF := hide (recsFrom_to hok)
      clear hok
      go_wp2
      go_ret2
      refine ⟨_, by rw [unhide HF]; rfl, fun rs h => ?_, hb⟩
      rw [unhide HF] at h
      cases h
      exact ho
end Go.Proofs.YtamafdcnbcoegaaGreat
namespace Go.Proofs.YtamafdcnbcoegaaGreat
open Go.RowKit

/-- A store before its first write. -/
def NewSt2 (o h : Nat) (B : Nat) (L : List UInt8) (s : Nat) (w : World) : Prop := ∃ p, NewDk B L p w ∧ B ≤ s ∧ w.heap[s]? = some (.cells #[ptrTo p, .int .u32 o, .int .u64 0, .int .i64 h] 203 (0, 0))
theorem newSt2_below {o h B : Nat} {L : List UInt8} {s : Nat} {w x : World} (H : NewSt2 o h B L s w) (hb : Below w.heap.size w x) : NewSt2 o h B L s x := H.imp fun _ h => ⟨newDk_below h.1 hb, h.2.1, (hb.block _ (lt_of_block h.2.2)).trans h.2.2⟩

set_option maxRecDepth 100000 in
set_option maxHeartbeats 4000000 in
theorem storeOpen_yes (w : World) (v : Value) (L : List UInt8) (m : Nat) (hat : BytesAt w v L) (hL : L.length = m * 64) (hm1 : 2 ≤ m) (hm2 : m ≤ 150) {h : Mod.Hd} {at' : Nat} {rs : List Mod.Rc} (ho : Mod.openSt L = some (h, at', rs)) :
    Calls Tryz.prog 102 #[v] w fun r w' => ∃ s dp lv uv rv, r = .returned (.tuple #[ptrTo s, .agg #[.int .i64 h.a, .int .i64 h.b, .int .i64 h.d, rv], .int .i64 0]) ∧
      StAt w' s dp ((⟨h.o + 1, 0, at', ⟨L, 0, false⟩⟩ : Mod.Stv).putNumbers h.a h.b h.d).2 lv uv ∧ (∀ k, StU s dp lv uv k → w.heap.size ≤ k) ∧ w'.ownsRow w.heap.size 155 3 rv (m - 2) (rcRow rs) ∧ Below w.heap.size w w' := by
  obtain ⟨hne, hrf⟩ := Mod.openSt_some ho
  obtain ⟨hat1, hok, hhd, _⟩ := Mod.newest_some hne
  have hsm := Mod.headIs_small hok
  rw [← hhd] at hsm
  rw [show L.length / 64 = m by omega] at hrf
  have hH := hide (fun y (hb : Below w.heap.size w y) => newestHead_any y v L (hat.below hb) (by omega) (by omega))
  have hR := hide (fun y (hb : Below w.heap.size w y) => readRecords_any y v L m h.o (hat.below hb) hL hm1 hm2)
  rw [hrf] at hR
  have HNE := hide hne
  have HAT := hide hat1
  obtain ⟨so, sc, sa, sb, sd⟩ := hsm
  have hLl : 128 ≤ L.length ∧ L.length ≤ 10000 := by omega
  have hD := hide (fun y (hb : Below w.heap.size w y) => diskNew_any y v L (hat.below hb) hLl.1 hLl.2)
  clear hat hL ho hne hrf hhd hok sc hat1
  have w1 : IntKind.u32.wrap ((h.o : Int) + 1) = ((h.o + 1 : Nat) : Int) := by rw [IntKind.wrap_u32]; omega
  unfold ptrTo
  go_enter Tryz.func102, Tryz.ntmps102
  go_upto_region 2 with (go_at_call 146; refine ((unhide hH) _ ((Below.refl _ _).alloc (Nat.le_refl _) _)).mono ?_; rintro r y ⟨h2, k2, rfl, hhk, hb1⟩; obtain ⟨e1, e2⟩ := hhk _ _ (unhide HNE); rw [unhide HNE]; subst e1; subst e2; clear hhk; unfold hdVal)
  have hz1 := hb1.size
  simp only [World.size_alloc] at hz1
  have hb0 : Below w.heap.size w y := ((Below.refl _ _).alloc (Nat.le_refl _) _).trans (hb1.mono (by simp))
  have hy0 := (hb1.block w.heap.size (by simp)).trans (heap_alloc_new w _)
  obtain ⟨g5, hg5⟩ : ∃ g, g = y.heap.size := ⟨_, rfl⟩
  rw [← hg5]
  refine wp_world (fun x => x.heap[w.heap.size]? = some (.cells #[.int .i64 0, .int .i64 0, .int .i64 0, .slice none 0 0] 187 (0, 0)) ∧ x.heap[g5]? = some (.cells #[.int .u32 h2.o, .int .u64 h2.c, .int .i64 h2.a, .int .i64 h2.b, .int .i64 h2.d] 217 (0, 0)) ∧ Below w.heap.size w x) ?_ ?_
  · exact ⟨(hao _ _ (by omega)).trans hy0, by rw [hg5]; exact heap_alloc_new _ _, hb0.alloc (by omega) _⟩
  have hg5w : w.heap.size < g5 := by omega
  clear hy0 hb0 hz1 hb1 hg5 hH
  rintro x ⟨h0, h5, hB⟩
  have e0 : x.cell? ⟨g5, 0, none⟩ = some (.int .u32 h2.o) := blk_cell (i := 0) h5
  have H0 := hide h0
  have H5 := hide h5
  have HB := hide hB
  have hzx := lt_of_block h5
  clear h0 h5 hB
  go_upto_region 7 with (go_at_call 147; refine ((unhide hR) _ (unhide HB)).mono ?_; rintro r y2 ⟨rv, rfl, hrv, hb2⟩; replace hrv := hrv _ rfl)
  have hrv := ownsRow_monoB hrv (B' := w.heap.size) (by omega)
  have hbw : Below w.heap.size w y2 := (unhide HB).trans (hb2.mono (by omega))
  have y0 := (hb2.block _ (by omega)).trans (unhide H0)
  have y5 := (hb2.block _ (by omega)).trans (unhide H5)
  obtain ⟨ra, rc, rfl, _⟩ := (RowO.of_own (ownsRow_monoB hrv (Nat.zero_le _))).shape
  have HRV := hide hrv
  have HBW := hide hbw
  have Y0 := hide y0
  have Y5 := hide y5
  have hzy := hbw.size
  have hg5y := lt_of_block y5
  clear hrv hbw y0 y5 hb2 HB H0 H5 hR e0 hzx
  refine wp_region_foot (by kernel_rfl)
    [fun u _ => u = v, fun u z => ∃ p, u = .pointer (some ⟨p, 0, none⟩) ∧ NewDk w.heap.size L p z, fun u _ => u = .pointer (some ⟨g5, 0, none⟩), fun u _ => u = .pointer (some ⟨g5, 0, none⟩), fun u _ => u = .int .u32 h2.o, fun u _ => u = .int .u32 (h2.o + 1 : Nat), fun u _ => u = .agg #[.int .u32 (h2.o + 1 : Nat), .int .u64 0], fun u _ => u = .int .i64 k2,
     fun u z => ∃ p, u = .agg #[.pointer (some ⟨p, 0, none⟩), .int .u32 (h2.o + 1 : Nat), .int .u64 0, .int .i64 k2] ∧ NewDk w.heap.size L p z, fun u z => ∃ s, u = .pointer (some ⟨s, 0, none⟩) ∧ NewSt2 (h2.o + 1) k2 w.heap.size L s z, fun u z => ∃ s, u = .pointer (some ⟨s, 0, none⟩) ∧ NewSt2 (h2.o + 1) k2 w.heap.size L s z]
    [[(0, none)], [(30, some 0)], [(5, none)], [(32, some 2)], [(33, some 3)], [(34, some 4)], [(35, some 5)], [(6, none)], [(31, some 1), (36, some 6), (37, some 7)], [(38, some 8)], [(39, some 9)]] [some 30, some 31, some 32, some 33, some 34, some 35, some 36, some 37, some 38, some 39, some 9] [false, false, false, false, false, false, false, false, false, true, false, false, false, false, false, false, false, false, false, false, false, false, false, false, false, false, false, false, false, false, true, true, true, true, true, true, true, true, true, true, false, false, false, false, false, false, false, false, false]
    []
    (by kernel_rfl) (by kernel_rfl) (by kernel_rfl) (by kernel_rfl) (by kernel_rfl) ?_ ?_ ?_ ?_
  · repeat' (first | exact stable_eq _ | exact (fun _ _ _ h hb => h.imp fun _ h => ⟨h.1, newDk_below h.2 hb⟩) | exact (fun _ _ _ h hb => h.imp fun _ h => ⟨h.1, newSt2_below h.2 hb⟩) | exact trivial | apply And.intro)
  · exact trivial
  · refine ⟨?_, ?_, ?_, ?_, ?_, ?_, ?_, ?_, ?_, ?_, ?_, trivial⟩
    all_goals
      intro a z hb hf
      have z5 := hb.blk (unhide Y5) (footBut_no (by intro q hq; cases hq))
      have hbz : Below w.heap.size w z := (unhide HBW).trans ((hb.below (B := y2.heap.size) (Nat.le_refl _) (fun j _ h => by
        obtain ⟨q, hq, _⟩ := h
        cases hq)).mono hzy)
      have e0 : z.cell? ⟨g5, 0, none⟩ = some (.int .u32 h2.o) := blk_cell (i := 0) z5
      have HBZ := hide hbz
      clear z5 hb hbz
      simp only [PlanFacts, List.getD_cons_zero, List.getD_cons_succ, Array.getD_eq_getD_getElem?] at hf
      try simp at hf
    · go_simp
      exact ⟨_, rfl, Far.refl _ _, rfl⟩
    · have HC := hide ((unhide hD) z (unhide HBZ))
      have hzz := (unhide HBZ).size
      unfold ptrTo at HC
      go_simp
      refine (unhide HC).mono ?_
      rintro r z2 ⟨p, lv, rfl, k1, k2, k3⟩
      exact ⟨_, rfl, far_below k2, p, rfl, lv, k1, fun k hk => Nat.le_trans hzz (k3 k hk)⟩
    iterate 6
      · go_simp
        exact ⟨_, rfl, Far.refl _ _, rfl⟩
    · obtain ⟨⟨p, hp, hn⟩, hf⟩ := hf
      have HN := hide hn
      clear hn
      go_simp
      exact ⟨_, rfl, Far.refl _ _, p, rfl, unhide HN⟩
    · obtain ⟨p, hp, hn⟩ := hf
      have HN := hide hn
      have hzz := (unhide HBZ).size
      clear hn
      go_simp
      refine ⟨_, rfl, far_below ((Below.refl _ _).alloc (Nat.le_refl _) _), _, rfl, p, newDk_below (unhide HN) ((Below.refl _ _).alloc (Nat.le_refl _) _), hzz, heap_alloc_new _ _⟩
    · obtain ⟨s, hs, hn⟩ := hf
      have HN := hide hn
      clear hn
      go_simp
      exact ⟨_, rfl, Far.refl _ _, s, rfl, unhide HN⟩
  · intro f z hF hwd
    obtain ⟨s, hs9, dp, ⟨lv, hdk, hnew⟩, hsB, hsb⟩ := hwd.2.2.2.2.2.2.2.2.2.2.1
    have hbz : Below y2.heap.size y2 z := hF.below (Nat.le_refl _) (fun j _ h => by
      obtain ⟨q, hq, _⟩ := h
      cases hq)
    have ST : StAt z s dp ⟨h2.o + 1, 0, k2, ⟨L, 0, false⟩⟩ lv (.slice none 0 0) := ⟨hsb, hdk, by show h2.o + 1 < _; omega, by simp, unhide HAT⟩
    have hnewS : ∀ k, StU s dp lv (.slice none 0 0) k → w.heap.size ≤ k := by
      rintro k (rfl | hk)
      · exact hsB
      · exact hnew k hk
    have z0 := (hbz.block _ (by omega)).trans (unhide Y0)
    have z5 := (hbz.block _ hg5y).trans (unhide Y5)
    have e2 : z.cell? ⟨g5, 2, none⟩ = some (.int .i64 h2.a) := blk_cell (i := 2) z5
    have e3 : z.cell? ⟨g5, 3, none⟩ = some (.int .i64 h2.b) := blk_cell (i := 3) z5
    have e4 : z.cell? ⟨g5, 4, none⟩ = some (.int .i64 h2.d) := blk_cell (i := 4) z5
    have HW := hide (writeNumbers_any z s dp _ lv _ ST h2.a h2.b h2.d (by omega) (by omega) (by omega))
    have hrz := ownsRow_keepB (w' := z) (unhide HRV) (fun g hg => hbz.block g (World.ownsRow.lt (unhide HRV) g hg).2)
    have HRZ := hide hrz
    have HBZ := hide ((unhide HBW).trans (hbz.mono hzy))
    have Z0 := hide z0
    have Z5 := hide z5
    have hSn : ¬ StU s dp lv (.slice none 0 0) w.heap.size := by
      rintro (h | h)
      · rw [← h, z0] at hsb
        cases hsb
      · exact dk_ne hdk z0 (by decide) (by decide) (by decide) h
    have hS5 : ¬ StU s dp lv (.slice none 0 0) g5 := by
      rintro (h | h)
      · rw [← h, z5] at hsb
        cases hsb
      · exact dk_ne hdk z5 (by decide) (by decide) (by decide) h
    have hSr : ∀ g, (Value.slice ra (m - 2) rc).ownBlock = some g → ¬ StU s dp lv (.slice none 0 0) g := by
      rintro g hg (h | h | h | h)
      · exact (RowO.of_own (ownsRow_monoB hrz (Nat.zero_le _))).ne hsb (by decide) (by rw [hg, h])
      · exact (RowO.of_own (ownsRow_monoB hrz (Nat.zero_le _))).ne hdk.blk (by decide) (by rw [hg, h])
      · exact (RowO.of_own (ownsRow_monoB hrz (Nat.zero_le _))).ty (RowO.of_own hdk.row) (by decide) hg h
      · cases h
    have hzz := hbz.size
    clear hwd hF hbz z0 z5 hdk hsb hrz HRV HBW Y0 Y5 hD ST
    simp only [mergeT, hs9]
    generalize f 30 = x30
    generalize f 31 = x31
    generalize f 32 = x32
    generalize f 33 = x33
    generalize f 34 = x34
    generalize f 35 = x35
    generalize f 36 = x36
    generalize f 37 = x37
    generalize f 38 = x38
    generalize f 39 = x39
    go_simp
    unfold ptrTo at HW
    go_upto_region 9 with (go_at_call 149; refine (unhide HW).mono ?_; rintro r z2 ⟨rfl, uv, k1, k2, k3⟩; replace k1 := hide k1; replace k2 := hide k2; replace k3 := hide k3)
    have K3 := unhide k3
    have z0 := K3.blk (unhide Z0) hSn
    have z5 := K3.blk (unhide Z5) hS5
    have hr2 := ownsRow_keepB (w' := z2) (unhide HRZ) (fun g hg => K3.rest g (World.ownsRow.lt (unhide HRZ) g hg).2 (hSr g hg))
    have hbz2 : Below w.heap.size w z2 := (unhide HBZ).trans (K3.below (by omega) (fun k hk h => by have := hnewS k h; omega))
    have HR2 := hide hr2
    have HB2 := hide hbz2
    have Z0' := hide z0
    have Z5' := hide z5
    have hz2 := hbz2.size
    have hz2g := lt_of_block z5
    have hzn := lt_of_block z0
    clear K3 z0 z5 hr2 hbz2 HRZ HBZ Z0 Z5 e2 e3 e4 HW
    refine wp_region_foot (by kernel_rfl)
      [fun u _ => u = .pointer (some ⟨s, 0, none⟩), fun u _ => u = .pointer (some ⟨g5, 2, none⟩), fun u _ => u = .agg #[.int .i64 h2.a, .int .i64 h2.b, .int .i64 h2.d], fun u _ => u = .slice ra (m - 2) rc, fun u _ => u = .agg #[.int .i64 h2.a, .int .i64 h2.b, .int .i64 h2.d, .slice ra (m - 2) rc], fun u _ => u = .pointer (some ⟨s, 0, none⟩),
       fun _ q => q.heap[w.heap.size]? = some (.cells #[.int .i64 h2.a, .int .i64 h2.b, .int .i64 h2.d, .slice ra (m - 2) rc] 187 (0, 0)), fun u _ => u = .int .i64 0]
      [[(9, none)], [(5, none)], [(45, some 1)], [(8, none)], [(46, some 2), (47, some 3)], [(44, some 0)], [(3, none), (48, some 4)], []] [some 44, some 45, some 46, some 47, some 48, some 2, none, some 4] [false, false, true, false, true, false, false, false, false, false, false, false, false, false, false, false, false, false, false, false, false, false, false, false, false, false, false, false, false, false, false, false, false, false, false, false, false, false, false, false, false, false, false, false, true, true, true, true, true]
      [(6, fun k => k = w.heap.size)]
      (by kernel_rfl) (by kernel_rfl) (by kernel_rfl) (by kernel_rfl) (by kernel_rfl) ?_ ?_ ?_ ?_
    · repeat' (first | exact stable_eq _ | exact stable_blk _ _ | exact trivial | apply And.intro)
    · repeat' (first | exact trivial | exact .inl rfl | exact .inr (.inr (stableF_eq _ _)) | apply And.intro)
    · refine ⟨?_, ?_, ?_, ?_, ?_, ?_, ?_, ?_, trivial⟩
      all_goals
        intro a q hb hf
        have q5 := hb.blk (unhide Z5') (footBut_no (by intro p hp; simp at hp; subst hp; intro (e : g5 = w.heap.size); omega))
        have e2 : q.cell? ⟨g5, 2, none⟩ = some (.int .i64 h2.a) := blk_cell (i := 2) q5
        have e3 : q.cell? ⟨g5, 3, none⟩ = some (.int .i64 h2.b) := blk_cell (i := 3) q5
        have e4 : q.cell? ⟨g5, 4, none⟩ = some (.int .i64 h2.d) := blk_cell (i := 4) q5
        clear q5
        simp only [PlanFacts, List.getD_cons_zero, List.getD_cons_succ, Array.getD_eq_getD_getElem?] at hf
        try simp at hf
      iterate 6
        · clear hb
          go_simp
          exact ⟨_, rfl, Far.refl _ _, rfl⟩
      · have q0 := hb.blk (unhide Z0') (by
          rintro ⟨p, hp, g1, g2, g3⟩
          simp at hp
          subst hp
          exact g1 rfl)
        clear hb
        rw [if_pos (by rfl)]
        refine wp_store_row 187 (.tmp 3) (.tmp 48) rfl w.heap.size #[.int .i64 h2.a, .int .i64 h2.b, .int .i64 h2.d, .slice ra (m - 2) rc] (by simp [Act.eval, hf]) (by simp [Act.eval, hf]) 187 _ q0 (by rw [size_contents]; rfl) (by simp) (by rw [Array.all_eq_true_iff_forall_mem]; intro u hu; simp at hu; rcases hu with rfl | rfl | rfl | rfl <;> rfl) ?_
        exact ⟨_, rfl, footOf_of (.head _) (far_setRow _ _ _), setRow_heap _ _ _ _ _ _ q0⟩
      · clear hb
        go_simp
        exact ⟨_, rfl, Far.refl _ _, rfl⟩
    · intro f q hF hwd
      have hv2 := hwd.2.2.2.2.2.1
      have h6 := hwd.2.2.2.2.2.2.1
      have h7 := hwd.2.2.2.2.2.2.2.1
      have q0 : q.cell? ⟨w.heap.size, 0, none⟩ = some (.int .i64 h2.a) := blk_cell (i := 0) h6
      have q1 : q.cell? ⟨w.heap.size, 1, none⟩ = some (.int .i64 h2.b) := blk_cell (i := 1) h6
      have q2 : q.cell? ⟨w.heap.size, 2, none⟩ = some (.int .i64 h2.d) := blk_cell (i := 2) h6
      have q3 : q.cell? ⟨w.heap.size, 3, none⟩ = some (.slice ra (m - 2) rc) := blk_cell (i := 3) h6
      have hF : Far (fun k => k = w.heap.size) z2 q := hF.mono (fun k _ h => by
        obtain ⟨p, hp, h⟩ := h
        simp at hp
        subst hp
        exact h)
      have HF := hide hF
      clear hwd hF h6
      simp only [mergeT, hv2, h7]
      generalize f 44 = x44
      generalize f 45 = x45
      generalize f 46 = x46
      generalize f 47 = x47
      generalize f 48 = x48
      go_simp
      go_wp2
      refine bodyPost_ret (v := .tuple #[.pointer (some ⟨s, 0, none⟩), .agg #[.int .i64 h2.a, .int .i64 h2.b, .int .i64 h2.d, .slice ra (m - 2) rc], .int .i64 0]) (by simp [results, Tryz.results102, go_sem, q0, q1, q2, q3]) rfl ?_
      have hF := unhide HF
      have K2 := unhide k2
      have hnu : ∀ k, StU s dp lv uv k → w.heap.size ≤ k := by
        rintro k (h | h | h | h)
        · exact hnewS k (.inl h)
        · exact hnewS k (.inr (.inl h))
        · exact hnewS k (.inr (.inr (.inl h)))
        · rcases K2 with k2 | k2 | ⟨g, k2, k5⟩
          · rw [k2] at h; cases h
          · rw [k2] at h; cases h
          · rw [k2] at h; cases h; omega
      have hne : ¬ StU s dp lv uv w.heap.size := by
        rintro (h | h | h | h)
        · exact hSn (.inl h)
        · exact hSn (.inr (.inl h))
        · exact hSn (.inr (.inr (.inl h)))
        · exact (unhide k1).dk.un.ne (unhide Z0') (by decide) h
      exact ⟨s, dp, lv, uv, _, rfl, (unhide k1).far hF (fun k hk e => hne (by rw [← e]; exact hk)), hnu, ownsRow_keepB (unhide HR2) (fun g hg => hF.rest g (World.ownsRow.lt (unhide HR2) g hg).2 (fun e => (RowO.of_own (ownsRow_monoB (unhide HR2) (Nat.zero_le _))).ne (unhide Z0') (by decide) (by rw [hg, e]))), (unhide HB2).trans (hF.below (by omega) (fun k hk e => by omega))⟩
end Go.Proofs.YtamafdcnbcoegaaGreat
namespace Go.Proofs.YtamafdcnbcoegaaGreat
open Go.RowKit

section
variable {w x y : World} {p : Nat} {g g2 : Nat → Nat} {tk tk2 : Nat} {wel wel2 fen fen2 : Bool} {free free2 : List Nat} {sh sh2 : Nat → List (Nat × Value)} {arr : Array Value} {s : Nat} {nv mv : Nat → Value} {fv rv : Value}
theorem ka_sh (H : KaAt w p g tk wel fen free sh arr s nv mv fv rv) {i : Nat} (hi : i < 9) {l' : List (Nat × Value)} (h : ShStep w x p (4 + i * 2) 151 arr (nv i) (mv i) l') :
    ∃ arr' nv' mv', KaAt x p g tk wel fen free (fun t => if t = i then l' else sh t) arr' s nv' mv' fv rv ∧ (∀ k, KaU p nv' mv' fv k → KaU p nv mv fv k ∨ w.heap.size ≤ k) ∧ Far (fun k => k = p ∨ ShU (nv i) (mv i) k) w x := by
  obtain ⟨⟨nv', mv', S, hn, hm⟩, hF⟩ := h
  have hsz := H.sz
  have hget : ∀ j, j ≠ 4 + i * 2 → j ≠ 4 + i * 2 + 1 → ((arr.setIfInBounds (4 + i * 2) nv').setIfInBounds (4 + i * 2 + 1) mv')[j]? = arr[j]? := fun j h1 h2 => by
    rw [Array.getElem?_setIfInBounds_ne (by omega), Array.getElem?_setIfInBounds_ne (by omega)]
  have hnew : ∀ k, ShU nv' mv' k → ShU (nv i) (mv i) k ∨ w.heap.size ≤ k := by
    rintro k (hk | hk)
    · rcases hn with h | h | ⟨g, h, hg⟩
      · rw [h] at hk; cases hk
      · exact .inl (.inl (by rw [← h]; exact hk))
      · rw [h] at hk; cases hk; exact .inr hg
    · rcases hm with h | ⟨g, h, hg⟩
      · exact .inl (.inr (by rw [← h]; exact hk))
      · rw [h] at hk; cases hk; exact .inr hg
  have hfvp : fv.ownBlock ≠ some p := H.fr.ne H.blk (by decide)
  refine ⟨(arr.setIfInBounds (4 + i * 2) nv').setIfInBounds (4 + i * 2 + 1) mv', fun t => if t = i then nv' else nv t, fun t => if t = i then mv' else mv t,
    ⟨S.blk, by simpa using hsz, ?_, ?_, ?_, ?_, ?_, ?_, ?_, ?_, ?_, ?_, ?_, ?_, ?_⟩, ?_, hF⟩
  · rw [hget _ (by omega) (by omega)]; exact H.a0
  · intro j hj; rw [hget _ (by omega) (by omega)]; exact H.ag j hj
  · intro j hj
    show _ = some (if j = i then nv' else nv j)
    by_cases e : j = i
    · subst e; rw [if_pos rfl]; exact S.c0
    · rw [if_neg e, hget _ (by omega) (by omega)]; exact H.an j hj
  · intro j hj
    show _ = some (if j = i then mv' else mv j)
    by_cases e : j = i
    · subst e; rw [if_pos rfl]; exact S.c1
    · rw [if_neg e, hget _ (by omega) (by omega)]; exact H.am j hj
  · rw [hget _ (by omega) (by omega)]; exact H.af
  · rw [hget _ (by omega) (by omega)]; exact H.at'
  · rw [hget _ (by omega) (by omega)]; exact H.aw
  · rw [hget _ (by omega) (by omega)]; exact H.ae
  · rw [hget _ (by omega) (by omega)]; exact H.ar
  · exact H.fr.far hF (fun g hg h => h.elim (fun h => hfvp (by rw [hg, h])) (fun h => H.apf i hi g h hg))
  · intro j hj
    show ShelfIs x (if j = i then nv' else nv j) (if j = i then mv' else mv j) (if j = i then l' else sh j)
    by_cases e : j = i
    · rw [if_pos e, if_pos e, if_pos e]; exact S.sh
    · rw [if_neg e, if_neg e, if_neg e]
      refine (H.shs j hj).far hF (fun k hk h => ?_)
      rcases h with h | h
      · exact (H.shs j hj).ne H.blk (by decide) (by rw [← h]; exact hk)
      · exact H.aps j i hj hi e k hk h
  · intro j hj b hb
    replace hb : ShU (if j = i then nv' else nv j) (if j = i then mv' else mv j) b := hb
    by_cases e : j = i
    · rw [if_pos e, if_pos e] at hb
      rcases hnew b hb with h | h
      · exact H.apf i hi b h
      · intro hf
        have := H.fr.lt b hf
        omega
    · rw [if_neg e, if_neg e] at hb
      exact H.apf j hj b hb
  · intro j j2 hj hj2 hne k hk
    replace hk : ShU (if j = i then nv' else nv j) (if j = i then mv' else mv j) k := hk
    show ¬ ShU (if j2 = i then nv' else nv j2) (if j2 = i then mv' else mv j2) k
    by_cases h1 : j = i
    · subst h1
      rw [if_pos rfl, if_pos rfl] at hk
      rw [if_neg (fun e => hne e.symm), if_neg (fun e => hne e.symm)]
      intro hk2
      rcases hnew k hk with h | h
      · exact H.aps j j2 hj hj2 hne k h hk2
      · have := (H.shs j2 hj2).lt k hk2; omega
    · rw [if_neg h1, if_neg h1] at hk
      by_cases h2 : j2 = i
      · subst h2
        rw [if_pos rfl, if_pos rfl]
        intro hk2
        rcases hnew k hk2 with h | h
        · exact H.aps j j2 hj hj2 hne k hk h
        · have := (H.shs j hj).lt k hk; omega
      · rw [if_neg h2, if_neg h2]
        exact H.aps j j2 hj hj2 hne k hk
  · rintro k (rfl | hk | ⟨j, hj, hk⟩)
    · exact .inl (.inl rfl)
    · exact .inl (.inr (.inl hk))
    · have hk : ShU (if j = i then nv' else nv j) (if j = i then mv' else mv j) k := hk
      by_cases e : j = i
      · rw [if_pos e, if_pos e] at hk
        exact (hnew k hk).elim (fun h => .inl (.inr (.inr ⟨i, hi, h⟩))) .inr
      · rw [if_neg e, if_neg e] at hk
        exact .inl (.inr (.inr ⟨j, hj, hk⟩))
theorem ka_free (H : KaAt w p g tk wel fen free sh arr s nv mv fv rv) (v : Value) (hF : Far (fun k => fv.ownBlock = some k) w x) (hv : RowO x 3 1 v free2.length (numCells free2)) (hl : Loc w fv v) :
    ∃ arr', KaAt (x.setCell ⟨p, 22, none⟩ v) p g tk wel fen free2 sh arr' s nv mv v rv ∧ (∀ k, KaU p nv mv v k → KaU p nv mv fv k ∨ w.heap.size ≤ k) ∧ Far (fun k => k = p ∨ fv.ownBlock = some k) w (x.setCell ⟨p, 22, none⟩ v) := by
  have hs := far_set x p 22 v
  have hget : ∀ j, j ≠ 22 → (arr.setIfInBounds 22 v)[j]? = arr[j]? := fun j hj => Array.getElem?_setIfInBounds_ne (fun e => hj e.symm)
  have h22 : 22 < arr.size := by rw [H.sz]; omega
  have hfvp : fv.ownBlock ≠ some p := H.fr.ne H.blk (by decide)
  have hbx := hF.blk H.blk hfvp
  have hvp : v.ownBlock ≠ some p := hv.ne hbx (by decide)
  have hF2 : Far (fun k => k = p ∨ fv.ownBlock = some k) w (x.setCell ⟨p, 22, none⟩ v) := (hF.mono (fun _ _ h => .inr h)).trans hs (fun _ _ h => .inl h)
  refine ⟨arr.setIfInBounds 22 v, ⟨blk_set hbx, by simpa using H.sz, ?_, ?_, ?_, ?_, ?_, ?_, ?_, ?_, ?_, ?_, ?_, ?_, H.aps⟩, ?_, hF2⟩
  · rw [hget _ (by omega)]; exact H.a0
  · intro j hj; rw [hget _ (by omega)]; exact H.ag j hj
  · intro j hj; rw [hget _ (by omega)]; exact H.an j hj
  · intro j hj; rw [hget _ (by omega)]; exact H.am j hj
  · simp [h22]
  · rw [hget _ (by omega)]; exact H.at'
  · rw [hget _ (by omega)]; exact H.aw
  · rw [hget _ (by omega)]; exact H.ae
  · rw [hget _ (by omega)]; exact H.ar
  · exact hv.far hs (fun g hg e => hvp (by rw [hg, e]))
  · intro j hj
    refine (H.shs j hj).far hF2 (fun k hk e => ?_)
    rcases e with rfl | e
    · exact (H.shs j hj).ne H.blk (by decide) hk
    · exact H.apf j hj k hk e
  · intro j hj b hb hvb
    rcases hl with h | h | ⟨g', h, hg'⟩
    · rw [h] at hvb; cases hvb
    · rw [h] at hvb; exact H.apf j hj b hb hvb
    · rw [h] at hvb; cases hvb
      have := (H.shs j hj).lt b hb
      omega
  · rintro k (rfl | hk | hk)
    · exact .inl (.inl rfl)
    · rcases hl with h | h | ⟨g', h, hg'⟩
      · rw [h] at hk; cases hk
      · exact .inl (.inr (.inl (by rw [← h]; exact hk)))
      · rw [h] at hk; cases hk; exact .inr hg'
    · exact .inl (.inr (.inr hk))
end
/-- A record that is kept, as it lies on a shelf. -/
def toV (e : Mod.Pe) : Nat × Value := (e.1, recA e.2.1 e.2.2)
theorem keptL_toV : ∀ (b : Nat) (k : List (ByteArray × Nat)) (p : List Nat), keptL b k p = (Mod.keptP b k p).map toV
  | _, [], _ => by simp [keptL, Mod.keptP]
  | _, _ :: _, [] => by simp [keptL, Mod.keptP]
  | b, x :: r, q :: qs => by
    rw [keptL_cons, Mod.keptP, List.map_cons, keptL_toV (b + 1) r qs]
    rfl
theorem putL_toV (e : Mod.Pe) : ∀ l : List Mod.Pe, putL (l.map toV) e.1 (recA e.2.1 e.2.2) = (Mod.insP l e).map toV
  | [] => rfl
  | y :: r => by
    rw [List.map_cons, putL, Mod.insP]
    have h1 : (toV y).1 = y.1 := rfl
    rw [h1]
    rcases Nat.lt_trichotomy e.1 y.1 with c | c | c
    · have c1 : ¬ e.1 = y.1 := by omega
      simp [c, c1, toV]
    · have c2 : ¬ e.1 < y.1 := by omega
      simp [c, toV]
    · have c1 : ¬ e.1 = y.1 := by omega
      have c2 : ¬ e.1 < y.1 := by omega
      simp [c1, c2, putL_toV e r]
theorem keys_toV (l : List Mod.Pe) : (l.map toV).map (·.1) = l.map (·.1) := by
  rw [List.map_map]; rfl
theorem areA_toV (l : List Mod.Pe) : AreA (l.map toV) := fun x hx => by
  obtain ⟨e, _, rfl⟩ := List.mem_map.1 hx
  exact ⟨e.2.1, e.2.2, rfl⟩
/-- The nine shelves of an agent that was just loaded. -/
def shOf (l : Mod.Ld) (k : Nat) : List (Nat × Value) := if k % 3 = 0 then (l.sh (k / 3)).map toV else []
theorem shOf_kept (l : Mod.Ld) (i : Nat) : shOf l (i * 3) = (l.sh i).map toV := by
  unfold shOf
  rw [if_pos (by omega), show i * 3 / 3 = i by omega]
theorem shOf_put (l : Mod.Ld) (i : Nat) (l' : List Mod.Pe) : (fun t => if t = i * 3 then l'.map toV else shOf l t) = shOf { l with sh := fun j => if j = i then l' else l.sh j } := by
  funext t
  unfold shOf
  by_cases h : t = i * 3
  · subst h
    rw [if_pos rfl, if_pos (by omega), show i * 3 / 3 = i by omega]
    simp
  · rw [if_neg h]
    by_cases h2 : t % 3 = 0
    · rw [if_pos h2, if_pos h2]
      have : ¬ t / 3 = i := by omega
      simp [this]
    · rw [if_neg h2, if_neg h2]
end Go.Proofs.YtamafdcnbcoegaaGreat
namespace Go.Proofs.YtamafdcnbcoegaaGreat
open Go.RowKit

namespace Mod
theorem insP_length (e : Pe) : ∀ l : List Pe, (insP l e).length ≤ l.length + 1
  | [] => by simp [insP]
  | y :: r => by
    have := insP_length e r
    unfold insP
    split
    · simp
    · split
      · simp
      · simp; omega
theorem ldAll_app (g : Nat → Nat) : ∀ (rs qs : List Rc) (x : Nat) (l : Ld), ldAll g (rs ++ qs) x l = match ldAll g rs x l with
    | none => none
    | some l' => ldAll g qs (x + rs.length) l'
  | [], qs, x, l => by simp [ldAll]
  | r :: rs, qs, x, l => by
    rw [List.cons_append, ldAll, ldAll, List.length_cons, show x + (rs.length + 1) = x + 1 + rs.length by omega]
    cases ldStep g x r l with
    | none => rfl
    | some l' => exact ldAll_app g rs qs (x + 1) l'
theorem ldAll_step {g : Nat → Nat} {rs : List Rc} {j : Nat} {r : Rc} {l : Ld} (hr : rs[j]? = some r) (h : ldAll g (rs.take j) 0 ld0 = some l) : ldAll g (rs.take (j + 1)) 0 ld0 = ldStep g j r l := by
  obtain ⟨hj, e⟩ := List.getElem?_eq_some_iff.1 hr
  rw [List.take_succ_eq_append_getElem hj, e, ldAll_app, h]
  simp only [List.length_take]
  rw [show 0 + min j rs.length = j by omega]
  unfold ldAll
  cases ldStep g j r l with
  | none => rfl
  | some l' => rfl
theorem ldAll_bad {g : Nat → Nat} {rs : List Rc} {j : Nat} (h : ldAll g (rs.take j) 0 ld0 = none) : ldAll g rs 0 ld0 = none := by
  have := ldAll_app g (rs.take j) (rs.drop j) 0 ld0
  rw [List.take_append_drop, h] at this
  exact this
theorem ldStep_len {g : Nat → Nat} {x : Nat} {r : Rc} {l l' : Ld} (h : ldStep g x r l = some l') : l'.free.length ≤ l.free.length + 1 ∧ ∀ i, (l'.sh i).length ≤ (l.sh i).length + 1 := by
  unfold ldStep at h
  split at h
  · cases h
    exact ⟨by simp, fun i => Nat.le_succ _⟩
  · split at h
    · cases h
    · cases h
      refine ⟨by simp, fun i => ?_⟩
      simp only
      split
      · rename_i e
        have := insP_length (r.q, r.b, x) (l.sh r.s)
        rw [e]
        exact this
      · omega
theorem ldAll_len {g : Nat → Nat} : ∀ (rs : List Rc) (x : Nat) (l l' : Ld), ldAll g rs x l = some l' → l'.free.length ≤ l.free.length + rs.length ∧ ∀ i, (l'.sh i).length ≤ (l.sh i).length + rs.length
  | [], _, l, l', h => by cases h; exact ⟨by simp, fun i => by simp⟩
  | r :: rs, x, l, l', h => by
    unfold ldAll at h
    cases hs : ldStep g x r l with
    | none => rw [hs] at h; cases h
    | some l1 =>
      rw [hs] at h
      obtain ⟨a1, a2⟩ := ldStep_len hs
      obtain ⟨b1, b2⟩ := ldAll_len rs (x + 1) l1 l' h
      refine ⟨by simp; omega, fun i => ?_⟩
      have := a2 i
      have := b2 i
      simp
      omega
theorem insP_mem {e y : Pe} : ∀ {l : List Pe}, y ∈ insP l e → y = e ∨ y ∈ l
  | [], h => by simp [insP] at h; exact .inl h
  | z :: r, h => by
    unfold insP at h
    split at h
    · cases h with
      | head => exact .inl rfl
      | tail _ h => exact .inr (.tail _ h)
    · split at h
      · cases h with
        | head => exact .inl rfl
        | tail _ h => exact .inr h
      · cases h with
        | head => exact .inr (.head _)
        | tail _ h => exact (insP_mem h).imp id (fun h => .tail _ h)
/-- What every record on the shelves is. -/
theorem ldAll_inv {g : Nat → Nat} (R : Nat → Pe → Prop) : ∀ (rs : List Rc) (x : Nat) (l l' : Ld), ldAll g rs x l = some l' → (∀ i, ∀ e ∈ l.sh i, R i e) → (∀ j r, rs[j]? = some r → ¬ r.q ≤ g r.s → R r.s (r.q, r.b, x + j)) → ∀ i, ∀ e ∈ l'.sh i, R i e
  | [], _, l, l', h, h1, _ => by cases h; exact h1
  | r :: rs, x, l, l', h, h1, h2 => by
    unfold ldAll at h
    cases hs : ldStep g x r l with
    | none => rw [hs] at h; cases h
    | some l1 =>
      rw [hs] at h
      refine ldAll_inv R rs (x + 1) l1 l' h ?_ (fun j r' hj hq => by
        have := h2 (j + 1) r' (by simpa using hj) hq
        rw [show x + 1 + j = x + (j + 1) by omega]
        exact this)
      unfold ldStep at hs
      split at hs
      · cases hs; exact h1
      · rename_i hq
        split at hs
        · cases hs
        · cases hs
          intro i e he
          simp only at he
          split at he
          · rename_i hi
            subst hi
            rcases insP_mem he with rfl | he
            · exact h2 0 r rfl hq
            · exact h1 _ e he
          · exact h1 i e he
/-- What loading gives, checked. -/
def ldRes (g : Nat → Nat) (rs : List Rc) : Option Ld := match ldAll g rs 0 ld0 with
  | none => none
  | some l => if okP (l.sh 0) (g 0) = true ∧ okP (l.sh 1) (g 1) = true ∧ okP (l.sh 2) (g 2) = true then some l else none
end Mod
/-- An agent while its records are loaded. -/
def AgLd (w x : World) (p s : Nat) (g : Nat → Nat) (l : Mod.Ld) : Prop :=
  ∃ arr nv mv fv, KaAt x p g 0 false false l.free (shOf l) arr s nv mv fv (.slice none 0 0) ∧ Far (fun k => k = p) w x ∧ ∀ k, KaU p nv mv fv k → k = p ∨ w.heap.size ≤ k
theorem AgLd.below {w x y : World} {p s : Nat} {g : Nat → Nat} {l : Mod.Ld} (h : AgLd w x p s g l) (hb : Below x.heap.size x y) : AgLd w y p s g l := by
  obtain ⟨arr, nv, mv, fv, h1, h2, h3⟩ := h
  exact ⟨arr, nv, mv, fv, h1.far (far_below (E := fun _ => False) hb) (fun _ _ h => h), h2.trans (far_below (E := fun _ => False) hb) (fun _ _ h => h.elim), h3⟩
set_option maxHeartbeats 1000000 in
/-- The last number of a stream. -/
theorem kaLast_any {w : World} {p s : Nat} {g : Nat → Nat} {l : Mod.Ld} {arr : Array Value} {nv mv : Nat → Value} {fv rv : Value} (K : KaAt w p g 0 false false l.free (shOf l) arr s nv mv fv rv) {i : Nat} (hi : i < 3) :
    Calls Tryz.prog 88 #[ptrTo p, .int .i64 i] w fun r w' => r = .returned (.int .i64 (Mod.lastP (l.sh i) (g i) : Nat)) ∧ ∃ n, w' = w.drewN n := by
  have hL := lastA_any K.blk (K.an (i * 3) (by omega)) (K.shs (i * 3) (by omega))
  rw [shOf_kept, show 4 + i * 3 * 2 = 4 + i * 6 by omega] at hL
  obtain ⟨m, fb, hm, hL⟩ : ∃ (m : Nat) (fb : Bool), max m (g i) = Mod.lastP (l.sh i) (g i) ∧ Calls Tryz.prog 129 #[.pointer (some ⟨p, 4 + i * 6, none⟩)] w fun e w' => e = .returned (.tuple #[.int .i64 m, .bool fb]) ∧ ∃ n, w' = w.drewN n := by
    unfold Mod.lastP
    rw [List.getLast?_map] at hL
    cases hq : (l.sh i).getLast? with
    | none => rw [hq] at hL; exact ⟨0, false, rfl, hL⟩
    | some x => rw [hq] at hL; exact ⟨x.1, true, rfl, hL⟩
  have cg : w.cell? ⟨p, 1 + i, none⟩ = some (.int .i64 (g i)) := by rw [blk_cell K.blk, K.ag i hi]
  obtain ⟨n, hn⟩ : ∃ n, n = Mod.lastP (l.sh i) (g i) := ⟨_, rfl⟩
  rw [← hn] at hm ⊢
  obtain ⟨b, hb⟩ : ∃ b, b = g i := ⟨_, rfl⟩
  rw [← hb] at hm cg
  have hmI : max (m : Int) (b : Int) = (n : Int) := by omega
  have HL := hide hL
  have hi0 : (0 : Int) ≤ (i : Int) := by omega
  have hi3 : (i : Int) < 3 := by omega
  clear K hL hn hb hm
  unfold ptrTo
  go_enter Tryz.func88, Tryz.ntmps88
  go_wp2_with (go_at_call 129; refine (unhide HL).mono ?_; rintro r y ⟨rfl, q, rfl⟩)
  go_ret
  exact ⟨by first | rfl | simp [hmI], q, rfl⟩
end Go.Proofs.YtamafdcnbcoegaaGreat
namespace Go.Proofs.YtamafdcnbcoegaaGreat
open Go.RowKit

theorem agLd_new {w : World} {p s : Nat} {g : Nat → Nat} {arr : Array Value} (hb : w.heap[p]? = some (.cells arr 151 (0, 0))) (ha : arr = (((newAg s (.slice none 0 0) (.slice none 0 0)).setIfInBounds 1 (.int .i64 (g 0))).setIfInBounds 2 (.int .i64 (g 1))).setIfInBounds 3 (.int .i64 (g 2))) : AgLd w w p s g Mod.ld0 := by
  have hsz : arr.size = 27 := by rw [ha]; rfl
  have hz : ∀ k, shOf Mod.ld0 k = [] := fun k => by
    unfold shOf Mod.ld0
    split <;> rfl
  have hg : ∀ j, j ≠ 1 → j ≠ 2 → j ≠ 3 → arr[j]? = (newAg s (.slice none 0 0) (.slice none 0 0))[j]? := fun j h1 h2 h3 => by
    rw [ha, Array.getElem?_setIfInBounds_ne (fun e => h3 e.symm), Array.getElem?_setIfInBounds_ne (fun e => h2 e.symm), Array.getElem?_setIfInBounds_ne (fun e => h1 e.symm)]
  refine ⟨arr, fun _ => .slice none 0 0, fun _ => .map none, .slice none 0 0, ⟨hb, hsz, ?_, fun i hi => ?_, fun k hk => ?_, fun k hk => ?_, ?_, ?_, ?_, ?_, ?_, rowO_nil _ _ _, fun k hk => by rw [hz]; exact shelfIs_nil _, fun k hk j hj => ?_, fun j k _ _ _ b hb => ?_⟩, Far.refl _ _, ?_⟩
  · rw [hg _ (by omega) (by omega) (by omega)]; rfl
  · obtain rfl | rfl | rfl : i = 0 ∨ i = 1 ∨ i = 2 := by omega
    all_goals
      rw [ha]
      rfl
  · rw [hg _ (by omega) (by omega) (by omega)]; exact ((newAg_get s _ _).2 k hk).1
  · rw [hg _ (by omega) (by omega) (by omega)]; exact ((newAg_get s _ _).2 k hk).2
  · rw [hg _ (by omega) (by omega) (by omega)]; rfl
  · rw [hg _ (by omega) (by omega) (by omega)]; rfl
  · rw [hg _ (by omega) (by omega) (by omega)]; rfl
  · rw [hg _ (by omega) (by omega) (by omega)]; rfl
  · rw [hg _ (by omega) (by omega) (by omega)]; rfl
  · rcases hj with h | h <;> cases h
  · rcases hb with h | h <;> cases h
  · rintro k (h | h | ⟨i, _, h⟩)
    · exact .inl h
    · cases h
    · rcases h with h | h <;> cases h

set_option maxRecDepth 100000 in
set_option maxHeartbeats 8000000 in
theorem agLoad_any {w : World} {p s g cap m : Nat} {G : Nat → Nat} {rs : List Mod.Rc} (hp : AgLd w w p s G Mod.ld0) (hrow : w.ownsRow 0 155 3 (.slice (some ⟨g, 0, none⟩) m cap) m (rcRow rs)) (hml : rs.length = m) (hm : m ≤ 24)
    (hrs : ∀ r ∈ rs, r = Mod.rc0 ∨ r.fits) (hG : ∀ i, i < 3 → G i ≤ 2147483647) :
    Calls Tryz.prog 103 #[ptrTo p, .slice (some ⟨g, 0, none⟩) m cap] w fun r w' => r = .returned (.bool (Mod.ldRes G rs).isSome) ∧ Far (fun k => k = p) w w' ∧ ∀ l, Mod.ldRes G rs = some l → AgLd w w' p s G l := by
  have hpb : ∃ arr, w.heap[p]? = some (.cells arr 151 (0, 0)) := by obtain ⟨arr, _, _, _, K, _⟩ := hp; exact ⟨arr, K.blk⟩
  obtain ⟨arr0, hpb⟩ := hpb
  have hgp : 0 < m → g ≠ p := fun _ e => by
    have := (RowO.of_own hrow).ne hpb (by decide)
    exact this (by rw [e]; rfl)
  have hc : ∀ j r, rs[j]? = some r → w.cell? ⟨g, j * 3, none⟩ = some (.int .i64 r.s) ∧ w.cell? ⟨g, j * 3 + 1, none⟩ = some (.int .i64 r.q) ∧ w.cell? ⟨g, j * 3 + 2, none⟩ = some (.string r.b) := by
    intro j r hj
    have hjm := (List.getElem?_eq_some_iff.1 hj).1
    obtain ⟨ad, cap', e, _, _, hcl⟩ := (RowO.of_own hrow).shape
    obtain ⟨g', o', e2, hcl⟩ := hcl (by omega)
    rw [e2] at e
    injection e with e
    injection e with e
    injection e with e e'
    subst e e'
    have hlen := length_rcRow rs
    have := rcRow_get rs j r hj
    refine ⟨?_, ?_, ?_⟩
    · have h := hcl (j * 3) (by omega); rw [Nat.zero_add] at h; rw [h]; exact this.1
    · have h := hcl (j * 3 + 1) (by omega); rw [Nat.zero_add] at h; rw [h]; exact this.2.1
    · have h := hcl (j * 3 + 2) (by omega); rw [Nat.zero_add] at h; rw [h]; exact this.2.2
  have HC := hide hc
  have HGP := hide hgp
  have hpl := lt_of_block hpb
  have HP := hide hp
  have HRS := hide hrs
  have HML := hide hml
  have HGM := hide hG
  clear hrow hc hgp hp hrs hml hG hpb
  unfold ptrTo
  go_enter Tryz.func103, Tryz.ntmps103
  go_wp2
  go_loopw [5, 6, 7, 12] (fun _ _ _ i wr => ∃ j : Nat, j ≤ m ∧ i = .int .i64 j ∧ ∃ l, Mod.ldAll G (rs.take j) 0 Mod.ld0 = some l ∧ AgLd w wr p s G l) (fun _ _ _ i _ => m - (intOf i).toNat)
  case atStart => exact ⟨0, by omega, rfl, _, rfl, unhide HP⟩
  case round =>
    obtain ⟨j, hj, rfl, l, hsk, hL⟩ := hrel
    clear HP
    by_cases hlt : j < m
    · obtain ⟨r, hr⟩ : ∃ r, rs[j]? = some r := ⟨_, List.getElem?_eq_getElem (by have := unhide HML; omega)⟩
      obtain ⟨e0, e1, e2⟩ := (unhide HC) j r hr
      have hst := Mod.ldAll_step hr hsk
      have hll := Mod.ldAll_len _ _ _ _ hsk
      have hrf := (unhide HRS) r (List.mem_of_getElem? hr)
      have hs3 : r.s < 3 := by
        rcases hrf with h | h
        · rw [h]; show 0 < 3; omega
        · exact h.1
      have hgl : g < w.heap.size := World.block_lt_of_cell? _ _ e0
      have hbk : wr.heap[g]? = w.heap[g]? := by obtain ⟨_, _, _, _, _, hF, _⟩ := hL; exact hF.rest g hgl ((unhide HGP) (by omega))
      have y0 := (World.cell?_of_block (w := w) hbk : wr.cell? ⟨g, j * 3, none⟩ = _).trans e0
      have y1 := (World.cell?_of_block (w := w) hbk : wr.cell? ⟨g, j * 3 + 1, none⟩ = _).trans e1
      have y2 := (World.cell?_of_block (w := w) hbk : wr.cell? ⟨g, j * 3 + 2, none⟩ = _).trans e2
      have hlen1 : l.free.length ≤ 24 := by have := hll.1; simp [Mod.ld0] at this; omega
      have hlen2 : (l.sh r.s).length ≤ 24 := by have := hll.2 r.s; simp [Mod.ld0] at this; omega
      have HL := hide hL
      have HST := hide hst
      have HRF := hide hrf
      clear hbk e0 e1 e2 hL hsk hst hr hll hrf
      obtain ⟨g6, hg6⟩ : ∃ g6, g6 = wr.heap.size := ⟨_, rfl⟩
      have hpw : p < wr.heap.size := by obtain ⟨_, _, _, _, K, _⟩ := unhide HL; exact lt_of_block K.blk
      have hg6p : g6 ≠ p := by omega
      go_upto_region 4 with fail
      rw [← hg6]
      refine wp_world (fun x => x.heap[g6]? = some (.cells #[.int .i64 r.s, .int .i64 r.q, .string r.b] 155 (0, 0)) ∧ AgLd w x p s G l) ?_ ?_
      · rw [hg6]
        exact ⟨heap_alloc_new _ _, (unhide HL).below ((Below.refl _ _).alloc (Nat.le_refl _) _)⟩
      clear y0 y1 y2 hg6 HL hpw
      rintro x ⟨h6, hLx⟩
      have r0 := blk_cell (i := 0) h6
      have r1 := blk_cell (i := 1) h6
      have r2 := blk_cell (i := 2) h6
      simp at r0 r1 r2
      have H6 := hide h6
      have HL := hide hLx
      obtain ⟨arr, nv, mv, fv, K, F, N⟩ := hLx
      have cg : x.cell? ⟨p, 1 + r.s, none⟩ = some (.int .i64 (G r.s)) := by rw [blk_cell K.blk, K.ag r.s hs3]
      have s0 : (0 : Int) ≤ (r.s : Int) := by omega
      have s3 : (r.s : Int) < 3 := by omega
      obtain ⟨gs, hgs⟩ : ∃ gs, gs = G r.s := ⟨_, rfl⟩
      rw [← hgs] at cg
      have HGS := hide hgs
      clear K F N h6 hgs
      by_cases hq : r.q ≤ gs
      · have hqi : (r.q : Int) ≤ (gs : Int) := by omega
        have hnx : Hid (Mod.ldAll G (rs.take (j + 1)) 0 Mod.ld0 = some { l with free := l.free ++ [j] }) := by
          show _ = _
          rw [unhide HST]
          unfold Mod.ldStep
          rw [if_pos (by rw [← unhide HGS]; exact hq)]
        clear HST hq
        go_quiet (fail)
        go_upto_region 5 with fail
        refine wp_world (fun y => AgLd w y p s G l) ((unhide HL).below (below_drewN (Below.refl _ _) _)) ?_
        clear r0 r1 r2 H6 HL cg hqi
        intro y hL
        obtain ⟨arr, nv, mv, fv, K, F, N⟩ := hL
        obtain ⟨m2, hm2⟩ : ∃ m2, m2 = l.free.length := ⟨_, rfl⟩
        obtain ⟨ad2, cap2, hfv, _⟩ := K.fr.shape
        have hrow2 := K.fr
        rw [← hm2] at hfv hrow2
        have hm24 : m2 ≤ 24 := by omega
        have d22 : y.cell? ⟨p, 22, none⟩ = some (.slice ad2 m2 cap2) := by rw [blk_cell K.blk, K.af, hfv]
        rw [hfv] at hrow2
        have hra := fun ob => hide (hrow2.keep (w' := y.alloc ob) (fun g hg => hao _ _ (hrow2.lt g hg)))
        have hup := K.fr.ne K.blk (by decide)
        have HAPP : ∀ ob v' w1, RowO w1 3 1 v' (m2 + 1) (numCells l.free ++ [.int .i64 j]) → App (y.alloc ob) w1 (.slice ad2 m2 cap2) v' → ∃ ad3 cap3, v' = .slice ad3 (m2 + 1) cap3 ∧ w1.frozen? ⟨p, 22, none⟩ = false ∧ w1.cell? ⟨p, 22, none⟩ = some (.slice ad2 m2 cap2) ∧
            Hid (AgLd w (w1.setCell ⟨p, 22, none⟩ v') p s G { l with free := l.free ++ [j] }) := by
          intro ob v' w1 h1 h2
          obtain ⟨ad3, cap3, hv3, _⟩ := h1.shape
          have hFz : Far (fun k => (Value.slice ad2 m2 cap2).ownBlock = some k) y w1 := (far_below (E := fun k => (Value.slice ad2 m2 cap2).ownBlock = some k) ((Below.refl _ _).alloc (Nat.le_refl _) ob)).trans (far_grown h2.grown) (fun _ _ h => h)
          rw [← hfv] at hFz
          have hpb := hFz.blk K.blk hup
          have hlc : Loc y fv v' := by rw [hfv]; exact loc_app (w := y) (by simp) h2
          have hl1 : (l.free ++ [j]).length = m2 + 1 := by rw [List.length_append, ← hm2]; rfl
          obtain ⟨arr', K', N', F'⟩ := ka_free (free2 := l.free ++ [j]) K v' hFz (by rw [hl1, show numCells (l.free ++ [j]) = numCells l.free ++ [.int .i64 j] by simp [numCells]]; exact h1) hlc
          refine ⟨ad3, cap3, hv3, blk_free (i := 22) hpb, ?_, hide ⟨arr', nv, mv, v', K', ?_, fun k hk => ?_⟩⟩
          · rw [blk_cell hpb, K.af, hfv]
          · refine F.trans F' (fun k hk h => ?_)
            rcases h with h | h
            · exact h
            · rcases N k (.inr (.inl h)) with h | h
              · exact h
              · omega
          · rcases N' k hk with h | h
            · exact N k h
            · exact .inr (Nat.le_trans F.size h)
        clear K F N hrow2 hfv hm2 hup
        go_upto_region 10 with (at_builtin; refine wpList_app_o rfl (.tmp 31) (.tmp 33) 26 rfl 3 _ 1 8 Tryz.underlying26 infoI rfl _ m2 (numCells l.free) (unhide (hra _)) rfl ⟨y.heap.size, 0, none⟩ 1 1 [.int .i64 j] rfl rfl cells_new (by intro u hu; simp at hu; subst hu; rfl) (by omega) (by omega) (by omega) ?_; intro v' w1 h1 h2; obtain ⟨ad3, cap3, rfl, zf, z1, HA⟩ := HAPP _ _ _ h1 h2; clear h1 h2; go_simp)
        go_wp2
        exact ⟨⟨j + 1, by omega, by go_num, _, unhide hnx, unhide HA⟩, by simp [intOf]; omega⟩
      · have hqi : ¬ (r.q : Int) ≤ (gs : Int) := by omega
        have hrfit : r.fits := by
          rcases unhide HRF with h | h
          · exfalso
            rw [h] at hq
            exact hq (Nat.zero_le _)
          · exact h
        have HFIT := hide hrfit
        have HQG : Hid (¬ r.q ≤ G r.s) := by rw [← unhide HGS]; exact hide hq
        clear hrfit hq HRF
        go_quiet (fail)
        go_upto_region 6 with fail
        go_quiet (fail)
        go_upto_region 7 with fail
        refine wp_world (fun y => y.heap[g6]? = some (.cells #[.int .i64 r.s, .int .i64 r.q, .string r.b] 155 (0, 0)) ∧ AgLd w y p s G l) ⟨unhide H6, (unhide HL).below (below_drewN (below_drewN (Below.refl _ _) _) _)⟩ ?_
        clear r0 r1 r2 H6 HL cg hqi
        rintro y ⟨h6, hL⟩
        have r1 := blk_cell (i := 1) h6
        simp at r1
        have H6 := hide h6
        have HL := hide hL
        obtain ⟨arr, nv, mv, fv, K, F, N⟩ := hL
        have hHas := hasA_any K.blk (K.am (r.s * 3) (by omega)) (K.shs (r.s * 3) (by omega)) (by rw [shOf_kept]; exact areA_toV _) (r.q : Int)
        rw [shOf_kept, look_isSome, keys_toV, show 4 + r.s * 3 * 2 = 4 + r.s * 6 by omega] at hHas
        obtain ⟨hb, hhb⟩ : ∃ hb, hb = ((l.sh r.s).map (·.1)).contains r.q := ⟨_, rfl⟩
        rw [← hhb] at hHas
        have HHS := hide hHas
        have HHB := hide hhb
        clear K F N h6 hHas hhb
        cases hb with
        | true =>
          have hbad : Hid (Mod.ldRes G rs = none) := by
            have h := unhide HST
            unfold Mod.ldStep at h
            rw [if_neg (unhide HQG), ← unhide HHB, if_pos rfl] at h
            show _ = _
            unfold Mod.ldRes
            rw [Mod.ldAll_bad h]
          have HF : Hid (Far (fun k => k = p) w y) := by obtain ⟨_, _, _, _, _, F, _⟩ := unhide HL; exact F
          clear HST HL
          go_wp2_with (go_at_call 150; refine (unhide HHS).mono ?_; rintro e y2 ⟨rfl, hb2⟩; replace hb2 := hide hb2)
          go_ret
          refine ⟨ret_b (by rw [unhide hbad]; rfl), (unhide HF).trans (far_below (E := fun _ => False) (unhide hb2)) (fun _ _ h => h.elim), fun l2 h => ?_⟩
          rw [unhide hbad] at h
          cases h
        | false =>
          have hnx : Hid (Mod.ldAll G (rs.take (j + 1)) 0 Mod.ld0 = some { l with sh := fun i => if i = r.s then Mod.insP (l.sh r.s) (r.q, r.b, j) else l.sh i }) := by
            show _ = _
            rw [unhide HST]
            unfold Mod.ldStep
            rw [if_neg (unhide HQG), ← unhide HHB, if_neg (by simp)]
          clear HST
          go_upto_region 9 with (go_at_call 150; refine (unhide HHS).mono ?_; rintro e y2 ⟨rfl, hb2⟩)
          refine wp_world (fun y => y.heap[g6]? = some (.cells #[.int .i64 r.s, .int .i64 r.q, .string r.b] 155 (0, 0)) ∧ AgLd w y p s G l) ⟨(hb2.block _ (lt_of_block (unhide H6))).trans (unhide H6), (unhide HL).below hb2⟩ ?_
          clear hb2 HHS H6 HL r1
          rintro z ⟨h6, hL⟩
          have r1 := blk_cell (i := 1) h6
          have r2 := blk_cell (i := 2) h6
          simp at r1 r2
          have HL := hide hL
          obtain ⟨arr, nv, mv, fv, K, F, N⟩ := hL
          have SA : ShAt z p (4 + r.s * 3 * 2) 151 arr (nv (r.s * 3)) (mv (r.s * 3)) ((l.sh r.s).map toV) := ⟨K.blk, K.an _ (by omega), K.am _ (by omega), by have := K.shs (r.s * 3) (by omega); rw [shOf_kept] at this; exact this, by decide⟩
          have hPut := putA_any SA (by simp; omega) r.q r.b j
          have hpt := putL_toV (r.q, r.b, j) (l.sh r.s)
          simp only at hpt
          rw [hpt] at hPut
          unfold recA at hPut
          rw [show 4 + r.s * 3 * 2 = 4 + r.s * 6 by omega] at hPut
          have hfin : ∀ z2, ShStep z z2 p (4 + r.s * 6) 151 arr (nv (r.s * 3)) (mv (r.s * 3)) ((Mod.insP (l.sh r.s) (r.q, r.b, j)).map toV) → AgLd w z2 p s G { l with sh := fun i => if i = r.s then Mod.insP (l.sh r.s) (r.q, r.b, j) else l.sh i } := by
            intro z2 hst
            rw [show 4 + r.s * 6 = 4 + r.s * 3 * 2 by omega] at hst
            obtain ⟨arr', nv', mv', K', N', F'⟩ := ka_sh K (by omega) hst
            refine ⟨arr', nv', mv', fv, ?_, ?_, fun k hk => ?_⟩
            · have := shOf_put l r.s (Mod.insP (l.sh r.s) (r.q, r.b, j))
              rw [this] at K'
              exact K'
            · refine F.trans F' (fun k hk h => ?_)
              rcases h with h | h
              · exact h
              · rcases N k (.inr (.inr ⟨r.s * 3, by omega, h⟩)) with h | h
                · exact h
                · omega
            · rcases N' k hk with h | h
              · exact N k h
              · exact .inr (Nat.le_trans F.size h)
          have HFIN := fun z2 h => hide (hfin z2 h)
          have HPUT := hide hPut
          clear K F N h6 SA hPut hpt hfin HL
          go_wp2_with (go_at_call 90; refine (unhide HPUT).mono ?_; rintro e z2 ⟨rfl, hst⟩; have HZ2 := HFIN z2 hst; clear hst)
          exact ⟨⟨j + 1, by omega, by go_num, _, unhide hnx, unhide HZ2⟩, by simp [intOf]; omega⟩
    · have hjm : j = m := by omega
      have hall : Mod.ldAll G rs 0 Mod.ld0 = some l := by
        rw [← hsk, List.take_of_length_le (by have := unhide HML; omega)]
      have hlen := Mod.ldAll_len _ _ _ _ hall
      have hnum : ∀ i, ∀ e ∈ l.sh i, e.1 ≤ 2147483647 := Mod.ldAll_inv (fun _ e => e.1 ≤ 2147483647) _ _ _ _ hall (fun i e he => by cases he) (fun k r hr _ => by
        rcases (unhide HRS) r (List.mem_of_getElem? hr) with h | h
        · rw [h]; exact Nat.zero_le _
        · exact h.2.2.1)
      have hls : ∀ t, t < 3 → (l.sh t).length ≤ 24 := fun t _ => by have := hlen.2 t; have := unhide HML; simp [Mod.ld0] at *; omega
      have hlast : ∀ t, t < 3 → Mod.lastP (l.sh t) (G t) ≤ 2147483647 := fun t ht => by
        have h1 := (unhide HGM) t ht
        unfold Mod.lastP
        cases hq : (l.sh t).getLast? with
        | none => simp only; omega
        | some e =>
          have := hnum t e (List.mem_of_getLast? hq)
          simp only
          omega
      have HALL := hide (And.intro hall (And.intro hls hlast))
      obtain ⟨W0, hW0⟩ : ∃ W0, W0 = wr := ⟨_, rfl⟩
      rw [← hW0] at hL
      have HW0 := hide hW0
      have HL := hide hL
      have hjn : ¬ (j : Int) < (m : Int) := by omega
      clear hW0 hL hall hls hlast hlen hnum hsk hjm hlt
      go_wp2
      go_loopw [8, 9, 57] (fun _ _ i wr2 => ∃ t : Nat, t ≤ 3 ∧ i = .int .i64 t ∧ Below W0.heap.size W0 wr2 ∧ ∀ k, k < t → Mod.okP (l.sh k) (G k) = true) (fun _ _ i _ => 3 - (intOf i).toNat)
      case atStart => exact ⟨0, by omega, rfl, by rw [unhide HW0]; exact Below.refl _ _, fun k hk => by omega⟩
      case round =>
        obtain ⟨t, ht, rfl, hb, hok⟩ := hrel
        by_cases ht3 : t < 3
        · have hLt := (unhide HL).below hb
          obtain ⟨arr, nv, mv, fv, K, F, N⟩ := hLt
          have HLA := hide (kaLast_any K ht3)
          have HB := hide hb
          have hlm := (unhide HALL).2.2 t ht3
          have hlt24 := (unhide HALL).2.1 t ht3
          have hgm := (unhide HGM) t ht3
          have ht0 : (0 : Int) ≤ (t : Int) := by omega
          have ht3' : (t : Int) < 3 := by omega
          obtain ⟨la, hla⟩ : ∃ la, la = Mod.lastP (l.sh t) (G t) := ⟨_, rfl⟩
          obtain ⟨ln, hln⟩ : ∃ ln, ln = (l.sh t).length := ⟨_, rfl⟩
          obtain ⟨gt, hgt⟩ : ∃ gt, gt = G t := ⟨_, rfl⟩
          have hokt : Mod.okP (l.sh t) (G t) = (decide (la ≤ 1073741824) && decide (la = gt + ln)) := by rw [hla, hln, hgt]; rfl
          rw [← hla] at HLA hlm
          rw [← hln] at hlt24
          rw [← hgt] at hgm
          have HOK := hide (And.intro hok hokt)
          have HLG := hide (And.intro hln hgt)
          clear K F N hb hla hln hgt hok hokt
          have hsumw : IntKind.i64.wrap ((gt : Int) + (ln : Int)) = (gt : Int) + (ln : Int) := by rw [IntKind.wrap_i64]; omega
          have hbad : Hid (Mod.okP (l.sh t) (G t) = false → Mod.ldRes G rs = none) := by
            refine hide (fun h => ?_)
            unfold Mod.ldRes
            rw [(unhide HALL).1]
            simp only
            rw [if_neg]
            rintro ⟨q0, q1, q2⟩
            obtain rfl | rfl | rfl : t = 0 ∨ t = 1 ∨ t = 2 := by omega
            · rw [h] at q0; cases q0
            · rw [h] at q1; cases q1
            · rw [h] at q2; cases q2
          unfold ptrTo at *
          go_upto_region 15 with (go_at_call 88; refine (unhide HLA).mono ?_; rintro r y ⟨rfl, q, rfl⟩)
          refine wp_world (fun x => Below W0.heap.size W0 x) ((unhide HB).trans (below_drewN (Below.refl _ _) _ |>.mono (unhide HB).size)) ?_
          clear HB HLA
          intro x hbx
          have hLx := (unhide HL).below hbx
          obtain ⟨arr, nv, mv, fv, K, F, N⟩ := hLx
          have HB := hide hbx
          have hLen : ∀ n, Calls Tryz.prog 143 #[.pointer (some ⟨p, 4 + t * 3 * 2, none⟩)] (x.drewN n) fun e w' => e = .returned (.int .i64 ((shOf l (t * 3)).length : Nat)) ∧ w' = x.drewN n := fun n => lenA_any (w := x.drewN n) K.blk (K.an (t * 3) (by omega)) ((K.shs (t * 3) (by omega)).far (far_drewN (fun _ => False) x n) (fun _ _ h => h))
          have hshl : (shOf l (t * 3)).length = ln := by rw [shOf_kept, List.length_map, (unhide HLG).1]
          rw [hshl, show 4 + t * 3 * 2 = 4 + t * 6 by omega] at hLen
          have HLen := fun n => hide (hLen n)
          have c1 : x.cell? ⟨p, 1 + t, none⟩ = some (.int .i64 gt) := by rw [blk_cell K.blk, K.ag t ht3, (unhide HLG).2]
          clear K F N hbx hLen hshl
          by_cases c2 : (1073741824 : Int) < (la : Int)
          · have hno := (unhide hbad) (by rw [(unhide HOK).2, decide_eq_false (show ¬ la ≤ 1073741824 by omega)]; rfl)
            have HNO := hide hno
            clear hno hbad HOK
            go_quiet (first | (go_at_call 143; exact Calls.quiet_of_same (unhide (HLen _))))
            go_wp2
            go_ret
            refine ⟨ret_b (by rw [unhide HNO]; rfl), ?_, fun l2 h => ?_⟩
            · obtain ⟨_, _, _, _, _, F, _⟩ := unhide HL
              exact F.trans (far_below (E := fun _ => False) ((unhide HB).trans (below_drewN (Below.refl _ _) _ |>.mono (unhide HB).size))) (fun _ _ h => h.elim)
            · rw [unhide HNO] at h
              cases h
          · by_cases c3 : (la : Int) = (gt : Int) + (ln : Int)
            · have c3' : ((la : Int) != (gt : Int) + (ln : Int)) = false := by simp [c3]
              have hyes : Hid (Mod.okP (l.sh t) (G t) = true) := by
                show _ = _
                rw [(unhide HOK).2, decide_eq_true (show la ≤ 1073741824 by omega), decide_eq_true (show la = gt + ln by omega)]
                rfl
              clear hbad c3
              go_quiet (first | (go_at_call 143; exact Calls.quiet_of_same (unhide (HLen _))))
              go_wp2
              refine ⟨⟨t + 1, by omega, by go_num, (unhide HB).trans (below_drewN (Below.refl _ _) _ |>.mono (unhide HB).size), fun k hk => ?_⟩, by simp [intOf]; omega⟩
              by_cases e : k = t
              · rw [e]; exact unhide hyes
              · exact (unhide HOK).1 k (by omega)
            · have c3' : ((la : Int) != (gt : Int) + (ln : Int)) = true := by simp; omega
              have hno := (unhide hbad) (by rw [(unhide HOK).2, decide_eq_false (show ¬ la = gt + ln by omega)]; simp)
              have HNO := hide hno
              clear hno hbad HOK c3
              go_quiet (first | (go_at_call 143; exact Calls.quiet_of_same (unhide (HLen _))))
              go_wp2
              go_ret
              refine ⟨ret_b (by rw [unhide HNO]; rfl), ?_, fun l2 h => ?_⟩
              · obtain ⟨_, _, _, _, _, F, _⟩ := unhide HL
                exact F.trans (far_below (E := fun _ => False) ((unhide HB).trans (below_drewN (Below.refl _ _) _ |>.mono (unhide HB).size))) (fun _ _ h => h.elim)
              · rw [unhide HNO] at h
                cases h
        · have e3 : t = 3 := by omega
          subst e3
          have hres : Mod.ldRes G rs = some l := by
            unfold Mod.ldRes
            rw [(unhide HALL).1]
            simp only
            rw [if_pos ⟨hok 0 (by omega), hok 1 (by omega), hok 2 (by omega)⟩]
          have HRES := hide hres
          have HLL := hide ((unhide HL).below hb)
          clear hres hok hb HL
          go_wp2
          go_ret
          refine ⟨ret_b (by rw [unhide HRES]; rfl), ?_, fun l2 h => ?_⟩
          · obtain ⟨_, _, _, _, _, F, _⟩ := unhide HLL
            exact F
          · rw [unhide HRES] at h
            cases h
            exact unhide HLL
end Go.Proofs.YtamafdcnbcoegaaGreat
