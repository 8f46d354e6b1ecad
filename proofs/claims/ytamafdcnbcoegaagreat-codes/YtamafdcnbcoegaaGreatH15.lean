/-
  Walks of courierlaw: UpTo over kinds 1 and 2, Codes.
-/
import Derived.Test.YtamafdcnbcoegaaGreatH14
namespace Go.Proofs.YtamafdcnbcoegaaGreat
open Go.RowKit

/-- A step lies in ten cells. -/
def OpAt (w : World) (b0 o : Nat) : Prop :=
  ∃ (kd nn i : Int) (s : ByteArray) (kp k e st q : Int) (b : ByteArray), s.size ≤ 140737488353980 ∧ b.size ≤ 9223372036854775807 ∧
    ∀ j, j < 10 → w.cell? ⟨b0, o + j, none⟩ = #[.int .i64 kd, .int .i64 nn, .int .i64 i, .string s, .int .u64 kp, .int .i64 k, .int .i64 e, .int .i64 st, .int .i64 q, .string b][j]?
theorem St.looks {B C : Nat} {w : World} {wb n : Nat} (h : St B C w wb n) :
    Calls Tryz.prog 49 #[ptrTo wb] w fun r w' => r = .returned (.bool true) ∧ St B C w' wb n ∧ Below w.heap.size w w' := by
  obtain ⟨hv, hs, hn, W, hu⟩ := id h
  refine (looks_any _ w wb _ _ hv hs W).mono ?_
  rintro r w' ⟨rfl, k, rfl⟩
  exact ⟨rfl, h.below (below_drewN (Below.refl _ _) _), below_drewN (Below.refl _ _) _⟩
theorem St.size {B C : Nat} {w : World} {wb n : Nat} (h : St B C w wb n) : St B w.heap.size w wb n := by
  obtain ⟨hv, hs, hn, W, hu⟩ := h
  exact ⟨hv, hs, hn, W, fun k hk => ⟨(hu k hk).1, hk.elim (fun e => e ▸ lt_of_block W.blk) (fun e => (World.ownsRow.lt W.row k e).2)⟩⟩

set_option maxRecDepth 100000 in
set_option maxHeartbeats 1000000 in
theorem upTo_any (ad : Option Addr) (len cap : Nat) (w : World) (z : len ≤ 2000000000000) (h : 0 < len → ∃ b0 off, ad = some ⟨b0, off, none⟩ ∧ b0 < w.heap.size ∧ ∀ i, i < len → OpAt w b0 (off + i * 10)) :
    Calls Tryz.prog 15 #[.slice ad len cap, .int .i64 1, .int .i64 2, .int .i64 1, .int .i64 2] w fun r w' => r = .returned (.int .i64 (-1)) ∧ Below w.heap.size w w' := by
  have HH := hide h
  have S0 := hide (st_new w)
  clear h
  have n1 : len ≤ 9223372036854775807 := by omega
  go_enter Tryz.func15, Tryz.ntmps15
  go_wp2
  go_loopw [12] (fun i wr => ∃ k n : Nat, k ≤ len ∧ i = .int .i64 k ∧ n ≤ 4 * k ∧ St w.heap.size wr.heap.size wr w.heap.size n ∧ Below w.heap.size w wr) (fun i _ => len - (intOf i).toNat)
  case atStart => exact ⟨0, 0, by omega, rfl, by omega, (unhide S0).size, (Below.refl _ _).alloc (Nat.le_refl _) _⟩
  case round =>
    obtain ⟨k, n, hk, rfl, hn, S, hb⟩ := hrel
    by_cases hlt : k < len
    · obtain ⟨b0, off, rfl, hb0, hops⟩ := (unhide HH) (by omega)
      obtain ⟨kd, nn, ii, s, kp, fk, fe, fst, fq, fb, zs, zb, hc⟩ := hops k hlt
      have c0 := (hb.cell (p := ⟨b0, off + k * 10 + 0, none⟩) hb0).trans (hc 0 (by omega))
      have c1 := (hb.cell (p := ⟨b0, off + k * 10 + 1, none⟩) hb0).trans (hc 1 (by omega))
      have c2 := (hb.cell (p := ⟨b0, off + k * 10 + 2, none⟩) hb0).trans (hc 2 (by omega))
      have c3 := (hb.cell (p := ⟨b0, off + k * 10 + 3, none⟩) hb0).trans (hc 3 (by omega))
      have c4 := (hb.cell (p := ⟨b0, off + k * 10 + 4, none⟩) hb0).trans (hc 4 (by omega))
      have c5 := (hb.cell (p := ⟨b0, off + k * 10 + 5, none⟩) hb0).trans (hc 5 (by omega))
      have c6 := (hb.cell (p := ⟨b0, off + k * 10 + 6, none⟩) hb0).trans (hc 6 (by omega))
      have c7 := (hb.cell (p := ⟨b0, off + k * 10 + 7, none⟩) hb0).trans (hc 7 (by omega))
      have c8 := (hb.cell (p := ⟨b0, off + k * 10 + 8, none⟩) hb0).trans (hc 8 (by omega))
      have c9 := (hb.cell (p := ⟨b0, off + k * 10 + 9, none⟩) hb0).trans (hc 9 (by omega))
      simp at c0 c1 c2 c3 c4 c5 c6 c7 c8 c9
      have SS := hide S
      have HB := hide hb
      have ZS := hide zs
      have ZB := hide zb
      clear hc hops hb0 S hb zs zb HH S0
      go_upto_region 6 with fail
      refine wp_world (fun x => St w.heap.size wr.heap.size x w.heap.size n ∧ Below w.heap.size w x ∧ wr.heap.size < x.heap.size ∧ x.heap[wr.heap.size]? = some (.cells #[.int .i64 kd, .int .i64 nn, .int .i64 ii, .string s, .int .u64 kp, .int .i64 fk, .int .i64 fe, .int .i64 fst, .int .i64 fq, .string fb] 86 (0, 0)))
        ⟨(unhide SS).below ((Below.refl _ _).alloc (Nat.le_refl _) _), (unhide HB).trans (((Below.refl _ _).alloc (Nat.le_refl _) _).mono (unhide HB).size), by simp, heap_alloc_new wr _⟩ ?_
      clear c0 c1 c2 c3 c4 c5 c6 c7 c8 c9 SS HB
      generalize wr.heap.size = ob
      rintro x ⟨S, hb, hox, hob⟩
      have y0 := blk_cell (i := 0) hob
      have y1 := blk_cell (i := 1) hob
      have y2 := blk_cell (i := 2) hob
      have y3 := blk_cell (i := 3) hob
      have y4 := blk_cell (i := 4) hob
      have y5 := blk_cell (i := 5) hob
      have y6 := blk_cell (i := 6) hob
      have y7 := blk_cell (i := 7) hob
      have y8 := blk_cell (i := 8) hob
      have y9 := blk_cell (i := 9) hob
      simp at y0 y1 y2 y3 y4 y5 y6 y7 y8 y9
      have HOB := hide hob
      have HOX := hide hox
      have HB := hide hb
      by_cases k1 : kd = 1
      · subst k1
        have HS := hide (step_enc w.heap.size ob x w.heap.size n nn ii s kp fk fe fst fq fb S (by omega) (unhide ZB))
        unfold ptrTo opVal at HS
        clear S hb hox hob
        go_upto_region 8 with (go_at_call 48; refine (unhide HS).mono ?_; rintro r x2 ⟨rfl, S2, F2⟩; have SS2 := hide S2; have FF2 := hide F2; clear S2 F2)
        have ob2 := (unhide FF2).blk (unhide HOB) (by omega)
        have hb2 := (unhide HB).trans ((unhide FF2).below (B := w.heap.size) (unhide HB).size (fun g hg e => by omega))
        have OB2 := hide ob2
        have HB2 := hide hb2
        have HL := hide (unhide SS2).looks
        unfold ptrTo at HL
        clear HS y0 y1 y2 y3 y4 y5 y6 y7 y8 y9 HOB HOX HB ob2 hb2 FF2
        go_upto_region 9 with (go_at_call 49; refine (unhide HL).mono ?_; rintro r x3 ⟨rfl, S3, B3⟩; have ob3 := (B3.block _ (lt_of_block (unhide OB2))).trans (unhide OB2); have y0 := blk_cell (i := 0) ob3; simp at y0; have SS3 := hide S3; have BB3 := hide B3; clear S3 B3 ob3)
        go_wp2
        go_roundw
        case rel => exact ⟨k + 1, n + 4, by omega, by go_num, by omega, (unhide SS3).size, (unhide HB2).trans ((unhide BB3).mono (unhide HB2).size)⟩
        case measure => simp [intOf]; omega
      · by_cases k2 : kd = 2
        · subst k2
          have HS := hide (step_dec w.heap.size ob x w.heap.size n nn ii s kp fk fe fst fq fb S (by omega) (unhide ZS))
          unfold ptrTo opVal at HS
          clear S hb hox hob k1
          go_upto_region 8 with (go_at_call 48; refine (unhide HS).mono ?_; rintro r x2 ⟨rfl, S2, F2⟩; have SS2 := hide S2; have FF2 := hide F2; clear S2 F2)
          have ob2 := (unhide FF2).blk (unhide HOB) (by omega)
          have hb2 := (unhide HB).trans ((unhide FF2).below (B := w.heap.size) (unhide HB).size (fun g hg e => by omega))
          have OB2 := hide ob2
          have HB2 := hide hb2
          have HL := hide (unhide SS2).looks
          unfold ptrTo at HL
          clear HS y0 y1 y2 y3 y4 y5 y6 y7 y8 y9 HOB HOX HB ob2 hb2 FF2
          go_upto_region 9 with (go_at_call 49; refine (unhide HL).mono ?_; rintro r x3 ⟨rfl, S3, B3⟩; have ob3 := (B3.block _ (lt_of_block (unhide OB2))).trans (unhide OB2); have y0 := blk_cell (i := 0) ob3; simp at y0; have SS3 := hide S3; have BB3 := hide B3; clear S3 B3 ob3)
          go_wp2
          go_roundw
          case rel => exact ⟨k + 1, n + 4, by omega, by go_num, by omega, (unhide SS3).size, (unhide HB2).trans ((unhide BB3).mono (unhide HB2).size)⟩
          case measure => simp [intOf]; omega
        · have SS := hide S.size
          clear S hb hox hob
          by_cases k3 : kd < 1
          · go_wp2
            go_roundw
            case rel => exact ⟨k + 1, n, by omega, by go_num, by omega, unhide SS, unhide HB⟩
            case measure => simp [intOf]; omega
          · have k4 : 2 < kd := by omega
            clear k1 k2
            go_wp2
            go_roundw
            case rel => exact ⟨k + 1, n, by omega, by go_num, by omega, unhide SS, unhide HB⟩
            case measure => simp [intOf]; omega
    · have HB := hide hb
      clear hb S
      go_wp2
      go_ret
      exact ⟨rfl, unhide HB⟩
end Go.Proofs.YtamafdcnbcoegaaGreat
