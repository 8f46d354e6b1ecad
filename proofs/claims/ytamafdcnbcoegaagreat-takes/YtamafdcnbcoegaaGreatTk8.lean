/-
  Part 8 of a proof: T10, CodesProof, T11, T12, D1, D2, D3, D5, D4, MonoFoot, D6.
-/
import Derived.ProofKit
import Derived.SizedLaws
import Derived.OpenShut
import Derived.ShutString
import Derived.ChangeOld
import Derived.Lib.SmallJoins
import Derived.Deep.Slices
import Derived.Laws.CopyOwn
import Derived.DeepKeys
import Derived.Laws.StructEq
import Derived.Test.YtamafdcnbcoegaaGreatTk7
namespace Go.Proofs.YtamafdcnbcoegaaGreat
open Go.RowKit

theorem Sinks.mono {C : SinkC} {B D n m : Nat} {x : World} {wb : Nat} (h : Sinks C B D n x wb) (hm : n ≤ m) : Sinks C B D m x wb := by
  obtain ⟨A, as_, ssv, hv, hs, its, S, hD⟩ := h
  exact ⟨A, as_, ssv, hv, hs, its, ⟨Nat.le_trans S.hn hm, S.wat, S.row, S.six, S.each, S.apart, S.us, S.ssu, S.usB, S.bx, S.a2⟩, hD⟩
theorem Sinks.below {C : SinkC} {B D n : Nat} {x y : World} {wb : Nat} (h : Sinks C B D n x wb) (hb : Below x.heap.size x y) : Sinks C B D n y wb := by
  obtain ⟨A, as_, ssv, hv, hs, its, S, hD⟩ := h
  exact ⟨A, as_, ssv, hv, hs, its, S.below hb, hD⟩
theorem Sinks.size {C : SinkC} {B D n : Nat} {x : World} {wb : Nat} (h : Sinks C B D n x wb) : Sinks C B x.heap.size n x wb := by
  obtain ⟨A, as_, ssv, hv, hs, its, S, _⟩ := h
  exact ⟨A, as_, ssv, hv, hs, its, S, S.bnd⟩
theorem Sinks.looks {C : SinkC} {B D n : Nat} {w : World} {wb : Nat} (h : Sinks C B D n w wb) :
    Calls Tryz.prog 49 #[ptrTo wb] w fun r w' => r = .returned (.bool true) ∧ Sinks C B D n w' wb ∧ Below w.heap.size w w' := by
  have h0 := h
  obtain ⟨A, as_, ssv, hv, hs, its, S, _⟩ := h
  refine (looks_any A w wb _ _ hv hs S.wat).mono ?_
  rintro r w' ⟨rfl, k, rfl⟩
  exact ⟨rfl, h0.below (below_drewN (Below.refl _ _) _), below_drewN (Below.refl _ _) _⟩

/-- A step on one of the sinks. -/
theorem onSink_any (C : SinkC) (B D n : Nat) (A : Nat → Nat → Prop) (w : World) (wb : Nat) (as_ ssv hv : Value) (hs : List Nat) (its : List Item) (j : Nat) (it : Item) (kd nn i : Int) (s : ByteArray) (kp fk fe fst fq : Int) (fb : ByteArray)
    (S : SinksAt C B n A w wb as_ ssv hv hs its) (hD : Bnd D wb ssv hv its) (hit : its[j]? = some it) (hkd : kd = 9 ∨ kd = 10) (zs : s.size ≤ 140737488353980) (zn : n + 12 ≤ 17592186044416) :
    Calls Tryz.prog 82 #[ptrTo wb, ptrTo it.q, opVal kd nn i s kp fk fe fst fq fb] w fun r y => r = .returned (.bool true) ∧ Sinks C B y.heap.size (n + 12) y wb ∧ Far (fun k => B ≤ k ∧ k < D) w y := by
  have P := S.each j it hit
  have hA : ∀ b o, A b o → b < w.heap.size ∧ ¬ Us wb hv b ∧ ¬ PairU it.q it.rp it.lv it.hk it.U b := fun b o h => ⟨(S.a2 b o h).1, (S.a2 b o h).2.1, (S.a2 b o h).2.2.2 j it hit⟩
  have hPU : ∀ k, PairU it.q it.rp it.lv it.hk it.U k → ¬ Us wb hv k := fun k h => (S.us j it hit k h).2.1
  have hz : hs.length + 12 ≤ 17592186044416 := by have := S.hn; omega
  have hend : ∀ {y : World} {a' : Mod.Sk}, TakenAt C A w y wb it.q it.sv it.rp as_ ssv hv a' it.r it.lv it.hk it.U (hs.length + 12) → Sinks C B y.heap.size (n + 12) y wb ∧ Far (fun k => B ≤ k ∧ k < D) w y := by
    intro y a' T
    obtain ⟨A', hv', hs', its', S', hb⟩ := S.step j it hit hD T
    exact ⟨Sinks.mono ⟨A', as_, ssv, hv', hs', its', S', S'.bnd⟩ (by have := S.hn; omega), hb⟩
  rcases hkd with rfl | rfl
  · refine (onSink_take C A w wb as_ ssv hv hs nn i s kp fk fe fst fq fb it.q it.sv it.rp it.a it.r it.lv it.hk it.U it.left S.wat P hA hPU zs hz).mono ?_
    rintro r y ⟨rfl, T⟩
    exact ⟨rfl, hend T⟩
  · refine (onSink_log C A w wb as_ ssv hv hs nn i s kp fk fe fst fq fb it.q it.sv it.rp it.a it.r it.lv it.hk it.U it.left S.wat P hA hPU hz).mono ?_
    rintro r y ⟨rfl, T⟩
    exact ⟨rfl, hend T⟩

set_option maxRecDepth 100000 in
set_option maxHeartbeats 4000000 in
/-- .. where there is none. -/
theorem step_zero (C : SinkC) (B D n : Nat) (A : Nat → Nat → Prop) (w : World) (wb : Nat) (as_ ssv hv : Value) (hs : List Nat) (its : List Item) (kd nn i : Int) (s : ByteArray) (kp fk fe fst fq : Int) (fb : ByteArray)
    (S : SinksAt C B n A w wb as_ ssv hv hs its) (h0 : its.length = 0) (hkd : kd = 9 ∨ kd = 10) :
    Calls Tryz.prog 48 #[ptrTo wb, opVal kd nn i s kp fk fe fst fq fb] w fun r w' => r = .returned (.bool true) ∧ Sinks C B w'.heap.size (n + 12) w' wb ∧ Far (fun k => B ≤ k ∧ k < D) w w' := by
  have HS := fun (x : World) (hb : Below w.heap.size w x) => hide (show Sinks C B x.heap.size (n + 12) x wb from Sinks.mono ⟨A, as_, ssv, hv, hs, its, S.below hb, (S.below hb).bnd⟩ (by omega))
  have c1 := blk_cell (i := 1) S.wat.blk
  simp at c1
  obtain ⟨ad, cap, hsv, hl, _, _⟩ := listAt_own S.row
  rw [List.length_map, h0] at hsv hl
  have hwl := lt_of_block S.wat.blk
  have hbx := hide S.bx
  clear S
  subst hsv
  unfold ptrTo opVal at *
  rcases hkd with rfl | rfl
  all_goals
    go_enter Tryz.func48, Tryz.ntmps48
    go_upto_region 21 with fail
    go_quiet (fail)
    go_wp2
    go_ret
    exact ⟨rfl, unhide (HS _ (by first | exact (Below.refl _ _).alloc (Nat.le_refl _) _ | exact below_drewN ((Below.refl _ _).alloc (Nat.le_refl _) _) _)), far_below (by first | exact (Below.refl _ _).alloc (Nat.le_refl _) _ | exact below_drewN ((Below.refl _ _).alloc (Nat.le_refl _) _) _)⟩

theorem step_sinks (C : SinkC) (B D n : Nat) (w : World) (wb : Nat) (kd nn i : Int) (s : ByteArray) (kp fk fe fst fq : Int) (fb : ByteArray) (S : Sinks C B D n w wb) (hkd : kd = 8 ∨ kd = 9 ∨ kd = 10) (hc : -9223372036854775808 ≤ nn ∧ nn ≤ 9223372036854775807) (zs : s.size ≤ 140737488353980) (zn : n + 12 ≤ 17592186044416) :
    Calls Tryz.prog 48 #[ptrTo wb, opVal kd nn i s kp fk fe fst fq fb] w fun r w' => r = .returned (.bool true) ∧ Sinks C B w'.heap.size (n + 12) w' wb ∧ Far (fun k => B ≤ k ∧ k < D) w w' := by
  rcases hkd with rfl | hkd
  · refine (step_made C B D n w wb nn i s kp fk fe fst fq fb S).mono ?_
    rintro r w' ⟨rfl, S', hb⟩
    exact ⟨rfl, S'.mono (by omega), hb⟩
  · obtain ⟨A, as_, ssv, hv, hs, its, S, hD⟩ := S
    by_cases h0 : its.length = 0
    · exact step_zero C B D n A w wb as_ ssv hv hs its kd nn i s kp fk fe fst fq fb S h0 hkd
    · have hj := pickN_lt nn (n := its.length) (by omega)
      have hit := List.getElem?_eq_getElem hj
      exact step_gen C B D n A w wb as_ ssv hv hs its kd nn i s kp fk fe fst fq fb S hc (by omega) _ hit hkd (fun x hb => onSink_any C B D n A x wb as_ ssv hv hs its _ _ kd nn i s kp fk fe fst fq fb (S.below hb) hD hit hkd zs zn)

/-- A world that has just been made. -/
theorem sinks_new (C : SinkC) (w : World) : Sinks C w.heap.size (w.heap.size + 1) 0 (w.alloc (.cells #[.slice none 0 0, .slice none 0 0, .slice none 0 0] 83)) w.heap.size :=
  ⟨fun _ _ => False, .slice none 0 0, .slice none 0 0, .slice none 0 0, [], [], ⟨by simp, ⟨heap_alloc_new w _, World.ownsRow_nil _ _ _ _, fun p hp => absurd hp List.not_mem_nil⟩, World.ownsRow_nil _ _ _ _, by simp, fun i u h => by (simp at h), fun i j u v h => by (simp at h), fun i u h => by (simp at h), fun k h => by (cases h), fun k h => h.elim (fun h => by omega) (fun h => by cases h), by simp, fun b o h => h.elim⟩, fun k h => by
    rcases h with (h | h) | h | ⟨i, u, h, _⟩
    · omega
    · cases h
    · cases h
    · simp at h⟩

/-- A step lies in ten cells. -/
def OpIn (w : World) (b0 o : Nat) : Prop :=
  ∃ (kd nn i : Int) (s : ByteArray) (kp k e st q : Int) (b : ByteArray), s.size ≤ 140737488353980 ∧ (-9223372036854775808 ≤ nn ∧ nn ≤ 9223372036854775807) ∧
    ∀ j, j < 10 → w.cell? ⟨b0, o + j, none⟩ = #[.int .i64 kd, .int .i64 nn, .int .i64 i, .string s, .int .u64 kp, .int .i64 k, .int .i64 e, .int .i64 st, .int .i64 q, .string b][j]?

set_option maxRecDepth 100000 in
set_option maxHeartbeats 4000000 in
theorem upTo_sinks (C : SinkC) (ad : Option Addr) (len cap : Nat) (w : World) (z : 12 * len ≤ 17592186044416) (h : 0 < len → ∃ b0 off, ad = some ⟨b0, off, none⟩ ∧ b0 < w.heap.size ∧ ∀ i, i < len → OpIn w b0 (off + i * 10)) :
    Calls Tryz.prog 15 #[.slice ad len cap, .int .i64 8, .int .i64 10, .int .i64 8, .int .i64 10] w fun r w' => r = .returned (.int .i64 (-1)) ∧ Below w.heap.size w w' := by
  have HH := hide h
  have S0 := hide (sinks_new C w)
  clear h
  have n1 : len ≤ 9223372036854775807 := by omega
  go_enter Tryz.func15, Tryz.ntmps15
  go_wp2
  go_loopw [12] (fun i wr => ∃ k n : Nat, k ≤ len ∧ i = .int .i64 k ∧ n ≤ 12 * k ∧ Sinks C w.heap.size wr.heap.size n wr w.heap.size ∧ Below w.heap.size w wr) (fun i _ => len - (intOf i).toNat)
  case atStart => exact ⟨0, 0, by omega, rfl, by omega, (unhide S0).size, (Below.refl _ _).alloc (Nat.le_refl _) _⟩
  case round =>
    obtain ⟨k, n, hk, rfl, hn, S, hb⟩ := hrel
    by_cases hlt : k < len
    · obtain ⟨b0, off, rfl, hb0, hops⟩ := (unhide HH) (by omega)
      obtain ⟨kd, nn, ii, s, kp, fk, fe, fst, fq, fb, zs, zb, hc⟩ := hops k hlt
      have c0 := (hb.cell (p := ⟨b0, off + k * 10 + 0, none⟩) hb0).trans (hc 0 (by omega))
      have c1 := (hb.cell (p := ⟨b0, off + k * 10 + 1, none⟩) hb0).trans (hc 1 (by omega))
      have c2 := (hb.cell (p := ⟨b0, off + k * 10 + 2, none⟩) hb0).trans (hc 2 (by omega))
      have c3 := (hb.cell (p := ⟨b0, off + k * 10 + 3, none⟩) hb0).trans (hc 3 (by omega))
      have c4 := (hb.cell (p := ⟨b0, off + k * 10 + 4, none⟩) hb0).trans (hc 4 (by omega))
      have c5 := (hb.cell (p := ⟨b0, off + k * 10 + 5, none⟩) hb0).trans (hc 5 (by omega))
      have c6 := (hb.cell (p := ⟨b0, off + k * 10 + 6, none⟩) hb0).trans (hc 6 (by omega))
      have c7 := (hb.cell (p := ⟨b0, off + k * 10 + 7, none⟩) hb0).trans (hc 7 (by omega))
      have c8 := (hb.cell (p := ⟨b0, off + k * 10 + 8, none⟩) hb0).trans (hc 8 (by omega))
      have c9 := (hb.cell (p := ⟨b0, off + k * 10 + 9, none⟩) hb0).trans (hc 9 (by omega))
      simp at c0 c1 c2 c3 c4 c5 c6 c7 c8 c9
      have SS := hide S
      have HB := hide hb
      have ZS := hide zs
      have ZB := hide zb
      clear hc hops hb0 S hb zs zb HH S0
      go_upto_region 6 with fail
      refine wp_world (fun x => Sinks C w.heap.size wr.heap.size n x w.heap.size ∧ Below w.heap.size w x ∧ w.heap.size ≤ wr.heap.size ∧ wr.heap.size < x.heap.size ∧ x.heap[wr.heap.size]? = some (.cells #[.int .i64 kd, .int .i64 nn, .int .i64 ii, .string s, .int .u64 kp, .int .i64 fk, .int .i64 fe, .int .i64 fst, .int .i64 fq, .string fb] 86 (0, 0)))
        ⟨(unhide SS).below ((Below.refl _ _).alloc (Nat.le_refl _) _), (unhide HB).trans (((Below.refl _ _).alloc (Nat.le_refl _) _).mono (unhide HB).size), (unhide HB).size, by simp, heap_alloc_new wr _⟩ ?_
      clear c0 c1 c2 c3 c4 c5 c6 c7 c8 c9 SS HB
      generalize wr.heap.size = ob
      rintro x ⟨S, hb, how, hox, hob⟩
      have y0 := blk_cell (i := 0) hob
      have y1 := blk_cell (i := 1) hob
      have y2 := blk_cell (i := 2) hob
      have y3 := blk_cell (i := 3) hob
      have y4 := blk_cell (i := 4) hob
      have y5 := blk_cell (i := 5) hob
      have y6 := blk_cell (i := 6) hob
      have y7 := blk_cell (i := 7) hob
      have y8 := blk_cell (i := 8) hob
      have y9 := blk_cell (i := 9) hob
      simp at y0 y1 y2 y3 y4 y5 y6 y7 y8 y9
      have HOB := hide hob
      have HB := hide hb
      have SS := hide S
      clear S hb hox hob
      by_cases k8 : 8 ≤ kd
      · by_cases k10 : kd ≤ 10
        · have hkd : kd = 8 ∨ kd = 9 ∨ kd = 10 := by omega
          have HS := hide (step_sinks C w.heap.size ob n x w.heap.size kd nn ii s kp fk fe fst fq fb (unhide SS) hkd (unhide ZB) (unhide ZS) (by omega))
          unfold ptrTo opVal at HS
          clear SS ZB ZS
          rcases hkd with rfl | rfl | rfl
          all_goals
            go_upto_region 8 with (go_at_call 48; refine (unhide HS).mono ?_; rintro r x2 ⟨rfl, S2, F2⟩; have SS2 := hide S2; have FF2 := hide F2; clear S2 F2)
            have ob2 := (unhide FF2).blk (unhide HOB) (by omega)
            have hb2 := (unhide HB).trans ((unhide FF2).below (B := w.heap.size) (unhide HB).size (fun g hg e => by omega))
            have OB2 := hide ob2
            have HB2 := hide hb2
            have HL := hide (unhide SS2).looks
            unfold ptrTo at HL
            clear HS y0 y1 y2 y3 y4 y5 y6 y7 y8 y9 HOB HB ob2 hb2 FF2
            go_upto_region 9 with (go_at_call 49; refine (unhide HL).mono ?_; rintro r x3 ⟨rfl, S3, B3⟩; have ob3 := (B3.block _ (lt_of_block (unhide OB2))).trans (unhide OB2); have y0 := blk_cell (i := 0) ob3; simp at y0; have SS3 := hide S3; have BB3 := hide B3; clear S3 B3 ob3)
            go_wp2
            go_roundw
            case rel => exact ⟨k + 1, n + 12, by omega, by go_num, by omega, (unhide SS3).size, (unhide HB2).trans ((unhide BB3).mono (unhide HB2).size)⟩
            case measure => simp [intOf]; omega
        · have k10i : 10 < kd := by omega
          go_wp2
          go_roundw
          case rel => exact ⟨k + 1, n, by omega, by go_num, by omega, (unhide SS).size, unhide HB⟩
          case measure => simp [intOf]; omega
      · have k8i : kd < 8 := by omega
        go_wp2
        go_roundw
        case rel => exact ⟨k + 1, n, by omega, by go_num, by omega, (unhide SS).size, unhide HB⟩
        case measure => simp [intOf]; omega
    · have HB := hide hb
      clear hb S
      go_wp2
      go_ret
      exact ⟨rfl, unhide HB⟩
end Go.Proofs.YtamafdcnbcoegaaGreat
namespace Go.Proofs.YtamafdcnbcoegaaGreat
open Go.ChangeShapes Go.WideShapes Go.ChangeAt Go.RowKit

theorem Tryz.own : ownKnob Tryz.prog.godebug = none := by kernel_rfl
theorem Tryz.laidOut : laidOutB Tryz.prog = true := by kernel_rfl

theorem opCells : Tryz.prog.cellsOf 86 = 10 := by kernel_rfl
theorem opBytes : Tryz.prog.bytesOf 86 = 96 := by kernel_rfl
theorem frCells : Tryz.prog.cellsOf 41 = 5 := by kernel_rfl
theorem intCells : Tryz.prog.cellsOf 3 = 1 := by kernel_rfl
theorem u64Cells : Tryz.prog.cellsOf 27 = 1 := by kernel_rfl
theorem strCells : Tryz.prog.cellsOf 9 = 1 := by kernel_rfl

theorem weights_all {H : Type} {P : Program} {e : TypeId} : ∀ {l : List (DataW H)} {d : DataW H}, d ∈ l → ∀ n ∈ d.weights P e, n ∈ DataW.weightsAll P e l
  | d' :: r, d, hd, n, hn => by
    simp only [DataW.weightsAll, List.mem_append]
    rcases List.mem_cons.1 hd with rfl | h
    · exact Or.inl hn
    · exact Or.inr (weights_all h n hn)

theorem add_plain (b off k : Nat) : (⟨b, off, none⟩ : Addr).add k = ⟨b, off + k, none⟩ := by
  unfold Addr.add
  split
  · rename_i h; rw [h]; rfl
  · rfl

end Go.Proofs.YtamafdcnbcoegaaGreat
namespace Go.Proofs.YtamafdcnbcoegaaGreat
open Go.ChangeShapes Go.WideShapes Go.ChangeAt Go.RowKit

theorem made_new (C : SinkC) (w : World) : Calls Tryz.prog 50 #[ptrTo w.heap.size, opVal 8 0 0 ⟨#[]⟩ 0 0 0 0 0 ⟨#[]⟩] (w.alloc (.cells #[.slice none 0 0, .slice none 0 0, .slice none 0 0] 83)) fun r w' =>
    r = .returned (.bool true) ∧ Sinks C w.heap.size w'.heap.size 0 w' w.heap.size ∧ Below w.heap.size w w' := by
  have S : SinksAt C w.heap.size 0 (fun _ _ => False) (w.alloc (.cells #[.slice none 0 0, .slice none 0 0, .slice none 0 0] 83)) w.heap.size (.slice none 0 0) (.slice none 0 0) (.slice none 0 0) [] [] :=
    ⟨by simp, ⟨heap_alloc_new w _, World.ownsRow_nil _ _ _ _, fun p hp => absurd hp List.not_mem_nil⟩, World.ownsRow_nil _ _ _ _, by simp, fun i u h => by (simp at h), fun i j u v h => by (simp at h), fun i u h => by (simp at h), fun k h => by (cases h), fun k h => h.elim (fun h => by omega) (fun h => by cases h), by simp, fun b o h => h.elim⟩
  refine (made_sink C w.heap.size _ 0 _ _ w.heap.size _ _ _ [] [] 0 0 ⟨#[]⟩ 0 0 0 0 0 ⟨#[]⟩ S S.bnd (by simp)).mono ?_
  rintro r w' ⟨rfl, S', F⟩
  exact ⟨rfl, S', ((Below.refl _ _).alloc (Nat.le_refl _) _).trans (F.below (by simp) (fun k hk h => by omega))⟩

set_option maxRecDepth 100000 in
set_option maxHeartbeats 2000000 in
theorem logs_head (C : SinkC) (w : World) :
    Calls Tryz.prog 17 #[] w fun r w' => r = .returned (.bool true) ∧ Below w.heap.size w w' := by
  have HM := hide (made_new C w)
  obtain ⟨bb, hbb⟩ : ∃ bb : ByteArray, bb = ⟨(Wire.bytes 3 0 0 1 (⟨#[97]⟩ : ByteArray).data.toList).toArray⟩ := ⟨_, rfl⟩
  have HBy := fun w' => hide (refBytes_any 3 0 0 1 ⟨#[97]⟩ w' (by decide))
  rw [← hbb] at HBy
  have zb : bb.size ≤ 1000 := by rw [hbb]; simp [ByteArray.size, wire_front_len]
  clear hbb
  unfold ptrTo opVal at HM
  go_enter Tryz.func17, Tryz.ntmps17
  go_upto_region 3 with (go_at_call 50; refine (unhide HM).mono ?_; rintro r w1 ⟨rfl, S1, B1⟩; have SS1 := hide S1; have BB1 := hide B1; clear S1 B1)
  clear HM
  go_upto_region 6 with (go_at_call 51; refine (unhide (HBy _)).mono ?_; rintro r w2 ⟨rfl, hb2⟩; have SS2 := hide ((unhide SS1).below hb2).size; have BB2 := hide ((unhide BB1).trans (hb2.mono (unhide BB1).size)); clear hb2)
  clear HBy SS1 BB1
  have HS := hide (step_sinks C w.heap.size _ 0 w2 w.heap.size 9 0 0 bb 0 0 0 0 0 ⟨#[]⟩ (unhide SS2) (by omega) (by omega) (by omega) (by omega))
  unfold ptrTo opVal at HS
  go_upto_region 7 with (go_at_call 48; refine (unhide HS).mono ?_; rintro r w3 ⟨rfl, S3, F3⟩; have SS3 := hide S3; have BB3 := hide ((unhide BB2).trans (F3.below (B := w.heap.size) (unhide BB2).size (fun k hk h => by omega))); clear S3 F3)
  clear HS SS2 BB2
  have HS := hide (step_sinks C w.heap.size _ 12 w3 w.heap.size 10 0 0 ⟨#[]⟩ 0 0 0 0 0 ⟨#[]⟩ (unhide SS3) (by omega) (by omega) (by decide) (by omega))
  unfold ptrTo opVal at HS
  go_upto_region 8 with (go_at_call 48; refine (unhide HS).mono ?_; rintro r w4 ⟨rfl, S4, F4⟩; have BB4 := hide ((unhide BB3).trans (F4.below (B := w.heap.size) (unhide BB3).size (fun k hk h => by omega))); clear S4 F4)
  go_wp2
  go_ret
  exact ⟨rfl, unhide BB4⟩

set_option maxRecDepth 100000 in
set_option maxHeartbeats 1000000 in
theorem takes_any (C : SinkC) (ad : Option Addr) (len cap : Nat) (w : World) (z : 12 * len ≤ 17592186044416) (h : 0 < len → ∃ b0 off, ad = some ⟨b0, off, none⟩ ∧ b0 < w.heap.size ∧ ∀ i, i < len → OpIn w b0 (off + i * 10)) :
    Calls Tryz.prog 5 #[.slice ad len cap] w fun r w' => r = .returned (.bool true) ∧ Below w.heap.size w w' := by
  have HU := fun w1 (hb : Below w.heap.size w w1) => hide (upTo_sinks C ad len cap w1 z (fun h0 => by
    obtain ⟨b0, off, e, hlt, ho⟩ := h h0
    refine ⟨b0, off, e, Nat.lt_of_lt_of_le hlt hb.size, fun i hi => ?_⟩
    obtain ⟨kd, nn, ii, s, kp, k, e, st, q, b, zs, zb, hc⟩ := ho i hi
    exact ⟨kd, nn, ii, s, kp, k, e, st, q, b, zs, zb, fun j hj => (hb.cell (p := ⟨b0, off + i * 10 + j, none⟩) hlt).trans (hc j hj)⟩))
  clear h
  go_enter Tryz.func5, Tryz.ntmps5
  go_wp2_with (first | (go_at_call 17; refine (logs_head C _).mono ?_; rintro r w1 ⟨rfl, hb1⟩; have HB1 := hide hb1; have HU1 := HU _ hb1; clear hb1) | (go_at_call 15; refine (unhide HU1).mono ?_; rintro r w2 ⟨rfl, hb2⟩))
  go_ret
  exact ⟨rfl, (unhide HB1).trans (hb2.mono (unhide HB1).size)⟩
end Go.Proofs.YtamafdcnbcoegaaGreat
namespace Go.Proofs.YtamafdcnbcoegaaGreat
open Go.ChangeShapes Go.WideShapes Go.ChangeAt Go.RowKit

set_option maxRecDepth 100000 in
/-- A step among the cells that came in. -/
theorem open_opr {H : Type} {enc : TypeId × Value → H} {w : World} {base : Nat} {spare : Nat → Bool} {held : Bool} {fuel : Nat} {cs : List Value} {y : DataW H × List MemPlace}
    (h : DataW.trod enc Tryz.prog w base spare held fuel 86 cs = some y) (hw : ∀ n ∈ y.1.weights Tryz.prog 86, n ≤ reachBytes) :
    ∃ (kd nn i : Int) (s : ByteArray) (kp k e st q : Int) (b : ByteArray), cs = [.int .i64 kd, .int .i64 nn, .int .i64 i, .string s, .int .u64 kp, .int .i64 k, .int .i64 e, .int .i64 st, .int .i64 q, .string b] ∧ s.size ≤ reachBytes ∧ (-9223372036854775808 ≤ nn ∧ nn ≤ 9223372036854775807) := by
  obtain ⟨xs, n, _, rfl, hl, hlen, hx⟩ := DataW.trod_struct Tryz.underlying86 h
  rw [opCells] at hl
  match cs, hl, xs, hlen with
  | [d0, d1, d2, d3, d4, d5, d6, d7, d8, d9], _, [y0, y1, y2, y3, y4, y5], _ =>
    have h0 := hx 0 _ rfl
    have h1 := hx 1 _ rfl
    have h2 := hx 2 _ rfl
    have h3 := hx 3 _ rfl
    have h4 := hx 4 _ rfl
    have h5 := hx 5 _ rfl
    simp [intCells, strCells, u64Cells, frCells] at h0 h1 h2 h3 h4 h5
    obtain ⟨kd, e0, _, _⟩ := DataW.trod_int Tryz.underlying3 h0
    obtain ⟨nn, e1, _, wf1⟩ := DataW.trod_int Tryz.underlying3 h1
    obtain ⟨i, e2, _, _⟩ := DataW.trod_int Tryz.underlying3 h2
    obtain ⟨s, e3, x3, _⟩ := DataW.trod_string Tryz.underlying9 h3
    obtain ⟨kp, e4, _, _⟩ := DataW.trod_int Tryz.underlying27 h4
    obtain ⟨zs, n2, _, x5, _, hlen2, hz⟩ := DataW.trod_struct Tryz.underlying41 h5
    match zs, hlen2 with
    | [z0, z1, z2, z3, z4], _ =>
      have g0 := hz 0 _ rfl
      have g1 := hz 1 _ rfl
      have g2 := hz 2 _ rfl
      have g3 := hz 3 _ rfl
      have g4 := hz 4 _ rfl
      simp [intCells, strCells] at g0 g1 g2 g3 g4
      obtain ⟨k, e5, _, _⟩ := DataW.trod_int Tryz.underlying3 g0
      obtain ⟨e, e6, _, _⟩ := DataW.trod_int Tryz.underlying3 g1
      obtain ⟨st, e7, _, _⟩ := DataW.trod_int Tryz.underlying3 g2
      obtain ⟨q, e8, _, _⟩ := DataW.trod_int Tryz.underlying3 g3
      obtain ⟨b, e9, x9, _⟩ := DataW.trod_string Tryz.underlying9 g4
      simp at e0 e1 e2 e3 e4 e5 e6 e7 e8 e9
      subst e0 e1 e2 e3 e4 e5 e6 e7 e8 e9
      subst x9 x5 x3
      refine ⟨kd, nn, i, s, kp, k, e, st, q, b, rfl, ?_, ?_⟩
      · have := hw s.data.toList.length (by
          simp only [DataW.weights, Tryz.underlying86]
          exact DataW.weights_mem_each (j := 3) (d := .lit (.string s.data.toList)) rfl rfl _ (by simp [DataW.weights]))
        simpa using this
      · simp only [Lit.wf, Bool.and_eq_true, decide_eq_true_eq] at wf1
        rw [show IntKind.i64.min = -9223372036854775808 from by decide, show IntKind.i64.max = 9223372036854775807 from by decide] at wf1
        exact wf1
set_option maxRecDepth 100000 in
/-- The script that came in. -/
theorem open_opsr {H : Type} {enc : TypeId × Value → H} {w : World} {base : Nat} {spare : Nat → Bool} {held : Bool} {v : Value} {d : DataW H} {p : List MemPlace}
    (h : DataW.Trod enc Tryz.prog w base spare held 22 v d p) (hv : ∃ a len cap, v = .slice a len cap) (hw : ∀ n ∈ d.weights Tryz.prog 22, n ≤ reachBytes) :
    ∃ ad len cap, v = .slice ad len cap ∧ 12 * len ≤ 17592186044416 ∧ (0 < len → ∃ b0 off, ad = some ⟨b0, off, none⟩ ∧ b0 < w.heap.size ∧ ∀ i, i < len → OpIn w b0 (off + i * 10)) := by
  obtain ⟨a0, l0, c0, rfl⟩ := hv
  obtain ⟨fuel, hf⟩ := h
  have hcs : (Value.slice a0 l0 c0).cells.toList = [.slice a0 l0 c0] := rfl
  rw [hcs] at hf
  rcases Deep.open_slice Tryz.underlying22 hf with ⟨e, _⟩ | ⟨a, len, cap, m, n, D, Pl, e, _, hl, _, hm, hd, hi⟩
  · injection e with e
    injection e with e1 e2 e3
    subst e1 e2 e3
    exact ⟨none, 0, 0, rfl, by omega, fun h => absurd h (by omega)⟩
  · injection e with e
    injection e with e1 e2 e3
    subst e1 e2 e3
    injection hd with hd _
    subst hd
    have hlm : l0 ≤ m := by rw [hm]; split <;> omega
    have hsz : l0 * 96 ≤ reachBytes := by
      have := hw ((((List.range l0).map D).length + ((List.range (m - l0)).map fun j => D (l0 + j)).length) * Tryz.prog.bytesOf 86) (by simp [DataW.weights, Tryz.underlying22])
      rw [opBytes] at this
      simp at this
      omega
    refine ⟨some a, l0, c0, rfl, by unfold reachBytes at hsz; omega, fun h0 => ?_⟩
    rw [opCells] at hi
    obtain ⟨b0, off, sp⟩ := a
    have hsp : sp = none ∧ b0 < w.heap.size := by
      obtain ⟨cs', h1, h2⟩ := hi 0 (by omega)
      obtain ⟨_, hlen, hc⟩ := World.cells?_some h1
      have := hc 0 (by omega)
      rw [List.getElem?_eq_getElem (by omega)] at this
      simp only [Addr.add, Nat.zero_mul, if_true] at this
      unfold World.cell? at this
      simp only at this
      split at this
      · rename_i hb
        refine ⟨?_, lt_of_block hb⟩
        cases sp with
        | none => rfl
        | some _ => simp at this
      · cases this
    obtain ⟨rfl, hlt⟩ := hsp
    refine ⟨b0, off, rfl, hlt, fun i hil => ?_⟩
    obtain ⟨cs', h1, h2⟩ := hi i (by omega)
    obtain ⟨_, hlen, hc⟩ := World.cells?_some h1
    obtain ⟨kd, nn, ii, s, kp, k, e, st, q, b, rfl, z1, z2⟩ := open_opr h2 (fun x hx => hw x (by
      simp only [DataW.weights, Tryz.underlying22, List.mem_cons, List.mem_append]
      exact .inr (.inl (weights_all (List.mem_map.2 ⟨i, by simpa using hil, rfl⟩) x hx))))
    unfold reachBytes at z1
    refine ⟨kd, nn, ii, s, kp, k, e, st, q, b, by omega, z2, fun j hj => ?_⟩
    have := hc j hj
    rw [add_plain, add_plain] at this
    rw [this]
    simp

set_option maxRecDepth 100000 in
theorem takes_lifted (C : SinkC) (os : Os) (started : os.Started) (H : Type) (enc : TypeId × Value → H) :
    ReturnsInHanded {} Tryz.checked os 5 .any (Rows.takesSpec.pre6 enc Tryz.prog Tryz.f5 Rows.takesRow.domain false) (Rows.takesSpec.post enc Tryz.prog Tryz.f5 false true false false) := by
  refine returnsInHanded_of_change_sized (C := Tryz.checked) Tryz.own started (by kernel_rfl) Tryz.func5
    (ChangeSpec.witness6 (enc := enc) (C := Tryz.checked) false ⟨#[], #[.slice none 0 0], []⟩ 8 (by kernel_rfl) (by kernel_rfl) (by kernel_rfl) (by kernel_rfl)) ?_
  intro W base args ds gs before hval0 hW hcnd hsz0 hholds
  have hval : ∀ (j : Nat) t v, Tryz.f5.params[j]? = some t → args[j]? = some v → Value.okWide Tryz.prog W .any base t v := hval0
  have hsz : (DataW.weightsEach Tryz.prog (Tryz.f5.params.toList ++ Rows.takesSpec.plain.varTypes Tryz.prog) (ds ++ gs)).all (· ≤ reachBytes) = true := hsz0
  have hW' := hW
  obtain ⟨p, q, hA0, hV, rfl, hfz, hnd⟩ := hW
  have hA : DataW.TrodAll enc Tryz.prog W 0 (fun _ => true) true Tryz.f5.params.toList args.toList ds p := hA0
  rw [Tryz.params5] at hA hval hsz
  obtain ⟨v0, vs0, d0, ds0, p0, q0, hargs, rfl, rfl, h0, r0⟩ := trodAll_cons hA
  obtain ⟨rfl, rfl, rfl⟩ := trodAll_nil r0
  obtain rfl : args = #[v0] := by cases args; simp_all
  obtain ⟨rfl, rfl⟩ := trodVars_none hV
  have k0 := h0
  have lt0 : ∀ x ∈ p0, x.block < W.heap.size := by obtain ⟨m, hm⟩ := k0; exact DataW.trod_lt m _ _ _ hm
  obtain ⟨ad, len, cap, rfl, hlen, hops⟩ := open_opsr h0 (okWide_slice Tryz.underlying22 (hval 0 22 v0 rfl rfl)) (fun n hn => by
    have := List.all_eq_true.1 hsz n (DataW.weights_mem_each (j := 0) rfl rfl n hn)
    simpa using this)
  clear hA0 hval0 hsz0
  refine (takes_any C ad len cap W hlen hops).mono fun e W' ⟨he, bel⟩ => ?_
  subst he
  exact ⟨_, rfl, _, _, _, [], _, [], hW', trodAll_mk1 (shut_bool Tryz.underlying4 _), (trodAll_cons_mk (Below.trod Tryz.laidOut (by kernel_rfl) (of_decide_eq_true (by kernel_rfl)) k0 bel lt0) trodAll_mk0), rfl, bel.frame _, fun h => by cases h⟩

/-- P4, P8, P9: every Deliver, Log and Epoch of sinks, for a program's sink that keeps its contract. -/
theorem takes_holds (C : SinkC) : Rows.TakesSaid :=
  OpenClaim.holds_of_wide 5 Tryz.f5 rfl rfl rfl rfl rfl rfl rfl ⟨rfl, rfl, rfl, rfl, rfl⟩ rfl rfl rfl rfl rfl (by kernel_rfl) Tryz.func5 (by kernel_rfl)
    (of_decide_eq_true (by kernel_rfl)) (by unfold Func.isWrapper; rw [if_neg (by decide +kernel)]; exact ⟨rfl, rfl⟩)
    (fun os started H enc _ => takes_lifted C os started H enc)
end Go.Proofs.YtamafdcnbcoegaaGreat
namespace Go.Proofs.YtamafdcnbcoegaaGreat
namespace Mod

/-- A stamp's bytes: the number of the opening, a count. -/
def stampB (o c : Nat) : List UInt8 := Wire.le4 (o : Int) ++ Wire.le4 ((c % 4294967296 : Nat) : Int) ++ Wire.le4 ((c / 4294967296 : Nat) : Int)
theorem length_stampB (o c : Nat) : (stampB o c).length = 12 := rfl
/-- A sector: a stamp, what stands inside, noughts, the stamp. -/
def sealB (o c : Nat) (inside : List UInt8) : List UInt8 := stampB o c ++ (inside ++ List.replicate (40 - inside.length) 0) ++ stampB o c
theorem length_sealB (o c : Nat) {inside : List UInt8} (h : inside.length ≤ 40) : (sealB o c inside).length = 64 := by
  simp [sealB, length_stampB]; omega
/-- What stands inside a head. -/
def headIn (a b c : Nat) : List UInt8 := Wire.le4 (a : Int) ++ Wire.le4 (b : Int) ++ Wire.le4 (c : Int)
theorem length_headIn (a b c : Nat) : (headIn a b c).length = 12 := rfl
/-- What stands inside a record's sector. -/
def recIn (st q : Nat) (b : List UInt8) : List UInt8 := [UInt8.ofNat (st % 256), UInt8.ofNat (b.length % 256)] ++ Wire.le4 (q : Int) ++ b
theorem length_recIn (st q : Nat) (b : List UInt8) : (recIn st q b).length = 6 + b.length := by simp [recIn, Wire.length_le4]; omega
/-- A sector is written. -/
def setSec (l : List UInt8) (k : Nat) (s : List UInt8) : List UInt8 := l.take (64 * k) ++ s ++ l.drop (64 * k + 64)
theorem length_setSec {l s : List UInt8} {k : Nat} (hs : s.length = 64) (hk : 64 * k + 64 ≤ l.length) : (setSec l k s).length = l.length := by
  simp [setSec, hs]; omega
/-- A disk: its bytes, at which write from now on it fails (0: at none), whether it has failed. -/
structure Dk where
  bytes : List UInt8
  armed : Nat
  dead : Bool
/-- A sector is written and synced: what is answered. -/
def Dk.put (d : Dk) (k : Nat) (s : List UInt8) : Int × Dk :=
  if d.dead = true then (3, d) else if d.armed = 1 then (4, { d with dead := true }) else (0, { bytes := setSec d.bytes k s, armed := d.armed - 1, dead := false })
/-- A store: the number of the opening, the count of its writes, the head that counts, the disk. -/
structure Stv where
  opening : Nat
  count : Nat
  head : Nat
  dk : Dk
/-- The count of the next write (it goes round at 2^64). -/
def Stv.next (s : Stv) : Nat := (s.count + 1) % 18446744073709551616
def Stv.putNumbers (s : Stv) (a b c : Nat) : Int × Stv :=
  ((s.dk.put (1 - s.head) (sealB s.opening s.next (headIn a b c))).1, { s with head := 1 - s.head, count := s.next, dk := (s.dk.put (1 - s.head) (sealB s.opening s.next (headIn a b c))).2 })
def Stv.putRecord (s : Stv) (place st q : Nat) (b : List UInt8) : Int × Stv :=
  ((s.dk.put (2 + place) (sealB s.opening s.next (recIn st q b))).1, { s with count := s.next, dk := (s.dk.put (2 + place) (sealB s.opening s.next (recIn st q b))).2 })
end Mod
end Go.Proofs.YtamafdcnbcoegaaGreat
namespace Go.Proofs.YtamafdcnbcoegaaGreat
open Go.RowKit

/-- Bytes laid over a list from a place on. -/
def lay (L : List UInt8) (off : Nat) (l : List UInt8) : List UInt8 := L.take off ++ (l ++ L.drop (off + l.length))
theorem length_lay {L l : List UInt8} {off : Nat} (h : off + l.length ≤ L.length) : (lay L off l).length = L.length := by
  simp [lay]; omega
theorem bv_lay (L : List UInt8) (off : Nat) (l : List UInt8) : bv (lay L off l) = (bv L).take off ++ (bv l ++ (bv L).drop (off + (bv l).length)) := by
  simp [lay, bv, List.map_take, List.map_drop]
theorem size5 : (Tryz.prog.info? 5).map (·.size) = some 1 := by kernel_rfl
theorem size64 : (Tryz.prog.info? 207).map (·.size) = some 64 := by kernel_rfl

theorem add_mk (b o j : Nat) : (⟨b, o, none⟩ : Addr).add j = ⟨b, o + j, none⟩ := by
  unfold Addr.add
  split
  · rename_i h; subst h; rfl
  · rfl

/-- copy of bytes into a block. -/
theorem oper_copy_bytes {o : Oper} {a : Act} {w : World} {K : Act → World → Prop} {Q : Exit → Act → World → Prop} (d s : Operand)
    (ho : o.op = .call { callee := .builtin .copy, args := #[d, s], argTypes := #[44, 44] }) (g off n cap : Nat) (L l : List UInt8) (t : TypeId) (v : Value)
    (hg : w.heap[g]? = some (.cells (bv L).toArray t (0, 0))) (hd : a.eval d = .slice (some ⟨g, off, none⟩) n cap) (hat : BytesAt w v l) (hs : a.eval s = v) (hl : l.length ≤ n) (hfit : off + n ≤ L.length)
    (h : ∀ w', w'.heap[g]? = some (.cells (bv (lay L off l)).toArray t (0, 0)) → Far (fun k => k = g) w w' → K (a.put o.dst (.int .i64 l.length)) w') : o.wp Tryz.prog a w K Q := by
  obtain ⟨ad, cap', rfl, hc1, hc2, hc3⟩ := hat
  by_cases h0 : l.length = 0
  · obtain rfl : l = [] := List.eq_nil_of_length_eq_zero h0
    have hrun := run_copy_none (P := Tryz.prog) w 44 44 o.type 5 (some ⟨g, off, none⟩) ad n cap 0 cap' Tryz.underlying44 size5 (by simp)
    unfold Oper.wp
    simp [execOp, ho, resolve, invoke, builtin, hd, hs, hrun, Result.andThen]
    exact h w (by rw [bv_lay]; simpa [bv] using hg) (Far.refl _ _)
  · obtain ⟨b, o', rfl, hc⟩ := hc3 (by omega)
    have hrun := run_copy_row (P := Tryz.prog) w 44 44 o.type 5 g off n cap ⟨b, o', none⟩ l.length cap' (bv L).toArray t (bv l) Tryz.underlying44 size5 hg (by rw [bv_length]; exact (Nat.min_eq_left hl).symm) (by
      intro j u hj
      have hjl : j < l.length := by
        have := (List.getElem?_eq_some_iff.1 hj).1
        rw [bv_length] at this; exact this
      rw [bv_get hjl] at hj
      cases hj
      rw [add_mk]
      exact hc j hjl) (by rw [bv_length, List.size_toArray, bv_length]; omega) (bv_oneCell l)
    unfold Oper.wp
    simp [execOp, ho, resolve, invoke, builtin, hd, hs, hrun, Result.andThen]
    rw [bv_length]
    refine h _ ?_ ⟨rfl, rfl, rfl, by simp, fun k _ hk => setRow_other w g k _ hk⟩
    rw [bv_lay]
    have := setRow_heap w g (bv L).toArray ((bv L).take off ++ (bv l ++ (bv L).drop (off + (bv l).length))).toArray t (0, 0) hg
    rw [bv_length] at this ⊢
    simpa using this
theorem wpList_copy_bytes {ops : Array Oper} {rest : List Oper} {o : Oper} {a : Act} {w : World} {Q : Exit → Act → World → Prop} (hgd : o.guard = none) (d s : Operand)
    (ho : o.op = .call { callee := .builtin .copy, args := #[d, s], argTypes := #[44, 44] }) (g off n cap : Nat) (L l : List UInt8) (t : TypeId) (v : Value)
    (hg : w.heap[g]? = some (.cells (bv L).toArray t (0, 0))) (hd : a.eval d = .slice (some ⟨g, off, none⟩) n cap) (hat : BytesAt w v l) (hs : a.eval s = v) (hl : l.length ≤ n) (hfit : off + n ≤ L.length)
    (h : ∀ w', w'.heap[g]? = some (.cells (bv (lay L off l)).toArray t (0, 0)) → Far (fun k => k = g) w w' → wpList Tryz.prog ops Q rest (a.put o.dst (.int .i64 l.length)) w') : wpList Tryz.prog ops Q (o :: rest) a w :=
  wpList_plain hgd fun _ hK => oper_copy_bytes d s ho g off n cap L l t v hg hd hat hs hl hfit (fun w' h1 h2 => hK _ _ (h w' h1 h2))

/-- A whole sector out of its block. -/
theorem wpList_load_sec {ops : Array Oper} {rest : List Oper} {o : Oper} {a : Act} {w : World} {Q : Exit → Act → World → Prop} (hgd : o.guard = none) (x : Operand) (ho : o.op = .load 207 x)
    (g : Nat) (hx : a.eval x = .pointer (some ⟨g, 0, none⟩)) (t : TypeId) (L : List UInt8) (hL : L.length = 64) (hg : w.heap[g]? = some (.cells (bv L).toArray t (0, 0)))
    (h : wpList Tryz.prog ops Q rest (a.put o.dst (.agg (bv L).toArray)) w) : wpList Tryz.prog ops Q (o :: rest) a w :=
  wpList_load_row hgd 207 x ho g hx t _ (0, 0) _ hg Tryz.underlying207 rfl (by rw [size64]; simp [bv, hL]) h
theorem oper_load_sec {o : Oper} {a : Act} {w : World} {K : Act → World → Prop} {Q : Exit → Act → World → Prop} (x : Operand) (ho : o.op = .load 207 x)
    (g : Nat) (hx : a.eval x = .pointer (some ⟨g, 0, none⟩)) (t : TypeId) (L : List UInt8) (hL : L.length = 64) (hg : w.heap[g]? = some (.cells (bv L).toArray t (0, 0)))
    (h : K (a.put o.dst (.agg (bv L).toArray)) w) : o.wp Tryz.prog a w K Q :=
  wp_load_row 207 x ho g hx t _ (0, 0) _ hg Tryz.underlying207 rfl (by rw [size64]; simp [bv, hL]) h
theorem bv_all (l : List UInt8) : (bv l).toArray.all (·.oneCell') = true := by
  rw [Array.all_eq_true_iff_forall_mem]
  intro v hv
  exact bv_oneCell l v (by simpa using hv)
/-- A whole sector into its block. -/
theorem wpList_store_sec {ops : Array Oper} {rest : List Oper} {o : Oper} {a : Act} {w : World} {Q : Exit → Act → World → Prop} (hgd : o.guard = none) (x y : Operand) (ho : o.op = .store 207 x y)
    (g : Nat) (hx : a.eval x = .pointer (some ⟨g, 0, none⟩)) (L : List UInt8) (hL : L.length = 64) (hy : a.eval y = .agg (bv L).toArray) (t : TypeId) (old : Array Value) (hold : old.size = 64) (hg : w.heap[g]? = some (.cells old t (0, 0)))
    (h : ∀ w', w'.heap[g]? = some (.cells (bv L).toArray t (0, 0)) → Far (fun k => k = g) w w' → wpList Tryz.prog ops Q rest (a.put o.dst undef) w') : wpList Tryz.prog ops Q (o :: rest) a w :=
  wpList_store_row hgd 207 x y ho g (bv L).toArray hx hy t old hg (by rw [size64]; simp [bv, hL]) (by rw [hold]; simp [bv, hL]) (bv_all L)
    (h _ (setRow_heap w g old _ t (0, 0) hg) ⟨rfl, rfl, rfl, by simp, fun k _ hk => setRow_other w g k _ hk⟩)
theorem oper_store_sec {o : Oper} {a : Act} {w : World} {K : Act → World → Prop} {Q : Exit → Act → World → Prop} (x y : Operand) (ho : o.op = .store 207 x y)
    (g : Nat) (hx : a.eval x = .pointer (some ⟨g, 0, none⟩)) (L : List UInt8) (hL : L.length = 64) (hy : a.eval y = .agg (bv L).toArray) (t : TypeId) (old : Array Value) (hold : old.size = 64) (hg : w.heap[g]? = some (.cells old t (0, 0)))
    (h : ∀ w', w'.heap[g]? = some (.cells (bv L).toArray t (0, 0)) → Far (fun k => k = g) w w' → K (a.put o.dst undef) w') : o.wp Tryz.prog a w K Q :=
  wp_store_row 207 x y ho g (bv L).toArray hx hy t old hg (by rw [size64]; simp [bv, hL]) (by rw [hold]; simp [bv, hL]) (bv_all L)
    (h _ (setRow_heap w g old _ t (0, 0) hg) ⟨rfl, rfl, rfl, by simp, fun k _ hk => setRow_other w g k _ hk⟩)
/-- What a call hands back that is a sector. -/
theorem results_sec {fn : Func} {p : Tmp} (h : fn.results = #[.cell p 207]) (tmps : Array Value) (w : World) (g : Nat) (t : TypeId) (L : List UInt8) (hL : L.length = 64)
    (hp : tmps.getD p undef = .pointer (some ⟨g, 0, none⟩)) (hg : w.heap[g]? = some (.cells (bv L).toArray t (0, 0))) : (results fn tmps).run Tryz.prog w = .ok (.agg (bv L).toArray) w :=
  results_cell_row h tmps w g t _ (0, 0) _ hp hg Tryz.underlying207 rfl (by rw [size64]; simp [bv, hL])
end Go.Proofs.YtamafdcnbcoegaaGreat
namespace Go.Proofs.YtamafdcnbcoegaaGreat
open Go.RowKit

set_option maxRecDepth 100000 in
set_option maxHeartbeats 1000000 in
theorem stampBytes_any (o c : Nat) (ho : o < 4294967296) (hc : c < 18446744073709551616) (w : World) :
    Calls Tryz.prog 216 #[.agg #[.int .u32 o, .int .u64 c]] w fun r w' => ∃ v, r = .returned v ∧ Owns (w.heap.size + 1) w' v (Mod.stampB o c) ∧ Below w.heap.size w w' := by
  go_enter Tryz.func216, Tryz.ntmps216
  go_upto_region 1 with fail
  refine wp_world (fun x => x.heap[w.heap.size]? = some (.cells #[.int .u32 o, .int .u64 c] 201 (0, 0)) ∧ Below w.heap.size w x) ?_ ?_
  · exact ⟨heap_alloc_new w _, (Below.refl _ _).alloc (Nat.le_refl _) _⟩
  rintro x ⟨hb0, hB⟩
  have hz := lt_of_block hb0
  have c0 : x.cell? ⟨w.heap.size, 0, none⟩ = some (.int .u32 o) := blk_cell (i := 0) hb0
  have HB0 := hide hb0
  have HB := hide hB
  clear hb0 hB
  have hA := fun (v : Value) (l : List UInt8) (n : Int) (y : World) (h1 : l.length ≤ 1000) (h2 : w.heap.size + 1 ≤ y.heap.size) (h3 : 0 ≤ n) (h4 : Owns (w.heap.size + 1) y v l) => hide (appendNumber_any (w.heap.size + 1) n v l y h1 h2 h3 h4)
  have hbl := fun (v : Value) (l : List UInt8) (y z : World) (h2 : w.heap.size + 1 ≤ y.heap.size) (h4 : Owns (w.heap.size + 1) y v l) (hg : y.grownBy z v.ownBlock) => below_grown_new (B := w.heap.size + 1) hg h2 (fun g hg => (h4.lt g hg).1)
  go_upto_region 2 with (go_at_call 135; refine (unhide (hA (.slice none 0 0) [] (o : Int) x (by simp) (by omega) (by omega) (owns_nil _ _))).mono ?_; rintro r y ⟨v1, rfl, hown, hg⟩)
  have b1 := hbl _ _ x y (by omega) (owns_nil _ _) hg
  have hby := (b1.block _ (Nat.lt_succ_self _)).trans (unhide HB0)
  have c1 : y.cell? ⟨w.heap.size, 1, none⟩ = some (.int .u64 c) := blk_cell (i := 1) hby
  have hzy := b1.size
  have HB1 := hide ((unhide HB).trans (b1.mono (by omega)))
  have O1 := hide hown
  have HBY := hide hby
  clear hown hg b1 hby c0 HB0 HB
  have hwc : IntKind.u32.wrap (c : Int) = ((c % 4294967296 : Nat) : Int) := by rw [IntKind.wrap_u32]; omega
  go_upto_region 3 with (go_at_call 135; refine (unhide (hA v1 _ ((c % 4294967296 : Nat) : Int) y (by simp [Wire.length_le4]) (by omega) (by omega) (unhide O1))).mono ?_; rintro r z ⟨v2, rfl, hown, hg⟩)
  have b1 := hbl _ _ y z (by omega) (unhide O1) hg
  have hbz := (b1.block _ (Nat.lt_succ_self _)).trans (unhide HBY)
  have c2 : z.cell? ⟨w.heap.size, 1, none⟩ = some (.int .u64 c) := blk_cell (i := 1) hbz
  have hzz := b1.size
  have HB2 := hide ((unhide HB1).trans (b1.mono (by omega)))
  have O2 := hide hown
  clear hown hg b1 hbz c1 HBY HB1 O1 hwc
  go_wp2_with (go_at_call 135; refine (unhide (hA v2 _ ((c / 4294967296 : Nat) : Int) z (by simp [Wire.length_le4]) (by omega) (by omega) (unhide O2))).mono ?_; rintro r u ⟨v3, rfl, hown, hg⟩)
  have b1 := hbl _ _ z u (by omega) (unhide O2) hg
  go_ret
  exact ⟨v3, rfl, by simpa [Mod.stampB] using hown, (unhide HB2).trans (b1.mono (by omega))⟩
end Go.Proofs.YtamafdcnbcoegaaGreat
namespace Go.Proofs.YtamafdcnbcoegaaGreat
open Go.RowKit

theorem bv_at {l : List UInt8} {i : Nat} (h : i < l.length) : (bv l).toArray[i]? = some (.int .u8 (l.getD i 0).toNat) := by
  rw [List.getElem?_toArray]; exact bv_get h
theorem eq_items (S T : List UInt8) (w : World) : ∀ (is : List Nat), (∀ i ∈ is, i < S.length ∧ i < T.length) →
    (Op.eqItems 9999 5 1 (bv S).toArray (bv T).toArray is).run Tryz.prog w = .ok (is.all fun i => S.getD i 0 == T.getD i 0) w
  | [], _ => by simp [Op.eqItems]
  | i :: is, h => by
    have h0 := h i (.head _)
    have p1 := run_part_plain (P := Tryz.prog) w (e := 5) (by kernel_rfl) (xs := (bv S).toArray) (off := i) (bv_at h0.1)
    have p2 := run_part_plain (P := Tryz.prog) w (e := 5) (by kernel_rfl) (xs := (bv T).toArray) (off := i) (bv_at h0.2)
    have p3 := run_equalIn_int (P := Tryz.prog) w 9998 5 .u8 .u8 ((S.getD i 0).toNat : Int) ((T.getD i 0).toNat : Int) Tryz.underlying5
    have ih := eq_items S T w is (fun j hj => h j (.tail _ hj))
    simp only [Op.eqItems, Nat.mul_one, Sem.run_bind, p1, p2, p3, Result.andThen_ok, List.all_cons]
    have e : (((S.getD i 0).toNat : Int) == ((T.getD i 0).toNat : Int)) = (S.getD i 0 == T.getD i 0) := by
      rw [Bool.eq_iff_iff, beq_iff_eq, beq_iff_eq]
      constructor
      · intro e
        exact UInt8.toNat_inj.1 (by omega)
      · intro e
        rw [e]
    rw [e]
    cases hc : (S.getD i 0 == T.getD i 0)
    · simp
    · simpa using ih
theorem all_eq {S T : List UInt8} {n : Nat} (hS : S.length = n) (hT : T.length = n) : ((List.range n).all fun i => S.getD i 0 == T.getD i 0) = decide (S = T) := by
  rw [Bool.eq_iff_iff, decide_eq_true_eq, List.all_eq_true]
  constructor
  · intro h
    apply List.ext_getElem (by omega)
    intro i h1 h2
    have := h i (List.mem_range.2 (by omega))
    simpa [h1, h2] using this
  · rintro rfl i _
    simp
set_option maxRecDepth 100000 in
/-- Two sectors compared. -/
theorem eq_sec {S T : List UInt8} (hS : S.length = 64) (hT : T.length = 64) (w : World) : (Op.equalIn 10000 207 (.agg (bv S).toArray) (.agg (bv T).toArray)).run Tryz.prog w = .ok (decide (S = T)) w := by
  obtain ⟨i, hi⟩ : ∃ i, Tryz.prog.info? 5 = some i := by
    have := size5
    cases h : Tryz.prog.info? 5 with
    | none => rw [h] at this; cases this
    | some i => exact ⟨i, rfl⟩
  have hz : Tryz.prog.cellsOf 5 = 1 := by kernel_rfl
  have e := eq_items S T w (List.range 64) (fun i hi => by have := List.mem_range.1 hi; omega)
  rw [all_eq hS hT, ← hz] at e
  exact (run_equalIn_array (P := Tryz.prog) w 9999 (bv S).toArray (bv T).toArray Tryz.underlying207 hi).trans e

/-- A run of cells laid into an array. -/
theorem fold_set (off : Nat) : ∀ (l : List Value) (i : Nat) (cs : Array Value), off + i + l.length ≤ cs.size →
    (l.zipIdx i).foldl (fun cs (p : Value × Nat) => cs.setIfInBounds (off + p.2) p.1) cs = (cs.toList.take (off + i) ++ l ++ cs.toList.drop (off + i + l.length)).toArray
  | [], i, cs, _ => by simp
  | v :: l, i, cs, h => by
    rw [List.zipIdx_cons, List.foldl_cons, fold_set off l (i + 1) _ (by simp at h ⊢; omega)]
    have := list_seg_step cs.toList (off + i) v l (by simp at h ⊢; omega)
    congr 1
    rw [Array.toList_setIfInBounds]
    have e1 : off + (i + 1) = off + i + 1 := by omega
    rw [e1, this, List.length_cons]
def zeros : List UInt8 := List.replicate 64 0
theorem length_zeros : zeros.length = 64 := by simp [zeros]
theorem built_eq (parts : List (Nat × Value)) : Tryz.prog.built 261 parts = Instr.fill (fun x => (#[(0, 1), (1, 64)] : Array (Nat × Nat))[x]?) (Value.int .i64 0 :: bv zeros).toArray parts := by kernel_rfl
theorem built_write (k : Int) (S : List UInt8) (hS : S.length = 64) : Tryz.prog.built 261 [(0, .int .i64 k), (1, .agg (bv S).toArray)] = some (.int .i64 k :: bv S).toArray := by
  rw [built_eq]
  have hz : (bv zeros).length = 64 := by rw [bv_length, length_zeros]
  have hb : (bv S).length = 64 := by rw [bv_length, hS]
  have e2 := fold_set 1 (bv S) 0 (Value.int .i64 k :: bv zeros).toArray (by simp [hz, hb])
  generalize hZ : bv zeros = Z at *
  generalize hX : bv S = X at *
  have hX2 : X.toArray.size = 64 := by simpa using hb
  simp only [Instr.fill, Value.cells]
  simp [hz, hb]
  rw [e2]
  simp [hz, hb]
end Go.Proofs.YtamafdcnbcoegaaGreat
namespace Go.Proofs.YtamafdcnbcoegaaGreat
open Go.RowKit

theorem lay_seal (o c : Nat) (ins : List UInt8) (h : ins.length ≤ 40) : lay (lay (lay (List.replicate 64 0) 0 (Mod.stampB o c)) 12 ins) 52 (Mod.stampB o c) = Mod.sealB o c ins := by
  have e1 : lay (List.replicate 64 (0 : UInt8)) 0 (Mod.stampB o c) = Mod.stampB o c ++ List.replicate 52 0 := by
    simp [lay, Mod.length_stampB]
  rw [e1]
  have e2 : lay (Mod.stampB o c ++ List.replicate 52 0) 12 ins = Mod.stampB o c ++ ins ++ List.replicate (52 - ins.length) 0 := by
    unfold lay
    rw [List.take_left' (Mod.length_stampB o c), List.drop_append, List.drop_eq_nil_of_le (by rw [Mod.length_stampB]; omega), Mod.length_stampB, List.drop_replicate, List.nil_append, List.append_assoc]
    congr 3
    omega
  rw [e2]
  unfold lay Mod.sealB
  have hl : (Mod.stampB o c ++ ins).length = 12 + ins.length := by rw [List.length_append, Mod.length_stampB]
  rw [List.take_append, List.take_of_length_le (by omega), List.take_replicate, List.drop_append, List.drop_eq_nil_of_le (by rw [hl, Mod.length_stampB]; omega), List.drop_replicate, hl, Mod.length_stampB]
  have e3 : min (52 - (12 + ins.length)) (52 - ins.length) = 40 - ins.length := by omega
  have e4 : 52 - ins.length - (52 + 12 - (12 + ins.length)) = 0 := by omega
  rw [e3, e4]
  simp
theorem alloc3 (w : World) (A B C : Obj) : (((w.alloc A).alloc B).alloc C).heap[w.heap.size]? = some A ∧ (((w.alloc A).alloc B).alloc C).heap[w.heap.size + 1]? = some B ∧ (((w.alloc A).alloc B).alloc C).heap[w.heap.size + 2]? = some C ∧ Below w.heap.size w (((w.alloc A).alloc B).alloc C) := by
  have h1 := heap_alloc_new (w.alloc A) B
  have h2 := heap_alloc_new ((w.alloc A).alloc B) C
  have e1 : (w.alloc A).heap.size = w.heap.size + 1 := by simp
  have e2 : ((w.alloc A).alloc B).heap.size = w.heap.size + 2 := by simp
  rw [e1] at h1
  rw [e2] at h2
  refine ⟨?_, ?_, h2, (((Below.refl _ _).alloc (Nat.le_refl _) _).alloc (by omega) _).alloc (by omega) _⟩
  · rw [heap_alloc_old _ _ (by omega), heap_alloc_old _ _ (by omega)]
    exact heap_alloc_new w A
  · rw [heap_alloc_old _ _ (by omega)]
    exact h1
theorem cells_eq {o : Option Obj} {c c' : Array Value} {t : TypeId} {fr : Nat × Nat} (h : o = some (.cells c t fr)) (e : c = c') : o = some (.cells c' t fr) := by rw [← e]; exact h
def OwnsW (B : Nat) (l : List UInt8) (v : Value) (w : World) : Prop := Owns B w v l ∧ ∀ g, v.ownBlock = some g → g < w.heap.size
theorem stable_ownsW (B : Nat) (l : List UInt8) : Stable (OwnsW B l) := fun _ _ _ h hb => ⟨h.1.below hb h.2, fun g hg => Nat.lt_of_lt_of_le (h.2 g hg) hb.size⟩

set_option maxRecDepth 100000 in
set_option maxHeartbeats 1000000 in
theorem seal_any (o c : Nat) (ins : List UInt8) (v : Value) (w : World) (ho : o < 4294967296) (hc : c < 18446744073709551616) (hi : ins.length ≤ 40) (hat : BytesAt w v ins) :
    Calls Tryz.prog 184 #[.agg #[.int .u32 o, .int .u64 c], v] w fun r w' => r = .returned (.agg (bv (Mod.sealB o c ins)).toArray) ∧ Below w.heap.size w w' := by
  have HS := fun y => hide (stampBytes_any o c ho hc y)
  go_enter Tryz.func184, Tryz.ntmps184
  go_upto_region 2 with fail
  refine wp_world (fun x => x.heap[w.heap.size]? = some (.cells #[.int .u32 o, .int .u64 c] 201 (0, 0)) ∧ x.heap[w.heap.size + 1]? = some (.cells (bv zeros).toArray 207 (0, 0)) ∧ x.heap[w.heap.size + 2]? = some (.cells (bv zeros).toArray 207 (0, 0)) ∧ Below w.heap.size w x) ?_ ?_
  · exact ⟨(alloc3 _ _ _ _).1, cells_eq (alloc3 _ _ _ _).2.1 (by kernel_rfl), cells_eq (alloc3 _ _ _ _).2.2.1 (by kernel_rfl), (alloc3 _ _ _ _).2.2.2⟩
  rintro x ⟨h0, h1, h2, hB⟩
  have H0 := hide h0
  have H1 := hide h1
  have H2 := hide h2
  have HB := hide hB
  have hz := lt_of_block h2
  have c0 : x.cell? ⟨w.heap.size, 0, none⟩ = some (.int .u32 o) := blk_cell (i := 0) h0
  have c1 : x.cell? ⟨w.heap.size, 1, none⟩ = some (.int .u64 c) := blk_cell (i := 1) h0
  have HAT := hide hat
  clear h0 h1 h2 hB hat
  refine wp_region_last (by kernel_rfl)
    [fun v _ => v = .slice (some ⟨w.heap.size + 2, 0, none⟩) 64 64, fun v _ => v = .agg #[.int .u32 o, .int .u64 c], OwnsW (w.heap.size + 3) (Mod.stampB o c), fun _ _ => True]
    [[(5, none)], [(2, none)], [(7, some 1)], [(6, some 0), (8, some 2)]] [some 6, some 7, some 8, some 9] [false, false, false, false, false, false, true, true, true, true, false, false, false, false, false, false, false, false]
    3 _ rfl rfl (by kernel_rfl) (by kernel_rfl) (by kernel_rfl) (by kernel_rfl) (by kernel_rfl) (by kernel_rfl) ?_ ?_ ?_
  · repeat' (first | exact stable_eq _ | exact stable_ownsW _ _ | exact stable_true | exact trivial | apply And.intro)
  · refine ⟨?_, ?_, ?_, trivial⟩
    all_goals
      intro a y hb hf
      have y0 := (hb.cell (p := ⟨w.heap.size, 0, none⟩) (by show w.heap.size < _; omega)).trans c0
      have y1 := (hb.cell (p := ⟨w.heap.size, 1, none⟩) (by show w.heap.size < _; omega)).trans c1
      have hzy := hb.size
      clear hb
      simp only [PlanFacts, List.getD_cons_zero, List.getD_cons_succ, Array.getD_eq_getD_getElem?] at hf
      try simp at hf
      try go_simp
      try exact Below.refl _ _
    · refine (unhide (HS _)).mono ?_
      rintro r w1 ⟨v1, rfl, hown, hb1⟩
      exact ⟨v1, rfl, hb1, hown.mono (by omega), fun g hg => (hown.lt g hg).2⟩
  · intro f y hb hwd
    simp only [AllWords, List.take] at hwd
    have hf6 := hwd.1
    have hf8 := hwd.2.2.1
    simp only [mergeT, hf6]
    have g0 := (hb.block _ (by show w.heap.size < _; omega)).trans (unhide H0)
    have g1 := (hb.block _ (by show w.heap.size + 1 < _; omega)).trans (unhide H1)
    have g2 := (hb.block _ (by show w.heap.size + 2 < _; omega)).trans (unhide H2)
    have HBY := hide ((unhide HB).trans (hb.mono (by have := (unhide HB).size; omega)))
    generalize f 8 = v8 at *
    generalize f 7 = v7 at *
    have hzy := hb.size
    refine oper_copy_bytes (.tmp 6) (.tmp 8) rfl (w.heap.size + 2) 0 64 64 zeros (Mod.stampB o c) 207 v8 g2 rfl hf8.1.at rfl (by rw [Mod.length_stampB]; omega) (by rw [length_zeros]; omega) ?_
    intro z hz2 hF
    have G0 := hide (hF.blk g0 (by omega))
    have G1 := hide (hF.blk g1 (by omega))
    have G2 := hide hz2
    have HBZ := hide ((unhide HBY).trans (hF.below (by omega) (fun k hk e => by omega)))
    have hzz := hF.size
    clear hb hf6 hf8 g0 g1 g2 hF hz2 HBY H0 H1 H2 HB c0 c1
    clear hwd
    have c0 : z.cell? ⟨w.heap.size, 0, none⟩ = some (.int .u32 o) := blk_cell (i := 0) (unhide G0)
    have c1 : z.cell? ⟨w.heap.size, 1, none⟩ = some (.int .u64 c) := blk_cell (i := 1) (unhide G0)
    have hL1 : (lay zeros 0 (Mod.stampB o c)).length = 64 := by rw [length_lay (by rw [Mod.length_stampB, length_zeros]; omega), length_zeros]
    have HL1 := hide hL1
    clear hL1
    go_simp
    go_upto_region 4 with (refine wpList_copy_bytes rfl (.tmp 10) (.tmp 11) rfl (w.heap.size + 2) 12 40 52 (lay zeros 0 (Mod.stampB o c)) ins 207 v (unhide G2) rfl ((unhide HAT).below (unhide HBZ)) rfl hi (by rw [unhide HL1]; omega) ?_; intro u hu hF; go_simp)
    have hL2 : (lay (lay zeros 0 (Mod.stampB o c)) 12 ins).length = 64 := by rw [length_lay (by rw [unhide HL1]; omega), unhide HL1]
    have HL2 := hide hL2
    have HBU := hide ((unhide HBZ).trans (hF.below (by omega) (fun k hk e => by omega)))
    have g0 := hF.blk (unhide G0) (by omega)
    have G1 := hide (hF.blk (unhide G1) (by omega))
    have G2 := hide hu
    have hzu := hF.size
    have c0 : u.cell? ⟨w.heap.size, 0, none⟩ = some (.int .u32 o) := blk_cell (i := 0) g0
    have c1 : u.cell? ⟨w.heap.size, 1, none⟩ = some (.int .u64 c) := blk_cell (i := 1) g0
    clear hL2 hu hF g0 HBZ G0 HL1
    refine wp_region_last (by kernel_rfl)
      [fun v _ => v = .slice (some ⟨w.heap.size + 2, 52, none⟩) 12 12, fun v _ => v = .agg #[.int .u32 o, .int .u64 c], OwnsW (w.heap.size + 3) (Mod.stampB o c), fun _ _ => True]
      [[(5, none)], [(2, none)], [(14, some 1)], [(13, some 0), (15, some 2)]] [some 13, some 14, some 15, some 16] [false, false, false, false, false, false, false, false, false, false, false, false, false, true, true, true, true, false]
      3 _ rfl rfl (by kernel_rfl) (by kernel_rfl) (by kernel_rfl) (by kernel_rfl) (by kernel_rfl) (by kernel_rfl) ?_ ?_ ?_
    · repeat' (first | exact stable_eq _ | exact stable_ownsW _ _ | exact stable_true | exact trivial | apply And.intro)
    · refine ⟨?_, ?_, ?_, trivial⟩
      all_goals
        intro a y hb hf
        have y0 := (hb.cell (p := ⟨w.heap.size, 0, none⟩) (by show w.heap.size < _; omega)).trans c0
        have y1 := (hb.cell (p := ⟨w.heap.size, 1, none⟩) (by show w.heap.size < _; omega)).trans c1
        have hzy := hb.size
        clear hb
        simp only [PlanFacts, List.getD_cons_zero, List.getD_cons_succ, Array.getD_eq_getD_getElem?] at hf
        try simp at hf
        try go_simp
        try exact Below.refl _ _
      · refine (unhide (HS _)).mono ?_
        rintro r w1 ⟨v1, rfl, hown, hb1⟩
        exact ⟨v1, rfl, hb1, hown.mono (by omega), fun g hg => (hown.lt g hg).2⟩
    · intro f y hb hwd
      simp only [AllWords, List.take] at hwd
      have hf13 := hwd.1
      have hf15 := hwd.2.2.1

      simp only [mergeT, hf13]
      have g1 := (hb.block _ (by show w.heap.size + 1 < _; omega)).trans (unhide G1)
      have g2 := (hb.block _ (by show w.heap.size + 2 < _; omega)).trans (unhide G2)
      have HBY := hide ((unhide HBU).trans (hb.mono (by have := (unhide HBU).size; omega)))
      generalize f 15 = v15 at *
      generalize f 14 = v14 at *
      have hzy := hb.size
      refine oper_copy_bytes (.tmp 13) (.tmp 15) rfl (w.heap.size + 2) 52 12 12 _ (Mod.stampB o c) 207 v15 g2 rfl hf15.1.at rfl (by rw [Mod.length_stampB]; omega) (by rw [unhide HL2]; omega) ?_
      intro z3 hz2 hF
      have hL3 : (lay (lay (lay zeros 0 (Mod.stampB o c)) 12 ins) 52 (Mod.stampB o c)).length = 64 := by rw [length_lay (by rw [unhide HL2, Mod.length_stampB]; omega), unhide HL2]
      have g1 := hF.blk g1 (by omega)
      have HB3 := hide ((unhide HBY).trans (hF.below (by omega) (fun k hk e => by omega)))
      have hz3 := hF.size
      rw [show lay (lay (lay zeros 0 (Mod.stampB o c)) 12 ins) 52 (Mod.stampB o c) = Mod.sealB o c ins from lay_seal o c ins hi] at hz2 hL3
      have G1 := hide g1
      have G2 := hide hz2
      clear hb hf13 hf15 g1 g2 hF hz2 HBY HBU c0 c1
      clear hwd
      go_simp
      go_wp2_with (first
        | (refine wpList_load_sec rfl (.tmp 5) rfl (w.heap.size + 2) rfl 207 (Mod.sealB o c ins) hL3 (unhide G2) ?_)
        | (refine wpList_store_sec rfl (.tmp 4) (.tmp 17) rfl (w.heap.size + 1) rfl (Mod.sealB o c ins) hL3 rfl 207 _ (by simp [bv_length, length_zeros]) (unhide G1) ?_; intro z4 hz4 hF4; go_simp))
      exact bodyPost_ret (results_sec Tryz.results184 _ _ (w.heap.size + 1) _ _ hL3 rfl hz4) rfl ⟨rfl, (unhide HB3).trans (hF4.below (by omega) (fun k hk e => by omega))⟩
end Go.Proofs.YtamafdcnbcoegaaGreat
namespace Go.Proofs.YtamafdcnbcoegaaGreat
open Go.RowKit

/-- What an operation leaves, where it writes no slot: nothing. -/
def valOf (d : Option Tmp) (v : Value) : Value := match d with | some _ => v | none => undef
section
variable {P : Program} {ops : Array Oper} {Q : Exit → Act → World → Prop}

structure FootInv (ops : Array Oper) (Φ : Nat → Value → World → Prop) (E : Nat → Nat → Prop) (a0 : Act) (w0 : World) (L : Array Bool) (a : Act) (w : World) : Prop where
  size : L.size = ops.size
  ext : Far (fun b => ∃ k, L.getD k false = true ∧ E k b) w0 w
  closed : ∀ k, L.getD k false = true → ∀ j, depB ops k j = true → L.getD j false = true
  vals : ∀ i o, ops[i]? = some o → L.getD i false = true → Φ i (match o.dst with | some d => a.tmps.getD d undef | none => undef) w
  rest : ∀ t, (∀ j, wr ops t = some j → L.getD j false = false) → a.tmps.getD t undef = a0.tmps.getD t undef
  defers : a.defers = a0.defers
  tsize : a.tmps.size = a0.tmps.size

theorem mono_foot {a0 : Act} {w0 : World} (Φ : Nat → Value → World → Prop) (E : Nat → Nat → Prop) (hok : monoOk ops a0.tmps.size = true)
    (hst : ∀ i j v w w', i ≠ j → depB ops j i = false → Φ j v w → Far (E i) w w' → Φ j v w')
    (hop : ∀ i o, ops[i]? = some o → ∀ a w, Far (fun b => ∃ k, k ≠ i ∧ depB ops k i = false ∧ E k b) w0 w → GoodAct ops Φ a0 i o a w →
      if Region.wanted o (yielded ops a.tmps) = true then o.wp P a w (fun a' w' => ∃ v, a' = a.put o.dst v ∧ Far (E i) w w' ∧ Φ i (valOf o.dst v) w') Q else Φ i undef w)
    (hend : ∀ a w, Far (fun b => ∃ k, E k b) w0 w → (∀ i o, ops[i]? = some o → Φ i (match o.dst with | some d => a.tmps.getD d undef | none => undef) w) → (∀ t, wr ops t = none → a.tmps.getD t undef = a0.tmps.getD t undef) → a.defers = a0.defers → a.tmps.size = a0.tmps.size → Q .normal a w) :
    ∀ (fuel : Nat) (L : Array Bool) (a : Act) (w : World), FootInv ops Φ E a0 w0 L a w → (List.range ops.size).countP (fun i => !L.getD i false) ≤ fuel → wpAny P .any ops Q fuel L a w := by
  have hrdy : ∀ (L : Array Bool) (a : Act) (w : World), FootInv ops Φ E a0 w0 L a w → Region.ready .any ops L = [] → Q .normal a w := by
    intro L a w hI hr
    have hall : ∀ n i, i < n → i < ops.size → L.getD i false = true := by
      intro n
      induction n with
      | zero => intro i h; omega
      | succ n ih =>
        intro i h hi
        by_cases hin : i < n
        · exact ih i hin hi
        · have e : i = n := by omega
          subst e
          cases hL : L.getD i false
          · exfalso
            have ho : ops[i]? = some ops[i] := Array.getElem?_eq_getElem hi
            obtain ⟨_, _, h3⟩ := monoOk_spec hok ho
            have : i ∈ Region.ready .any ops L := mem_ready.2 ⟨by
              have hs : i < L.size := by rw [hI.size]; exact hi
              rw [Array.getD_eq_getD_getElem?, Array.getElem?_eq_getElem hs] at hL ⊢
              exact hL, ops[i], ho, fun e he hb => by
              have hd : depB ops i e.on = true := by
                unfold depB
                rw [ho]
                exact Array.any_eq_true'.2 ⟨e, he, by simp [hb]⟩
              have hlt := h3 _ hd
              exact ih e.on hlt (by omega)⟩
            rw [hr] at this
            cases this
          · rfl
    refine hend a w (hI.ext.mono (fun b _ h => h.imp fun k h => h.2)) (fun i o ho => hI.vals i o ho (hall ops.size i (Array.getElem?_eq_some_iff.1 ho).1 (Array.getElem?_eq_some_iff.1 ho).1)) (fun t ht => hI.rest t (fun j hj => by rw [ht] at hj; cases hj)) hI.defers hI.tsize
  intro fuel
  induction fuel with
  | zero =>
    intro L a w hI hc
    have hr : Region.ready .any ops L = [] := by
      apply List.eq_nil_iff_forall_not_mem.2
      intro i hi
      obtain ⟨h0, o, ho, _⟩ := mem_ready.1 hi
      have hlt : i < ops.size := (Array.getElem?_eq_some_iff.1 ho).1
      have h0' : L.getD i false = false := by
        have hs : i < L.size := by rw [hI.size]; exact hlt
        rw [Array.getD_eq_getD_getElem?, Array.getElem?_eq_getElem hs] at h0 ⊢
        exact h0
      have : 0 < (List.range ops.size).countP (fun i => !L.getD i false) := List.countP_pos_iff.2 ⟨i, List.mem_range.2 hlt, by simp [h0']⟩
      omega
    exact ⟨hr, hrdy L a w hI hr⟩
  | succ fuel ih =>
    intro L a w hI hc
    refine ⟨hrdy L a w hI, fun i hi => ?_⟩
    obtain ⟨h0, o, ho, hdeps⟩ := mem_ready.1 hi
    have hlt : i < ops.size := (Array.getElem?_eq_some_iff.1 ho).1
    have hls : i < L.size := by rw [hI.size]; exact hlt
    have h0' : L.getD i false = false := by
      rw [Array.getD_eq_getD_getElem?, Array.getElem?_eq_getElem hls] at h0 ⊢
      exact h0
    obtain ⟨hd, hl, hlex⟩ := monoOk_spec hok ho
    have hdl : ∀ j, depB ops i j = true → L.getD j false = true := by
      intro j hj
      unfold depB at hj
      rw [ho] at hj
      obtain ⟨e, he, hb⟩ := Array.any_eq_true'.1 hj
      simp only [Bool.and_eq_true, beq_iff_eq] at hb
      rw [← hb.2]; exact hdeps e he hb.1
    have hgood : GoodAct ops Φ a0 i o a w := by
      intro t ht
      cases hw : wr ops t with
      | none => exact hI.rest t (fun j hj => by rw [hw] at hj; cases hj)
      | some j =>
        simp only []
        have hj := List.find?_some hw
        simp only [beq_iff_eq] at hj
        split
        · rename_i hdep
          cases hoj : ops[j]? with
          | none => rw [hoj] at hj; cases hj
          | some oj =>
            rw [hoj] at hj
            have hvv := hI.vals j oj hoj (hdl j hdep)
            have hj' : oj.dst = some t := hj
            rw [hj'] at hvv
            exact hvv
        · rename_i hdep
          refine hI.rest t (fun j' hj' => ?_)
          rw [hw] at hj'
          cases hj'
          rcases hl t ht j hw with h | h
          · exact absurd h hdep
          · cases hLj : L.getD j false
            · rfl
            · have := hI.closed j hLj i h
              rw [h0'] at this; cases this
    have hstep : ∀ v w', Far (E i) w w' → Φ i (valOf o.dst v) w' → FootInv ops Φ E a0 w0 (L.setIfInBounds i true) (a.put o.dst v) w' := by
      intro v w' hb hv
      have hget : ∀ k, (L.setIfInBounds i true).getD k false = true ↔ (k = i ∨ L.getD k false = true) := by
        intro k
        by_cases hk : k = i
        · subst hk
          simp [Array.getD_eq_getD_getElem?, hls]
        · rw [getD_set_ne false (fun e => hk e.symm)]
          simp [hk]
      have hput : ∀ t, (a.put o.dst v).tmps.getD t undef = if o.dst = some t then v else a.tmps.getD t undef := by
        intro t
        cases hdst : o.dst with
        | none => simp [Act.put]
        | some d =>
          simp only [Act.put, Option.some.injEq]
          have hdsz : d < a.tmps.size := by rw [hI.tsize]; exact (hd d hdst).1
          by_cases h : d = t
          · subst h
            simp [Array.getD_eq_getD_getElem?, hdsz]
          · simp [Array.getD_eq_getD_getElem?, h]
      refine ⟨by simp [hI.size], (hI.ext.mono (fun b _ h => by obtain ⟨k, h1, h2⟩ := h; exact ⟨k, (hget k).2 (.inr h1), h2⟩)).trans hb (fun b _ h => ⟨i, (hget i).2 (.inl rfl), h⟩), ?_, ?_, ?_, ?_, ?_⟩
      · intro k hk j hj
        rw [hget] at hk ⊢
        rcases hk with rfl | hk
        · exact .inr (hdl j hj)
        · exact .inr (hI.closed k hk j hj)
      · intro k ok hok' hk
        rw [hget] at hk
        rcases hk with rfl | hk
        · rw [ho] at hok'; cases hok'
          cases hdst : o.dst with
          | none => rw [hdst] at hv; exact hv
          | some d =>
            rw [hdst] at hv
            simp only []
            have hp := hput d
            rw [if_pos hdst, hdst] at hp
            rw [hp]; exact hv
        · have hki : i ≠ k := by
            intro e
            subst e
            rw [h0'] at hk; cases hk
          have hnd : depB ops k i = false := by
            cases hd : depB ops k i with
            | false => rfl
            | true =>
              have := hI.closed k hk i hd
              rw [h0'] at this; cases this
          have hvk := hst i k _ _ _ hki hnd (hI.vals k ok hok' hk) hb
          cases hdk : ok.dst with
          | none => rw [hdk] at hvk; exact hvk
          | some d =>
            rw [hdk] at hvk
            simp only [] at hvk ⊢
            have hne : o.dst ≠ some d := by
              intro e
              have h1 := (hd d e).2
              have h2 := ((monoOk_spec hok hok').1 d hdk).2
              rw [h1] at h2
              cases h2
              exact hki rfl
            rw [hput, if_neg hne]
            exact hvk
      · intro t ht
        rw [hput]
        have hne : o.dst ≠ some t := by
          intro e
          have := ht i (hd t e).2
          have h2 := (hget i).2 (.inl rfl)
          rw [this] at h2; cases h2
        rw [if_neg hne]
        refine hI.rest t (fun j hj => ?_)
        cases hLj : L.getD j false
        · rfl
        · have := ht j hj
          rw [(hget j).2 (.inr hLj)] at this; cases this
      · cases o.dst <;> exact hI.defers
      · rw [← hI.tsize]; cases o.dst <;> simp [Act.put]
    have hcount : (List.range ops.size).countP (fun k => !(L.setIfInBounds i true).getD k false) ≤ fuel := by
      have := countP_lt (l := List.range ops.size) (p := fun k => !L.getD k false) (q := fun k => !(L.setIfInBounds i true).getD k false)
        (fun k _ hk => by
          by_cases hki : k = i
          · subst hki; simp [h0']
          · rw [getD_set_ne false (fun e => hki e.symm)] at hk; exact hk)
        ⟨i, List.mem_range.2 hlt, by simp [h0'], by simp [Array.getD_eq_getD_getElem?, hls]⟩
      omega
    have hg := hop i o ho a w (hI.ext.mono (fun b _ h => by
      obtain ⟨k, h1, h2⟩ := h
      refine ⟨k, fun e => ?_, ?_, h2⟩
      · subst e; rw [h0'] at h1; cases h1
      · cases hd : depB ops k i with
        | false => rfl
        | true =>
          have := hI.closed k h1 i hd
          rw [h0'] at this; cases this)) hgood
    unfold wpOp
    rw [ho]
    simp only []
    split at hg
    · rename_i hw
      rw [if_pos hw]
      refine .inl (Oper.wp_mono ?_ hg)
      rintro a' w' ⟨v, rfl, hb, hv⟩
      exact ih _ _ _ (hstep v w' hb hv) hcount
    · rename_i hw
      rw [if_neg hw]
      exact ih _ _ _ (hstep undef w (Far.refl _ _) (by cases o.dst <;> exact hg)) hcount


/-- What the operations write: for each that writes, its blocks. -/
def footOf (Ws : List (Nat × (Nat → Prop))) (i : Nat) (b : Nat) : Prop := ∃ p ∈ Ws, p.1 = i ∧ p.2 b
def footBut (Ws : List (Nat × (Nat → Prop))) (ops : Array Oper) (i : Nat) (b : Nat) : Prop := ∃ p ∈ Ws, p.1 ≠ i ∧ depB ops p.1 i = false ∧ p.2 b
def StableF (E : Nat → Prop) (φ : Value → World → Prop) : Prop := ∀ v w w', φ v w → Far E w w' → φ v w'
theorem stableF_eq (E : Nat → Prop) (c : Value) : StableF E (fun v _ => v = c) := fun _ _ _ h _ => h
theorem stableF_true (E : Nat → Prop) : StableF E (fun _ _ => True) := fun _ _ _ _ _ => trivial
/-- All words but those of who comes ahead of i, and i's own, stand against what i writes. -/
def StableBut (ops : Array Oper) (i : Nat) (E : Nat → Prop) : Nat → List (Value → World → Prop) → Prop
  | _, [] => True
  | j, φ :: r => (i = j ∨ depB ops j i = true ∨ StableF E φ) ∧ StableBut ops i E (j + 1) r
def AllStableF (ops : Array Oper) (L : List (Value → World → Prop)) : List (Nat × (Nat → Prop)) → Prop
  | [] => True
  | p :: r => StableBut ops p.1 p.2 0 L ∧ AllStableF ops L r
theorem stableBut_get {ops : Array Oper} {i : Nat} {E : Nat → Prop} : ∀ {L : List (Value → World → Prop)} {s : Nat}, StableBut ops i E s L → ∀ j, i ≠ s + j → depB ops (s + j) i = false → StableF E (L.getD j (fun _ _ => True))
  | [], _, _, _, _, _ => by simpa using stableF_true E
  | φ :: r, s, h, 0, hne, hd => by
    rcases h.1 with h | h | h
    · exact absurd h hne
    · rw [Nat.add_zero] at hd; rw [hd] at h; cases h
    · exact h
  | φ :: r, s, h, j + 1, hne, hd => by
    have := stableBut_get (L := r) (s := s + 1) h.2 j (by omega) (by rw [show s + 1 + j = s + (j + 1) by omega]; exact hd)
    simpa using this
theorem allStableF_get {ops : Array Oper} {L : List (Value → World → Prop)} : ∀ {Ws : List (Nat × (Nat → Prop))}, AllStableF ops L Ws → ∀ p ∈ Ws, StableBut ops p.1 p.2 0 L
  | [], _, _, hp => by cases hp
  | q :: r, h, p, hp => by
    cases hp with
    | head => exact h.1
    | tail _ hp => exact allStableF_get h.2 p hp
/-- Each writer once. -/
def onceB (Ws : List (Nat × (Nat → Prop))) : Bool := (Ws.map (·.1)).all fun i => (Ws.map (·.1)).count i == 1
theorem once_same {Ws : List (Nat × (Nat → Prop))} (h : onceB Ws = true) {p q : Nat × (Nat → Prop)} (hp : p ∈ Ws) (hq : q ∈ Ws) (e : p.1 = q.1) : p = q := by
  induction Ws with
  | nil => cases hp
  | cons x r ih =>
    have hx : ∀ y ∈ r, y.1 ≠ x.1 := by
      intro y hy e
      have h1 := List.all_eq_true.1 h x.1 (by simp)
      rw [beq_iff_eq, List.map_cons, List.count_cons_self] at h1
      have : (r.map (·.1)).count x.1 = 0 := by omega
      exact (List.count_eq_zero.1 this) (List.mem_map.2 ⟨y, hy, e⟩)
    have hr : onceB r = true := by
      unfold onceB at h ⊢
      rw [List.all_eq_true] at h ⊢
      intro i hi
      have h1 := h i (by rw [List.map_cons]; exact .tail _ hi)
      obtain ⟨y, hy, rfl⟩ := List.mem_map.1 hi
      rw [beq_iff_eq, List.map_cons, List.count_cons_of_ne (fun e => hx y hy e.symm)] at h1
      rw [beq_iff_eq]; exact h1
    cases hp with
    | head =>
      cases hq with
      | head => rfl
      | tail _ hq => exact absurd e.symm (hx q hq)
    | tail _ hp =>
      cases hq with
      | head => exact absurd e (hx p hp)
      | tail _ hq => exact ih hr hp hq
def FootOps (P : Program) (ops : Array Oper) (Q : Exit → Act → World → Prop) (L : List (Value → World → Prop)) (Ws : List (Nat × (Nat → Prop))) (a0 : Act) (w0 : World) : Nat → List Oper → List (List (Tmp × Option Nat)) → List (Value → World → Prop) → Prop
  | i, o :: os, pl :: pls, φ :: φs => (∀ a w, Far (footBut Ws ops i) w0 w → PlanFacts L a0 a w pl →
      if Region.wanted o (yielded ops a.tmps) = true then o.wp P a w (fun a' w' => ∃ v, a' = a.put o.dst v ∧ Far (footOf Ws i) w w' ∧ φ (valOf o.dst v) w') Q else φ undef w) ∧ FootOps P ops Q L Ws a0 w0 (i + 1) os pls φs
  | _, [], _, _ => True
  | _, _, _, _ => False
theorem footOps_get {L : List (Value → World → Prop)} {Ws : List (Nat × (Nat → Prop))} {a0 : Act} {w0 : World} : ∀ {s : Nat} {os : List Oper} {pls : List (List (Tmp × Option Nat))} {φs : List (Value → World → Prop)}, FootOps P ops Q L Ws a0 w0 s os pls φs →
    ∀ (i : Nat) o pl, os[i]? = some o → pls[i]? = some pl → ∀ a w, Far (footBut Ws ops (s + i)) w0 w → PlanFacts L a0 a w pl →
      if Region.wanted o (yielded ops a.tmps) = true then o.wp P a w (fun a' w' => ∃ v, a' = a.put o.dst v ∧ Far (footOf Ws (s + i)) w w' ∧ φs.getD i (fun _ _ => True) (valOf o.dst v) w') Q else φs.getD i (fun _ _ => True) undef w
  | _, [], _, _, _, i, o, pl, ho, _ => by simp at ho
  | _, o :: os, [], _, h, _, _, _, _, _ => h.elim
  | _, o :: os, pl :: pls, [], h, _, _, _, _, _ => h.elim
  | _, o :: os, pl :: pls, φ :: φs, h, 0, o', pl', ho, hp => by
    simp at ho hp; subst ho; subst hp
    exact h.1
  | s, o :: os, pl :: pls, φ :: φs, h, i + 1, o', pl', ho, hp => by
    have := footOps_get h.2 i o' pl' (by simpa using ho) (by simpa using hp)
    rw [show s + 1 + i = s + (i + 1) by omega] at this
    simpa using this
def EveryWord (f : Nat → Value) (w : World) : List (Option Tmp) → List (Value → World → Prop) → Prop
  | some d :: ds, φ :: φs => φ (f d) w ∧ EveryWord f w ds φs
  | none :: ds, φ :: φs => φ undef w ∧ EveryWord f w ds φs
  | _, _ => True
theorem everyWord_of {f : Nat → Value} {w : World} : ∀ {os : List Oper} {L : List (Value → World → Prop)}, (∀ i o, os[i]? = some o → L.getD i (fun _ _ => True) (match o.dst with | some d => f d | none => undef) w) → EveryWord f w (os.map (·.dst)) L
  | [], _, _ => by simp [EveryWord]
  | o :: os, [], _ => by cases h : o.dst <;> simp [EveryWord, h]
  | o :: os, φ :: φs, h => by
    have ih := everyWord_of (os := os) (L := φs) (fun i o' ho => by have := h (i + 1) o' (by simpa using ho); simpa using this)
    have h0 := h 0 o rfl
    cases hd : o.dst with
    | none => rw [hd] at h0; simpa [EveryWord, hd] using ⟨h0, ih⟩
    | some d => rw [hd] at h0; simpa [EveryWord, hd] using ⟨h0, ih⟩

theorem footBut_no {Ws : List (Nat × (Nat → Prop))} {ops : Array Oper} {i k : Nat} (h : ∀ p ∈ Ws, ¬ p.2 k) : ¬ footBut Ws ops i k := fun ⟨p, hp, _, _, h3⟩ => h p hp h3
theorem foot_below {Ws : List (Nat × (Nat → Prop))} {ops : Array Oper} {i : Nat} {w z : World} (h : Far (footBut Ws ops i) w z) (hd : ∀ p ∈ Ws, depB ops p.1 i = true) : Below w.heap.size w z :=
  h.below (Nat.le_refl _) (fun _ _ ⟨p, hp, _, h2, _⟩ => by rw [hd p hp] at h2; cases h2)
theorem footOf_of {Ws : List (Nat × (Nat → Prop))} {i : Nat} {E : Nat → Prop} {w w' : World} (hp : (i, E) ∈ Ws) (h : Far E w w') : Far (footOf Ws i) w w' := h.mono (fun _ _ hb => ⟨(i, E), hp, rfl, hb⟩)
/-- The region's law: words for the operations, blocks for those that write, the frame behind it written out. -/
theorem wp_region_foot {id : Nat} {a0 : Act} {w0 : World} (hm : P.follows .mixedOrders = true) (L : List (Value → World → Prop)) (plan : List (List (Tmp × Option Nat))) (D : List (Option Tmp)) (M : List Bool) (Ws : List (Nat × (Nat → Prop)))
    (hon : onceB Ws = true) (hok : monoOk ops a0.tmps.size = true) (hplan : planOf ops = plan) (hD : dstsOf ops = D) (hM : maskOf ops a0.tmps.size = M) (hst : AllStable L) (hstF : AllStableF ops L Ws) (hop : FootOps P ops Q L Ws a0 w0 0 ops.toList plan L)
    (hend : ∀ f w, Far (fun b => ∃ p ∈ Ws, p.2 b) w0 w → EveryWord f w D L → Q .normal { tmps := (mergeT M a0.tmps.toList 0 f).toArray, defers := a0.defers } w) :
    (Code.region id ops true).wp P Q a0 w0 := by
  refine wp_region_any hm (mono_foot (w0 := w0) (fun i => L.getD i (fun _ _ => True)) (footOf Ws) hok ?_ ?_ ?_ ops.size _ a0 _ ⟨by simp, far_below ((Below.refl _ _).drew), ?_, ?_, fun _ _ => rfl, rfl, rfl⟩ ?_)
  · intro i j v w w' hij hd hv hF
    by_cases hi : ∃ p ∈ Ws, p.1 = i
    · obtain ⟨p, hp, rfl⟩ := hi
      have hs := stableBut_get (allStableF_get hstF p hp) j (by omega) (by rw [Nat.zero_add]; exact hd)
      exact hs v w w' hv (hF.mono (fun b _ h => by
        obtain ⟨q, hq, e, hb⟩ := h
        rw [once_same hon hp hq e.symm]; exact hb))
    · exact allStable_get hst j v w w' hv (hF.below (Nat.le_refl _) (fun k _ h => by
        obtain ⟨q, hq, e, _⟩ := h
        exact hi ⟨q, hq, e⟩))
  · intro i o ho a w hb hg
    have hlt : i < ops.size := (Array.getElem?_eq_some_iff.1 ho).1
    have hpl : plan[i]? = some ((o.looksAt ops).map fun t => (t, match wr ops t with
          | some j => if depB ops i j = true then some j else none
          | none => none)) := by
      rw [← hplan]
      unfold planOf
      rw [List.getElem?_map, List.getElem?_range hlt, Option.map_some, ho]
      try rfl
    have := footOps_get hop i o _ (by simpa using ho) hpl a w (by
      rw [Nat.zero_add]
      exact hb.mono (fun b _ h => by
        obtain ⟨k, h1, h2, p, hp, rfl, h3⟩ := h
        exact ⟨p, hp, h1, h2, h3⟩)) (planFacts_of rfl (o := o) _ hg)
    rw [Nat.zero_add] at this
    exact this
  · intro a w hb hv hr hd hs
    have h := hend (fun t => a.tmps.getD t undef) w (hb.mono (fun b _ h => by
      obtain ⟨k, p, hp, _, h3⟩ := h
      exact ⟨p, hp, h3⟩)) (by rw [← hD]; exact everyWord_of (fun i o ho => hv i o (by simpa using ho)))
    have e : mergeT M a0.tmps.toList 0 (fun t => a.tmps.getD t undef) = a.tmps.toList := by
      refine mergeT_eq _ _ _ _ _ (by rw [← hM]; simp [maskOf]) (by simpa using hs) ?_ ?_
      · intro j hj _
        simp [Array.getD_eq_getD_getElem?, List.getD_eq_getElem?_getD]
      · intro j hj hb
        rw [← hM] at hb
        have hj' : j < a0.tmps.size := by rw [← hs]; simpa using hj
        have hw : wr ops j = none := by
          unfold maskOf at hb
          simp [List.getD_eq_getElem?_getD, List.getElem?_map, List.getElem?_range hj'] at hb
          exact hb
        have := hr j hw
        simpa [Array.getD_eq_getD_getElem?, List.getD_eq_getElem?_getD] using this
    rw [e, ← hd] at h
    exact h
  · intro k hk
    simp [Array.getD_eq_getD_getElem?] at hk
    rcases h : (Array.replicate ops.size false)[k]? with _ | b <;> simp [h] at hk
    subst hk
    have := Array.getElem?_eq_some_iff.1 h
    obtain ⟨h1, h2⟩ := this
    simp at h2
  · intro i o ho hk
    exfalso
    simp [Array.getD_eq_getD_getElem?] at hk
    rcases h : (Array.replicate ops.size false)[i]? with _ | b <;> simp [h] at hk
    subst hk
    have := Array.getElem?_eq_some_iff.1 h
    obtain ⟨h1, h2⟩ := this
    simp at h2
  · exact Nat.le_trans List.countP_le_length (by simp)
end
end Go.Proofs.YtamafdcnbcoegaaGreat
namespace Go.Proofs.YtamafdcnbcoegaaGreat
open Go.RowKit

theorem alloc2 (w : World) (A B : Obj) : ((w.alloc A).alloc B).heap[w.heap.size]? = some A ∧ ((w.alloc A).alloc B).heap[w.heap.size + 1]? = some B ∧ Below w.heap.size w ((w.alloc A).alloc B) := by
  have h1 := heap_alloc_new (w.alloc A) B
  have e1 : (w.alloc A).heap.size = w.heap.size + 1 := by simp
  rw [e1] at h1
  refine ⟨?_, h1, ((Below.refl _ _).alloc (Nat.le_refl _) _).alloc (by omega) _⟩
  rw [heap_alloc_old _ _ (by omega)]
  exact heap_alloc_new w A

set_option maxRecDepth 100000 in
set_option maxHeartbeats 2000000 in
theorem sealHead_any (o c a b d : Nat) (w : World) (ho : o < 4294967296) (hc : c < 18446744073709551616) (ha : a < 4294967296) (hb : b < 4294967296) (hd : d < 4294967296) :
    Calls Tryz.prog 198 #[.agg #[.int .u32 o, .int .u64 c, .int .i64 a, .int .i64 b, .int .i64 d]] w fun r w' => r = .returned (.agg (bv (Mod.sealB o c (Mod.headIn a b d))).toArray) ∧ Below w.heap.size w w' := by
  have e0 : ∀ y : World, (Instr.index 136 (.agg #[.int .i64 a, .int .i64 b, .int .i64 d]) (.int .i64 0)).run Tryz.prog y = .ok (.int .i64 a) y := fun y => by kernel_rfl
  have e1 : ∀ y : World, (Instr.index 136 (.agg #[.int .i64 a, .int .i64 b, .int .i64 d]) (.int .i64 1)).run Tryz.prog y = .ok (.int .i64 b) y := fun y => by kernel_rfl
  have e2 : ∀ y : World, (Instr.index 136 (.agg #[.int .i64 a, .int .i64 b, .int .i64 d]) (.int .i64 2)).run Tryz.prog y = .ok (.int .i64 d) y := fun y => by kernel_rfl
  have hl : ∀ n : Int, (Wire.le4 n).length = 4 := fun n => Wire.length_le4 n
  go_enter Tryz.func198, Tryz.ntmps198
  go_upto_region 2 with fail
  refine wp_world (fun x => x.heap[w.heap.size]? = some (.cells #[.int .u32 o, .int .u64 c, .int .i64 a, .int .i64 b, .int .i64 d] 217 (0, 0)) ∧ x.heap[w.heap.size + 1]? = some (.cells (bv zeros).toArray 207 (0, 0)) ∧ Below w.heap.size w x) ?_ ?_
  · exact ⟨(alloc2 _ _ _).1, cells_eq (alloc2 _ _ _).2.1 (by kernel_rfl), (alloc2 _ _ _).2.2⟩
  rintro x ⟨h0, h1, hB⟩
  have c2 : x.cell? ⟨w.heap.size, 2, none⟩ = some (.int .i64 a) := blk_cell (i := 2) h0
  have c3 : x.cell? ⟨w.heap.size, 3, none⟩ = some (.int .i64 b) := blk_cell (i := 3) h0
  have c4 : x.cell? ⟨w.heap.size, 4, none⟩ = some (.int .i64 d) := blk_cell (i := 4) h0
  have hz := lt_of_block h1
  have H0 := hide h0
  have H1 := hide h1
  have HB0 := hide hB
  clear h0 h1 hB
  go_wp2
  go_loopw [3, 5, 8] (fun v _ i wr => ∃ j : Nat, j ≤ 3 ∧ i = .int .i64 j ∧ Owns (w.heap.size + 2) wr v ((Mod.headIn a b d).take (4 * j)) ∧ wr.heap[w.heap.size]? = some (.cells #[.int .u32 o, .int .u64 c, .int .i64 a, .int .i64 b, .int .i64 d] 217 (0, 0)) ∧ wr.heap[w.heap.size + 1]? = some (.cells (bv zeros).toArray 207 (0, 0)) ∧ Below w.heap.size w wr) (fun _ _ i _ => 3 - (intOf i).toNat)
  case atStart => exact ⟨0, by omega, rfl, owns_nil _ _, unhide H0, unhide H1, unhide HB0⟩
  case round =>
    obtain ⟨j, hj, rfl, ho', h0', h1', hb'⟩ := hrel
    clear H0 H1 HB0 c2 c3 c4
    have hz' := lt_of_block h1'
    have HO := hide ho'
    have H0 := hide h0'
    have H1 := hide h1'
    have HB := hide hb'
    clear ho' h0' h1' hb'
    rcases (show j = 0 ∨ j = 1 ∨ j = 2 ∨ j = 3 by omega) with rfl | rfl | rfl | rfl
    · have HL := hide (show (Mod.headIn a b d).take (4 * (0 + 1)) = (Mod.headIn a b d).take (4 * 0) ++ Wire.le4 a by simp [Mod.headIn, Wire.le4])
      go_upto_region 6 with (go_at_call 135; refine (appendNumber_any (w.heap.size + 2) (a : Int) u3 _ wr (by simp only [List.length_take, Mod.length_headIn]; omega) (by omega) (by omega) (unhide HO)).mono ?_; rintro r z ⟨v', rfl, hown, hg⟩; have hb2 : Below (w.heap.size + 2) wr z := below_grown_new hg (by omega) (fun g hg => ((unhide HO).lt g hg).1); have HO2 := hide hown; have HB2 := hide ((unhide HB).trans (hb2.mono (by omega))); have H02 := hide ((hb2.block _ (by omega)).trans (unhide H0)); have H12 := hide ((hb2.block _ (by omega)).trans (unhide H1)); clear hown hg hb2)
      go_wp2
      exact ⟨⟨0 + 1, by omega, by go_num, by rw [unhide HL]; exact unhide HO2, unhide H02, unhide H12, unhide HB2⟩, by simp [intOf]⟩
    · have HL := hide (show (Mod.headIn a b d).take (4 * (1 + 1)) = (Mod.headIn a b d).take (4 * 1) ++ Wire.le4 b by simp [Mod.headIn, Wire.le4])
      go_upto_region 6 with (go_at_call 135; refine (appendNumber_any (w.heap.size + 2) (b : Int) u3 _ wr (by simp only [List.length_take, Mod.length_headIn]; omega) (by omega) (by omega) (unhide HO)).mono ?_; rintro r z ⟨v', rfl, hown, hg⟩; have hb2 : Below (w.heap.size + 2) wr z := below_grown_new hg (by omega) (fun g hg => ((unhide HO).lt g hg).1); have HO2 := hide hown; have HB2 := hide ((unhide HB).trans (hb2.mono (by omega))); have H02 := hide ((hb2.block _ (by omega)).trans (unhide H0)); have H12 := hide ((hb2.block _ (by omega)).trans (unhide H1)); clear hown hg hb2)
      go_wp2
      exact ⟨⟨1 + 1, by omega, by go_num, by rw [unhide HL]; exact unhide HO2, unhide H02, unhide H12, unhide HB2⟩, by simp [intOf]⟩
    · have HL := hide (show (Mod.headIn a b d).take (4 * (2 + 1)) = (Mod.headIn a b d).take (4 * 2) ++ Wire.le4 d by simp [Mod.headIn, Wire.le4])
      go_upto_region 6 with (go_at_call 135; refine (appendNumber_any (w.heap.size + 2) (d : Int) u3 _ wr (by simp only [List.length_take, Mod.length_headIn]; omega) (by omega) (by omega) (unhide HO)).mono ?_; rintro r z ⟨v', rfl, hown, hg⟩; have hb2 : Below (w.heap.size + 2) wr z := below_grown_new hg (by omega) (fun g hg => ((unhide HO).lt g hg).1); have HO2 := hide hown; have HB2 := hide ((unhide HB).trans (hb2.mono (by omega))); have H02 := hide ((hb2.block _ (by omega)).trans (unhide H0)); have H12 := hide ((hb2.block _ (by omega)).trans (unhide H1)); clear hown hg hb2)
      go_wp2
      exact ⟨⟨2 + 1, by omega, by go_num, by rw [unhide HL]; exact unhide HO2, unhide H02, unhide H12, unhide HB2⟩, by simp [intOf]⟩
    · rw [List.take_of_length_le (by rw [Mod.length_headIn]; omega)] at HO
      have c0 : wr.cell? ⟨w.heap.size, 0, none⟩ = some (.int .u32 o) := blk_cell (i := 0) (unhide H0)
      have c1 : wr.cell? ⟨w.heap.size, 1, none⟩ = some (.int .u64 c) := blk_cell (i := 1) (unhide H0)
      have hS := hide (seal_any o c (Mod.headIn a b d) u3 wr ho hc (by rw [Mod.length_headIn]; omega) (unhide HO).at)
      have hL3 : (Mod.sealB o c (Mod.headIn a b d)).length = 64 := Mod.length_sealB o c (by rw [Mod.length_headIn]; omega)
      obtain ⟨S, hSd⟩ : ∃ S, S = Mod.sealB o c (Mod.headIn a b d) := ⟨_, rfl⟩
      rw [← hSd] at hS hL3
      have HSD := hide hSd
      clear hSd
      go_wp2_with (first
        | (go_at_call 184; refine (unhide hS).mono ?_; rintro r z ⟨rfl, hb3⟩)
        | (refine wpList_store_sec rfl (.tmp 2) (.tmp 19) rfl (w.heap.size + 1) rfl S hL3 rfl 207 _ (by simp [bv_length, length_zeros]) ((hb3.block _ (by omega)).trans (unhide H1)) ?_; intro z4 hz4 hF4; go_simp))
      exact bodyPost_ret (results_sec Tryz.results198 _ _ (w.heap.size + 1) _ _ hL3 rfl hz4) rfl ⟨by rw [unhide HSD], ((unhide HB).trans (hb3.mono (unhide HB).size)).trans (hF4.below (by have := (unhide HB).size; have := hb3.size; omega) (fun k hk e => by omega))⟩

/-- append of a string's bytes. -/
theorem oper_app_str {o : Oper} {a : Act} {K : Act → World → Prop} {Q : Exit → Act → World → Prop} {w : World} (s x : Operand)
    (ho : o.op = .call { callee := .builtin .append, args := #[s, x], argTypes := #[44, 9] }) (B : Nat) (v : Value) (l : List UInt8) (hown : Owns B w v l) (hs : a.eval s = v)
    (str : ByteArray) (hx : a.eval x = .string str) (hsz : l.length + str.size ≤ 140737488355328) (hB : B ≤ w.heap.size)
    (h : ∀ v' w', Owns B w' v' (l ++ str.data.toList) → w.grownBy w' v.ownBlock → K (a.put o.dst v') w') : o.wp Tryz.prog a w K Q := by
  obtain ⟨i0, hi, hz0, hz1, hz2⟩ := info_parts info5
  obtain ⟨v', w', hr, h1, h2, _⟩ := Lib.run_append_own_string (P := Tryz.prog) w B 44 9 o.type 5 i0 Tryz.underlying44 Tryz.underlying9 hi hz0 hz1 hz2 v l.length (bv l) hown str
    (by unfold maxLen; omega) hsz hB
  unfold Oper.wp execOp
  simp only [ho, resolve, invoke, builtin, Sem.run_bind, Sem.run_pure, Result.andThen_ok, List.map_toArray, List.map_cons, List.map_nil, hs, hx, hr]
  refine h v' w' ?_ h2
  unfold Owns
  rw [bv_append, List.length_append, ← bv_str]
  have : str.data.toList.length = str.size := by simp
  rw [this]
  exact h1
theorem ownsRow_keepB {w w' : World} {B size : Nat} {e : TypeId} {v : Value} {n : Nat} {xs : List Value} (h : w.ownsRow B e size v n xs) (hk : ∀ g, v.ownBlock = some g → w'.heap[g]? = w.heap[g]?) : w'.ownsRow B e size v n xs := by
  obtain ⟨h1, h2⟩ := h
  refine ⟨h1, ?_⟩
  rcases h2 with h2 | ⟨g, cap, cur, rfl, hb, hh, r⟩
  · exact .inl h2
  · exact .inr ⟨g, cap, cur, rfl, hb, by rw [hk g rfl]; exact hh, r⟩
theorem stableF_ownsW {B : Nat} {l : List UInt8} {E : Nat → Prop} (hE : ∀ k, E k → k < B) : StableF E (OwnsW B l) := fun _ _ _ h hF =>
  ⟨ownsRow_keepB h.1 (fun g hg => hF.rest g (h.2 g hg) (fun e => by have := (h.1.lt g hg).1; have := hE g e; omega)), fun g hg => Nat.lt_of_lt_of_le (h.2 g hg) hF.size⟩
theorem stable_blk (k : Nat) (o : Obj) : Stable (fun _ w => w.heap[k]? = some o) := fun _ _ _ h hb => (hb.block k (lt_of_block h)).trans h
theorem stableF_blk {k : Nat} {o : Obj} {E : Nat → Prop} (hE : ¬ E k) : StableF E (fun _ w => w.heap[k]? = some o) := fun _ _ _ h hF => hF.blk h hE
theorem owns_two {B : Nat} (x : World) (hB : B ≤ x.heap.size) (a b : Nat) (ha : a < 256) (hb : b < 256) : Owns B (x.alloc (.cells #[.int .u8 a, .int .u8 b] 5)) (.slice (some ⟨x.heap.size, 0, none⟩) 2 2) [UInt8.ofNat (a % 256), UInt8.ofNat (b % 256)] := by
  refine ⟨by simp [bv], .inr ⟨x.heap.size, 2, _, rfl, hB, heap_alloc_new x _, by simp, by unfold maxLen; omega, by simp, ?_⟩⟩
  have h1 : a % 256 = a := by omega
  have h2 : b % 256 = b := by omega
  simp [bv, h1, h2]

set_option maxRecDepth 100000 in
set_option maxHeartbeats 2000000 in
theorem sealRecord_any (o c st q : Nat) (b : ByteArray) (w : World) (ho : o < 4294967296) (hc : c < 18446744073709551616) (hs : st < 256) (hq : q < 4294967296) (hb : b.size ≤ 20) :
    Calls Tryz.prog 131 #[.agg #[.int .u32 o, .int .u64 c], .agg #[.int .i64 st, .int .i64 q, .string b]] w fun r w' => r = .returned (.agg (bv (Mod.sealB o c (Mod.recIn st q b.data.toList))).toArray) ∧ Below w.heap.size w w' := by
  have hws : IntKind.u8.wrap (st : Int) = (st : Int) := by rw [IntKind.wrap_u8]; omega
  have hwb : IntKind.u8.wrap (b.size : Int) = (b.size : Int) := by rw [IntKind.wrap_u8]; omega
  have hwq : IntKind.u32.wrap (q : Int) = (q : Int) := by rw [IntKind.wrap_u32]; omega
  go_enter Tryz.func131, Tryz.ntmps131
  go_upto_region 1 with fail
  refine wp_world (fun x => x.heap[w.heap.size]? = some (.cells #[.int .u32 o, .int .u64 c] 201 (0, 0)) ∧ x.heap[w.heap.size + 1]? = some (.cells #[.int .i64 st, .int .i64 q, .string b] 155 (0, 0)) ∧ x.heap[w.heap.size + 2]? = some (.cells (bv zeros).toArray 207 (0, 0)) ∧ Below w.heap.size w x) ?_ ?_
  · exact ⟨(alloc3 _ _ _ _).1, (alloc3 _ _ _ _).2.1, cells_eq (alloc3 _ _ _ _).2.2.1 (by kernel_rfl), (alloc3 _ _ _ _).2.2.2⟩
  rintro x ⟨h0, h1, h2, hB⟩
  have hz := lt_of_block h2
  have c0 : x.cell? ⟨w.heap.size + 1, 0, none⟩ = some (.int .i64 st) := blk_cell (i := 0) h1
  have c1 : x.cell? ⟨w.heap.size + 1, 1, none⟩ = some (.int .i64 q) := blk_cell (i := 1) h1
  have c2 : x.cell? ⟨w.heap.size + 1, 2, none⟩ = some (.string b) := blk_cell (i := 2) h1
  have c1a : ∀ ob, (x.alloc ob).cell? ⟨w.heap.size + 1, 1, none⟩ = some (.int .i64 q) := fun ob => by
    exact (World.cell?_alloc_lt x _ ⟨w.heap.size + 1, 1, none⟩ (by show w.heap.size + 1 < _; omega)).trans c1
  have H0 := hide h0
  have H1 := hide h1
  have H2 := hide h2
  have HB := hide hB
  clear h0 h1 h2 hB
  have hA := fun (v : Value) (l : List UInt8) (n : Int) (y : World) (h1 : l.length ≤ 1000) (h2 : w.heap.size + 3 ≤ y.heap.size) (h3 : 0 ≤ n) (h4 : Owns (w.heap.size + 3) y v l) => hide (appendNumber_any (w.heap.size + 3) n v l y h1 h2 h3 h4)
  have hO2 := hide (owns_two x (B := w.heap.size + 3) (by omega) st b.size hs (by omega))
  go_upto_region 2 with (go_at_call 135; refine (unhide (hA _ _ (q : Int) _ (by simp) (by simp; omega) (by omega) (unhide hO2))).mono ?_; rintro r y ⟨v5, rfl, hown, hg⟩)
  have b1 : Below (w.heap.size + 3) x y := ((Below.refl _ _).alloc (by omega) _).trans (below_grown_new hg (by simp; omega) (fun g hg => ((unhide hO2).lt g hg).1))
  have H0 := hide ((b1.block _ (by omega)).trans (unhide H0))
  have h1y := (b1.block (w.heap.size + 1) (by omega)).trans (unhide H1)
  have H2 := hide ((b1.block (w.heap.size + 2) (by omega)).trans (unhide H2))
  have HB := hide ((unhide HB).trans (b1.mono (by omega)))
  have hzy := b1.size
  have HO := hide hown
  have c0 : y.cell? ⟨w.heap.size, 0, none⟩ = some (.int .u32 o) := blk_cell (i := 0) (unhide H0)
  have c0' : y.cell? ⟨w.heap.size, 1, none⟩ = some (.int .u64 c) := blk_cell (i := 1) (unhide H0)
  have c2 : y.cell? ⟨w.heap.size + 1, 2, none⟩ = some (.string b) := blk_cell (i := 2) h1y
  clear hown hg hO2 c1a c1 h1y b1
  have hrl : (Mod.recIn st q b.data.toList).length ≤ 40 := by rw [Mod.length_recIn]; simp; omega
  have hL3 : (Mod.sealB o c (Mod.recIn st q b.data.toList)).length = 64 := Mod.length_sealB o c hrl
  obtain ⟨R, hR⟩ : ∃ R, R = Mod.recIn st q b.data.toList := ⟨_, rfl⟩
  rw [← hR] at hrl hL3
  have hRe : [UInt8.ofNat (st % 256), UInt8.ofNat (b.size % 256)] ++ Wire.le4 q ++ b.data.toList = R := by rw [hR]; simp [Mod.recIn]
  have hS := fun v y hat => hide (seal_any o c R v y ho hc hrl hat)
  obtain ⟨S, hSd⟩ : ∃ S, S = Mod.sealB o c R := ⟨_, rfl⟩
  rw [← hSd] at hS hL3
  have hSR := hide (show S = Mod.sealB o c (Mod.recIn st q b.data.toList) by rw [hSd, hR])
  have hRe := hide hRe
  clear hSd hR
  have hvB := hide (fun g hg => ((unhide HO).lt g hg).1)
  have hnb : ∀ k, k < w.heap.size + 2 → ∀ p ∈ ([(4, fun k => v5.ownBlock = some k), (6, fun k => k = w.heap.size + 2)] : List (Nat × (Nat → Prop))), ¬ p.2 k := by
    intro k hk p hp
    simp at hp
    rcases hp with rfl | rfl
    · intro e
      have := (unhide hvB) k e
      omega
    · intro e
      have e : k = w.heap.size + 2 := e
      omega
  refine wp_region_foot (by kernel_rfl)
    [fun v _ => v = .agg #[.int .u32 o, .int .u64 c], fun v _ => v = v5, fun v _ => v = .pointer (some ⟨w.heap.size + 1, 2, none⟩), fun v _ => v = .string b, OwnsW (w.heap.size + 3) R, fun v _ => v = .agg (bv S).toArray, fun _ z => z.heap[w.heap.size + 2]? = some (.cells (bv S).toArray 207 (0, 0))]
    [[(2, none)], [(5, none)], [(3, none)], [(20, some 2)], [(19, some 1), (21, some 3)], [(18, some 0), (22, some 4)], [(4, none), (23, some 5)]] [some 18, some 19, some 20, some 21, some 22, some 23, none] [false, false, false, false, false, false, false, false, false, false, false, false, false, false, false, false, false, false, true, true, true, true, true, true]
    [(4, fun k => v5.ownBlock = some k), (6, fun k => k = w.heap.size + 2)]
    (by kernel_rfl) (by kernel_rfl) (by kernel_rfl) (by kernel_rfl) (by kernel_rfl) ?_ ?_ ?_ ?_
  · repeat' (first | exact stable_eq _ | exact stable_ownsW _ _ | exact stable_blk _ _ | exact trivial | apply And.intro)
  · repeat' (first | exact trivial | exact .inl rfl | exact .inr (.inr (stableF_eq _ _)) | exact .inr (.inr (stableF_ownsW (fun k hk => by omega))) | exact .inr (.inr (stableF_blk (fun e => by have := (unhide hvB) _ e; omega))) | apply And.intro)
  · refine ⟨?_, ?_, ?_, ?_, ?_, ?_, ?_, trivial⟩
    all_goals
      intro a z hb hf
      have z0 := hb.blk (unhide H0) (footBut_no (hnb _ (by omega)))
      have d0 : z.cell? ⟨w.heap.size, 0, none⟩ = some (.int .u32 o) := blk_cell (i := 0) z0
      have d1 : z.cell? ⟨w.heap.size, 1, none⟩ = some (.int .u64 c) := blk_cell (i := 1) z0
      have d2 : z.cell? ⟨w.heap.size + 1, 2, none⟩ = some (.string b) := by
        have := hb.rest (w.heap.size + 1) (by omega) (footBut_no (hnb _ (by omega)))
        unfold World.cell? at c2 ⊢
        simp only at c2 ⊢
        rw [this]
        exact c2
      have hzz := hb.size
      have HBZ := hide hb
      clear hb z0
      simp only [PlanFacts, List.getD_cons_zero, List.getD_cons_succ, Array.getD_eq_getD_getElem?] at hf
      try simp at hf
    · go_simp
      exact ⟨_, rfl, Far.refl _ _, rfl⟩
    · go_simp
      exact ⟨_, rfl, Far.refl _ _, rfl⟩
    · go_simp
      exact ⟨_, rfl, Far.refl _ _, rfl⟩
    · go_simp
      exact ⟨_, rfl, Far.refl _ _, rfl⟩
    · have hoz : Owns (w.heap.size + 3) z v5 _ := ownsRow_keepB (unhide HO) (fun g hg => (unhide HBZ).rest g ((unhide HO).lt g hg).2 (by
        rintro ⟨p, hp, h1, _, h3⟩
        simp at hp
        rcases hp with rfl | rfl
        · exact h1 rfl
        · have := (unhide hvB) g hg
          have h3 : g = w.heap.size + 2 := h3
          omega))
      rw [if_pos (by rfl)]
      refine oper_app_str (.tmp 19) (.tmp 21) rfl (w.heap.size + 3) v5 _ hoz (by simp [Act.eval, hf]) b (by simp [Act.eval, hf]) (by simp [Wire.length_le4]; omega) (by omega) ?_
      intro v' w' h1 h2
      rw [show _ = R from unhide hRe] at h1
      exact ⟨v', rfl, footOf_of (.head _) (far_grown h2), h1, fun g hg => (h1.lt g hg).2⟩
    · go_simp
      refine (unhide (hS _ z hf.2.1.at)).mono ?_
      rintro r w1 ⟨rfl, hb1⟩
      exact ⟨_, rfl, far_below hb1, rfl⟩
    · have z2 := (unhide HBZ).blk (unhide H2) (by
        rintro ⟨p, hp, h1, _, h3⟩
        simp at hp
        rcases hp with rfl | rfl
        · have := (unhide hvB) _ h3
          omega
        · exact h1 rfl)
      rw [if_pos (by rfl)]
      refine oper_store_sec (.tmp 4) (.tmp 23) rfl (w.heap.size + 2) (by simp [Act.eval, hf]) S hL3 (by simp [Act.eval, hf]) 207 _ (by simp [bv_length, length_zeros]) z2 ?_
      intro w' h1 h2
      exact ⟨_, rfl, footOf_of (.tail _ (.head _)) h2, h1⟩
  · intro f z hF hwd
    have hsec := hwd.2.2.2.2.2.2.1
    have HBZ := hide ((unhide HB).trans (hF.below (by omega) (fun k hk h => by
      obtain ⟨p, hp, h3⟩ := h
      exact hnb k (by omega) p hp h3)))
    clear hwd hF
    simp only [mergeT]
    generalize f 18 = x18
    generalize f 19 = x19
    generalize f 20 = x20
    generalize f 21 = x21
    generalize f 22 = x22
    generalize f 23 = x23
    go_simp
    go_wp2
    exact bodyPost_ret (results_sec Tryz.results131 _ _ (w.heap.size + 2) _ _ hL3 rfl hsec) rfl ⟨by rw [unhide hSR], unhide HBZ⟩
end Go.Proofs.YtamafdcnbcoegaaGreat
