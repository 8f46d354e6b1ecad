/-
  Part 5 of a proof: D12, D13, D14, D15, D16, D17, Y7, Y8, Y9, Y10, Y11, T1, G4, G5, MonoCut, T2, U1, U2, F1, S10, S11, S12, S7U, S7I, S7S, S8S, F2.
-/
import Derived.Laws.Cover3
import Derived.Deep.RegionLaw
import Derived.RangeFuncNested
import Derived.RangeFuncBound
import Derived.RangeFuncCalls
import Derived.RangeFuncLeaves
import Derived.Shelf.Abstract
import Derived.Shelf.RegionOpen
import Derived.OwnWalkIn
import Derived.TacticsInMore
import Derived.LoopNIn
import Derived.LoopIn
import Derived.Test.YtamafdcnbcoegaaGreatFl4
namespace Go.Proofs.YtamafdcnbcoegaaGreat
open Go.RowKit

set_option maxRecDepth 100000 in
set_option maxHeartbeats 2000000 in
theorem writeRecord_any (w : World) (s dp : Nat) (st : Mod.Stv) (lv uv : Value) (H : StAt w s dp st lv uv) (place sm q : Nat) (body : ByteArray) (hpl : 64 * (2 + place) + 64 ≤ st.dk.bytes.length) (hsm : sm < 256) (hq : q < 4294967296) (hbo : body.size ≤ 20) :
    Calls Tryz.prog 89 #[ptrTo s, .int .i64 place, .agg #[.int .i64 sm, .int .i64 q, .string body]] w fun r w' => r = .returned (.int .i64 (st.putRecord place sm q body.data.toList).1) ∧
      ∃ uv', StAt w' s dp (st.putRecord place sm q body.data.toList).2 lv uv' ∧ Loc w uv uv' ∧ Far (StU s dp lv uv) w w' := by
  have hsl := lt_of_block H.blk
  have hnext : st.next < 18446744073709551616 := Nat.mod_lt _ (by omega)
  have hlen := H.dk.len
  have hS3 := Mod.length_sealB st.opening st.next (inside := Mod.recIn sm q body.data.toList) (by rw [Mod.length_recIn]; simp; omega)
  have hh := H.hd
  have HH := hide H
  unfold ptrTo at *
  go_enter Tryz.func89, Tryz.ntmps89
  have hb0 := fun ob => (heap_alloc_old w ob hsl).trans H.blk
  have c2 : ∀ ob, (w.alloc ob).cell? ⟨s, 2, none⟩ = some (.int .u64 st.count) := fun ob => blk_cell (i := 2) (hb0 ob)
  have d2 : w.cell? ⟨s, 2, none⟩ = some (.int .u64 st.count) := blk_cell (i := 2) H.blk
  have f2 : ∀ ob, (w.alloc ob).frozen? ⟨s, 2, none⟩ = false := fun ob => blk_free (i := 2) (hb0 ob)
  have g2 : w.frozen? ⟨s, 2, none⟩ = false := blk_free (i := 2) H.blk
  clear H hb0
  have hw : IntKind.i64.wrap (2 + (place : Int)) = 2 + (place : Int) := by rw [IntKind.wrap_i64]; omega
  go_upto_region 2 with fail
  have hn : IntKind.u64.wrap ((st.count : Int) + 1) = ((st.next : Nat) : Int) := by rw [IntKind.wrap_u64, Mod.Stv.next]; omega
  refine wp_world (fun x => x.heap[s]? = some (.cells #[.pointer (some ⟨dp, 0, none⟩), .int .u32 st.opening, .int .u64 st.next, .int .i64 st.head] 203 (0, 0)) ∧ x.heap[w.heap.size]? = some (.cells #[.int .i64 sm, .int .i64 q, .string body] 155 (0, 0)) ∧ DkAt x dp st.dk lv uv ∧ Far (fun k => k = s) w x ∧ w.heap.size < x.heap.size) ?_ ?_
  · rw [hn]
    have hF : Far (fun k => k = s) w ((w.setCell ⟨s, 2, none⟩ (.int .u64 st.next)).alloc (.cells #[.int .i64 sm, .int .i64 q, .string body] 155)) :=
      (far_set w s 2 _).trans (far_below ((Below.refl _ _).alloc (Nat.le_refl _) _)) (fun _ _ h => h)
    refine ⟨?_, ?_, (unhide HH).dk.far hF (fun k hk e => (unhide HH).sep (by rw [← e]; exact hk)), hF, by simp⟩
    · rw [hao _ _ (by simp; exact hsl)]
      have h2 := blk_set (j := 2) (v := .int .u64 st.next) (unhide HH).blk
      simpa [ptrTo] using h2
    · have := heap_alloc_new (w.setCell ⟨s, 2, none⟩ (.int .u64 st.next)) (.cells #[.int .i64 sm, .int .i64 q, .string body] 155)
      simpa using this
  rintro x ⟨h0, h1, hD, hF, hz⟩
  have hslx := lt_of_block h0
  have hsep : ¬ DkU dp lv uv s := dk_ne hD h0 (by decide) (by decide) (by decide)
  have hsepn : ¬ DkU dp lv uv w.heap.size := dk_ne hD h1 (by decide) (by decide) (by decide)
  obtain ⟨SB, hSB⟩ : ∃ SB, SB = Mod.sealB st.opening st.next (Mod.recIn sm q body.data.toList) := ⟨_, rfl⟩
  rw [← hSB] at hS3
  have hW := fun y (hb : y.heap[s]? = _) (hD : DkAt y dp st.dk lv uv) => hide (storeWrite_any y s dp lv uv (.int .u32 st.opening) (.int .u64 st.next) (.int .i64 st.head) st.dk (2 + place) SB hS3 hpl hb hD)
  have hSl := fun y => hide (sealRecord_any st.opening st.next sm q body y (unhide HH).op hnext hsm hq hbo)
  rw [← hSB] at hSl
  obtain ⟨ee, hee⟩ : ∃ ee, ee = (st.dk.put (2 + place) SB).1 := ⟨_, rfl⟩
  obtain ⟨dd, hdd⟩ : ∃ dd, dd = (st.dk.put (2 + place) SB).2 := ⟨_, rfl⟩
  rw [← hee, ← hdd] at hW
  have HEQ := hide (And.intro hSB (And.intro hee hdd))
  have H0 := hide h0
  have H1 := hide h1
  have HD := hide hD
  have HF := hide hF
  obtain ⟨pp, hpp⟩ : ∃ pp, pp = 2 + place := ⟨_, rfl⟩
  rw [← hpp] at hW
  have hpc : 2 + (place : Int) = (pp : Int) := by omega
  rw [hpc] at hw
  clear hpp
  clear hSB hee hdd h0 h1 hD hF c2 d2 f2 g2 hn
  unfold ptrTo at hW
  refine wp_region_foot (by kernel_rfl)
    [fun v _ => v = .pointer (some ⟨s, 0, none⟩), fun v _ => v = .int .i64 place, fun v _ => v = .int .i64 pp, fun v _ => v = .pointer (some ⟨s, 0, none⟩), fun v _ => v = .pointer (some ⟨s, 0, none⟩), fun v _ => v = .pointer (some ⟨s, 1, none⟩), fun v _ => v = .agg #[.int .u32 st.opening, .int .u64 st.next], fun v _ => v = .agg #[.int .i64 sm, .int .i64 q, .string body],
     fun v _ => v = .agg (bv SB).toArray, fun v y => v = .int .i64 ee ∧ ∃ uv', DkAt y dp dd lv uv' ∧ Loc x uv uv', fun v _ => v = .int .i64 ee]
    [[(0, none)], [(1, none)], [(17, some 1)], [(0, none)], [(19, some 3)], [(20, some 4)], [(21, some 5)], [(5, none)], [(22, some 6), (23, some 7)], [(16, some 0), (18, some 2), (24, some 8)], [(25, some 9)]] [some 16, some 17, some 18, some 19, some 20, some 21, some 22, some 23, some 24, some 25, some 6] [false, false, false, false, false, false, true, false, false, false, false, false, false, false, false, false, true, true, true, true, true, true, true, true, true, true]
    [(9, DkU dp lv uv)]
    (by kernel_rfl) (by kernel_rfl) (by kernel_rfl) (by kernel_rfl) (by kernel_rfl) ?_ ?_ ?_ ?_
  · repeat' (first | exact stable_eq _ | exact (fun _ y z h hb => ⟨h.1, h.2.imp fun uv' h => ⟨h.1.far (far_below (E := fun _ => False) hb) (fun _ _ h => h), h.2⟩⟩) | exact trivial | apply And.intro)
  · repeat' (first | exact trivial | exact .inl rfl | exact .inr (.inr (stableF_eq _ _)) | apply And.intro)
  · refine ⟨?_, ?_, ?_, ?_, ?_, ?_, ?_, ?_, ?_, ?_, ?_, trivial⟩
    all_goals
      intro a' z hb hf
      have z0 := hb.blk (unhide H0) (footBut_no (by intro q hq; simp at hq; subst hq; exact hsep))
      have z1 := hb.blk (unhide H1) (footBut_no (by intro q hq; simp at hq; subst hq; exact hsepn))
      have e1 : z.cell? ⟨s, 1, none⟩ = some (.int .u32 st.opening) := blk_cell (i := 1) z0
      have e2 : z.cell? ⟨s, 2, none⟩ = some (.int .u64 st.next) := blk_cell (i := 2) z0
      have n0 : z.cell? ⟨w.heap.size, 0, none⟩ = some (.int .i64 sm) := blk_cell (i := 0) z1
      have n1 : z.cell? ⟨w.heap.size, 1, none⟩ = some (.int .i64 q) := blk_cell (i := 1) z1
      have n2 : z.cell? ⟨w.heap.size, 2, none⟩ = some (.string body) := blk_cell (i := 2) z1
      have Z0 := hide z0
      clear z0 z1
      simp only [PlanFacts, List.getD_cons_zero, List.getD_cons_succ, Array.getD_eq_getD_getElem?] at hf
      try simp at hf
    iterate 2
      · clear hb
        go_simp
        exact ⟨_, rfl, Far.refl _ _, rfl⟩
    · clear hb
      go_simp
      exact ⟨_, rfl, Far.refl _ _, rfl⟩
    iterate 5
      · clear hb
        go_simp
        exact ⟨_, rfl, Far.refl _ _, rfl⟩
    · clear hb
      go_simp
      refine (unhide (hSl z)).mono ?_
      rintro r w1 ⟨rfl, hb1⟩
      exact ⟨_, rfl, far_below hb1, rfl⟩
    · have hDz := (unhide HD).far hb (by
        rintro k hk ⟨q, hq, g1, g2, g3⟩
        simp at hq
        subst hq
        exact g1 rfl)
      have HC := hide (unhide (hW z (unhide Z0) hDz))
      have hzz := hb.size
      clear hb hDz
      go_simp
      refine (unhide HC).mono ?_
      rintro r w1 ⟨rfl, uv', k1, k2, k3⟩
      exact ⟨_, rfl, footOf_of (.head _) k3, rfl, uv', k1, loc_less k2 hzz⟩
    · clear hb
      obtain ⟨hf, _⟩ := hf
      go_simp
      exact ⟨_, rfl, Far.refl _ _, rfl⟩
  · intro f z hFz hwd
    obtain ⟨_, uv', k1, k2⟩ := hwd.2.2.2.2.2.2.2.2.2.1
    have h13 := hwd.2.2.2.2.2.2.2.2.2.2.1
    have hFz : Far (DkU dp lv uv) x z := hFz.mono (fun b _ h => by
      obtain ⟨q, hq, h⟩ := h
      simp at hq
      subst hq
      exact h)
    have z0 := hFz.blk (unhide H0) hsep
    have HFIN := hide (And.intro k1 (And.intro k2 (And.intro hFz z0)))
    clear hwd k1 k2 hFz z0
    simp only [mergeT, h13]
    generalize f 16 = x16
    generalize f 17 = x17
    generalize f 18 = x18
    generalize f 19 = x19
    generalize f 20 = x20
    generalize f 21 = x21
    generalize f 22 = x22
    generalize f 23 = x23
    generalize f 24 = x24
    generalize f 25 = x25
    go_simp
    go_wp2
    go_ret
    obtain ⟨k1, k2, k3, k4⟩ := unhide HFIN
    obtain ⟨q1, q2, q3⟩ := unhide HEQ
    have hp : st.putRecord place sm q body.data.toList = (ee, { st with count := st.next, dk := dd }) := by
      unfold Mod.Stv.putRecord
      rw [← q1, ← q2, ← q3]
    rw [hp]
    exact ⟨rfl, uv', ⟨k4, k1, (unhide HH).op, hnext, hh⟩, loc_less k2 (by omega), ((unhide HF).mono (fun _ _ e => .inl e)).trans k3 (fun _ _ e => .inr e)⟩

/-- Has the disk failed? -/
theorem storeIsDead_any {w : World} {s dp : Nat} {st : Mod.Stv} {lv uv : Value} (H : StAt w s dp st lv uv) :
    Calls Tryz.prog 86 #[ptrTo s] w fun r w' => r = .returned (.bool st.dk.dead) ∧ w' = w := by
  have c0 : w.cell? ⟨s, 0, none⟩ = some (ptrTo dp) := blk_cell (i := 0) H.blk
  have c3 : w.cell? ⟨dp, 3, none⟩ = some (.bool st.dk.dead) := blk_cell (i := 3) H.dk.blk
  unfold ptrTo at *
  clear H
  have HD : ∀ y : World, y = w → Calls Tryz.prog 128 #[.pointer (some ⟨dp, 0, none⟩)] y fun r w' => r = .returned (.bool st.dk.dead) ∧ w' = w := by
    rintro y rfl
    clear c0
    go_enter Tryz.func128, Tryz.ntmps128
    go_wp2
    go_ret
    exact ⟨rfl, rfl⟩
  have HD := hide HD
  clear c3
  go_enter Tryz.func86, Tryz.ntmps86
  go_wp2_with (go_at_call 128; refine ((unhide HD) _ rfl).mono ?_; rintro r y ⟨rfl, rfl⟩)
  go_ret
  exact ⟨rfl, rfl⟩
/-- How many times was the disk opened? -/
theorem storeOpening_any {w : World} {s dp : Nat} {st : Mod.Stv} {lv uv : Value} (H : StAt w s dp st lv uv) :
    Calls Tryz.prog 111 #[ptrTo s] w fun r w' => r = .returned (.int .i64 st.opening) ∧ w' = w := by
  have c0 : w.cell? ⟨s, 1, none⟩ = some (.int .u32 st.opening) := blk_cell (i := 1) H.blk
  have hw : IntKind.i64.wrap (st.opening : Int) = (st.opening : Int) := by have := H.op; rw [IntKind.wrap_i64]; omega
  unfold ptrTo at *
  clear H
  go_enter Tryz.func111, Tryz.ntmps111
  go_wp2
  go_ret
  exact ⟨by simp, rfl⟩
end Go.Proofs.YtamafdcnbcoegaaGreat
namespace Go.Proofs.YtamafdcnbcoegaaGreat
open Go.RowKit

theorem isAgg_sec (w : World) : (isAgg 207).run Tryz.prog w = .ok true w := by
  simp [isAgg, run_underlying Tryz.underlying207]
theorem wpList_load_sec_at {ops : Array Oper} {rest : List Oper} {o : Oper} {a : Act} {w : World} {Q : Exit → Act → World → Prop} (hgd : o.guard = none) (x : Operand) (ho : o.op = .load 207 x)
    (ad : Addr) (hx : a.eval x = .pointer (some ad)) (S : List UInt8) (hS : S.length = 64) (hc : ∀ j v, (bv S)[j]? = some v → w.cell? (ad.add j) = some v)
    (h : wpList Tryz.prog ops Q rest (a.put o.dst (.agg (bv S).toArray)) w) : wpList Tryz.prog ops Q (o :: rest) a w := by
  refine wpList_plain hgd fun K hK => ?_
  unfold Oper.wp execOp
  simp only [ho, hx, Instr.loadAt, Instr.sureAddr, Sem.run_bind, Sem.run_pure, Result.andThen_ok, run_loadVar_at w ad 207 (bv S) hc (isAgg_sec w) (by rw [size64, bv_length, hS])]
  exact hK _ _ h

set_option maxRecDepth 100000 in
set_option maxHeartbeats 1000000 in
theorem sectorAt_any (w : World) (v : Value) (L : List UInt8) (k : Nat) (hat : BytesAt w v L) (hk : 64 * k + 64 ≤ L.length) (hL : L.length ≤ 10000) :
    Calls Tryz.prog 195 #[v, .int .i64 k] w fun r w' => r = .returned (.agg (bv ((L.drop (k * 64)).take 64)).toArray) ∧ Below w.heap.size w w' := by
  obtain ⟨ad, cap, rfl, h1, h2, h3⟩ := hat
  obtain ⟨b, off, rfl, hc⟩ := h3 (by omega)
  obtain ⟨n, hn⟩ : ∃ n, n = L.length := ⟨_, rfl⟩
  rw [← hn] at hk hL h1 h2 hc ⊢
  have hS3 : ((L.drop (k * 64)).take 64).length = 64 := by rw [List.length_take, List.length_drop, ← hn]; omega
  have hcell : ∀ j v, (bv ((L.drop (k * 64)).take 64))[j]? = some v → w.cell? ⟨b, off + k * 64 + j, none⟩ = some v := by
    intro j v hj
    have hjl : j < 64 := by
      have := (List.getElem?_eq_some_iff.1 hj).1
      rw [bv_length, hS3] at this; exact this
    rw [bv_get (by rw [hS3]; exact hjl)] at hj
    cases hj
    have := hc (k * 64 + j) (by omega)
    rw [← Nat.add_assoc] at this
    rw [this]
    simp [List.getD_eq_getElem?_getD, hjl, List.getElem?_drop]
  obtain ⟨S, hSd⟩ : ∃ S, S = (L.drop (k * 64)).take 64 := ⟨_, rfl⟩
  rw [← hSd] at hS3 hcell ⊢
  have HC := hide hcell
  clear hcell hc hSd hn
  have i0 : (0 : Int) ≤ (k : Int) * 64 := by omega
  have i1 : (k : Int) * 64 ≤ (k : Int) * 64 + 64 := by omega
  have i2 : (k : Int) * 64 + 64 ≤ (n : Int) := by omega
  have i3 : (k : Int) * 64 + 64 ≤ (cap : Int) := by omega
  have it : ((k : Int) * 64).toNat = k * 64 := by omega
  have it2 : ((k : Int) * 64 + 64).toNat = k * 64 + 64 := by omega
  have hw : IntKind.i64.wrap ((k : Int) * 64) = (k : Int) * 64 := by rw [IntKind.wrap_i64]; omega
  have hw1 : IntKind.i64.wrap ((k : Int) + 1) = (k : Int) + 1 := by rw [IntKind.wrap_i64]; omega
  have hw2 : IntKind.i64.wrap (((k : Int) + 1) * 64) = (k : Int) * 64 + 64 := by rw [IntKind.wrap_i64]; omega
  have hne : ¬ cap = k * 64 := by omega
  have hap : ∀ y : World, (Instr.arrayAt 207 (.slice (some ⟨b, off + k * 64, none⟩) 64 (cap - k * 64))).run Tryz.prog y = .ok (.pointer (some ⟨b, off + k * 64, none⟩)) y := fun y => by
    simp [Instr.arrayAt, run_underlying Tryz.underlying207]
  go_enter Tryz.func195, Tryz.ntmps195
  go_upto_region 1 with fail
  refine wp_world (fun x => x.heap[w.heap.size]? = some (.cells (bv zeros).toArray 207 (0, 0)) ∧ (∀ j v, (bv S)[j]? = some v → x.cell? ⟨b, off + k * 64 + j, none⟩ = some v) ∧ Below w.heap.size w x) ?_ ?_
  · refine ⟨cells_eq (heap_alloc_new _ _) (by kernel_rfl), fun j v hj => ?_, (Below.refl _ _).alloc (Nat.le_refl _) _⟩
    have h := (unhide HC) j v hj
    exact (World.cell?_alloc_lt w _ ⟨b, off + k * 64 + j, none⟩ (World.block_lt_of_cell? _ _ h)).trans h
  rintro x ⟨h0, hcx, hB⟩
  have H0 := hide h0
  have HCX := hide hcx
  have HB := hide hB
  have hz := lt_of_block h0
  clear h0 hcx hB HC
  go_wp2_with (first
    | (refine wpList_load_sec_at rfl (.tmp 12) rfl ⟨b, off + k * 64, none⟩ rfl S hS3 (by intro j v hj; rw [add_mk]; exact (unhide HCX) j v hj) ?_)
    | (refine wpList_store_sec rfl (.tmp 4) (.tmp 13) rfl w.heap.size rfl S hS3 rfl 207 _ (by simp [bv_length, length_zeros]) (unhide H0) ?_; intro z4 hz4 hF4; go_simp))
  exact bodyPost_ret (results_sec Tryz.results195 _ _ w.heap.size _ _ hS3 rfl hz4) rfl ⟨rfl, (unhide HB).trans (hF4.below (unhide HB).size (fun k hk e => by omega))⟩
theorem built_zero : Tryz.prog.built 207 [] = some (bv zeros).toArray := by kernel_rfl
theorem wpList_build_zero {ops : Array Oper} {rest : List Oper} {o : Oper} {a : Act} {w : World} {Q : Exit → Act → World → Prop} (hgd : o.guard = none) (ho : o.op = .build 207 #[])
    (h : wpList Tryz.prog ops Q rest (a.put o.dst (.agg (bv zeros).toArray)) w) : wpList Tryz.prog ops Q (o :: rest) a w := by
  refine wpList_build hgd 207 #[] ho ?_ ?_
  · simp [built_zero]
  · simpa [built_zero] using h

set_option maxRecDepth 100000 in
set_option maxHeartbeats 1000000 in
theorem readHead_zero (w : World) : Calls Tryz.prog 194 #[.agg (bv zeros).toArray] w fun r w' =>
    r = .returned (.tuple #[.agg #[.int .u32 0, .int .u64 0, .int .i64 0, .int .i64 0, .int .i64 0], .bool true]) ∧ Below w.heap.size w w' := by
  have heq := fun y => eq_sec (S := zeros) (T := zeros) length_zeros length_zeros y
  rw [decide_eq_true rfl] at heq
  go_enter Tryz.func194, Tryz.ntmps194
  go_upto_region 1 with fail
  refine wp_world (fun x => x.heap[w.heap.size]? = some (.cells (bv zeros).toArray 207 (0, 0)) ∧ x.heap[w.heap.size + 1]? = some (.cells #[.int .u32 0, .int .u64 0, .int .i64 0, .int .i64 0, .int .i64 0] 217 (0, 0)) ∧ Below w.heap.size w x) (alloc2 _ _ _) ?_
  rintro x ⟨h0, h1, hB⟩
  have q0 : x.cell? ⟨w.heap.size + 1, 0, none⟩ = some (.int .u32 0) := blk_cell (i := 0) h1
  have q1 : x.cell? ⟨w.heap.size + 1, 1, none⟩ = some (.int .u64 0) := blk_cell (i := 1) h1
  have q2 : x.cell? ⟨w.heap.size + 1, 2, none⟩ = some (.int .i64 0) := blk_cell (i := 2) h1
  have q3 : x.cell? ⟨w.heap.size + 1, 3, none⟩ = some (.int .i64 0) := blk_cell (i := 3) h1
  have q4 : x.cell? ⟨w.heap.size + 1, 4, none⟩ = some (.int .i64 0) := blk_cell (i := 4) h1
  have p0 : x.frozen? ⟨w.heap.size + 1, 0, none⟩ = false := blk_free (i := 0) h1
  have p1 : x.frozen? ⟨w.heap.size + 1, 1, none⟩ = false := blk_free (i := 1) h1
  have p2 : x.frozen? ⟨w.heap.size + 1, 2, none⟩ = false := blk_free (i := 2) h1
  have p3 : x.frozen? ⟨w.heap.size + 1, 3, none⟩ = false := blk_free (i := 3) h1
  have p4 : x.frozen? ⟨w.heap.size + 1, 4, none⟩ = false := blk_free (i := 4) h1
  have H0 := hide h0
  have HB := hide hB
  clear h0 h1 hB
  go_wp2_with (first
    | (refine wpList_load_sec rfl (.tmp 1) rfl w.heap.size rfl 207 zeros length_zeros (unhide H0) ?_)
    | (refine wpList_build_zero rfl rfl ?_; go_simp))
  refine bodyPost_ret (v := .tuple #[.agg #[.int .u32 0, .int .u64 0, .int .i64 0, .int .i64 0, .int .i64 0], .bool true]) (by simp [results, Tryz.results194, go_sem, q0, q1, q2, q3, q4]) rfl ⟨rfl, ?_⟩
  have hb1 := unhide HB
  exact ((((hb1.setCell (p := ⟨w.heap.size + 1, 0, none⟩) (by simp) _).setCell (p := ⟨w.heap.size + 1, 1, none⟩) (by simp) _).setCell (p := ⟨w.heap.size + 1, 2, none⟩) (by simp) _).setCell (p := ⟨w.heap.size + 1, 3, none⟩) (by simp) _).setCell (p := ⟨w.heap.size + 1, 4, none⟩) (by simp) _

set_option maxRecDepth 100000 in
set_option maxHeartbeats 1000000 in
theorem readRecord_zero (w : World) (last : Nat) : Calls Tryz.prog 197 #[.agg (bv zeros).toArray, .int .u32 last] w fun r w' =>
    r = .returned (.tuple #[.agg #[.int .i64 0, .int .i64 0, .string ⟨#[]⟩], .bool true]) ∧ Below w.heap.size w w' := by
  have heq := fun y => eq_sec (S := zeros) (T := zeros) length_zeros length_zeros y
  rw [decide_eq_true rfl] at heq
  go_enter Tryz.func197, Tryz.ntmps197
  go_upto_region 1 with fail
  refine wp_world (fun x => x.heap[w.heap.size]? = some (.cells (bv zeros).toArray 207 (0, 0)) ∧ x.heap[w.heap.size + 1]? = some (.cells #[.int .i64 0, .int .i64 0, .string ⟨#[]⟩] 155 (0, 0)) ∧ Below w.heap.size w x) (alloc2 _ _ _) ?_
  rintro x ⟨h0, h1, hB⟩
  have q0 : x.cell? ⟨w.heap.size + 1, 0, none⟩ = some (.int .i64 0) := blk_cell (i := 0) h1
  have q1 : x.cell? ⟨w.heap.size + 1, 1, none⟩ = some (.int .i64 0) := blk_cell (i := 1) h1
  have q2 : x.cell? ⟨w.heap.size + 1, 2, none⟩ = some (.string ⟨#[]⟩) := blk_cell (i := 2) h1
  have p0 : x.frozen? ⟨w.heap.size + 1, 0, none⟩ = false := blk_free (i := 0) h1
  have p1 : x.frozen? ⟨w.heap.size + 1, 1, none⟩ = false := blk_free (i := 1) h1
  have p2 : x.frozen? ⟨w.heap.size + 1, 2, none⟩ = false := blk_free (i := 2) h1
  have H0 := hide h0
  have HB := hide hB
  clear h0 h1 hB
  go_wp2_with (first
    | (refine wpList_load_sec rfl (.tmp 2) rfl w.heap.size rfl 207 zeros length_zeros (unhide H0) ?_)
    | (refine wpList_build_zero rfl rfl ?_; go_simp))
  refine bodyPost_ret (v := .tuple #[.agg #[.int .i64 0, .int .i64 0, .string ⟨#[]⟩], .bool true]) (by simp [results, Tryz.results197, go_sem, q0, q1, q2]) rfl ⟨rfl, ?_⟩
  have hb1 := unhide HB
  exact ((hb1.setCell (p := ⟨w.heap.size + 1, 0, none⟩) (by simp) _).setCell (p := ⟨w.heap.size + 1, 1, none⟩) (by simp) _).setCell (p := ⟨w.heap.size + 1, 2, none⟩) (by simp) _
end Go.Proofs.YtamafdcnbcoegaaGreat
namespace Go.Proofs.YtamafdcnbcoegaaGreat
open Go.RowKit

namespace Mod
/-- Is a stamp newer? -/
def newer (o c o' c' : Nat) : Bool := if o ≠ o' then decide (o' < o) else decide (c' < c)
end Mod
set_option maxHeartbeats 400000 in
theorem isNewer_any (o c o' c' : Nat) (w : World) : Calls Tryz.prog 196 #[.agg #[.int .u32 o, .int .u64 c], .agg #[.int .u32 o', .int .u64 c']] w fun r w' => r = .returned (.bool (Mod.newer o c o' c')) ∧ Below w.heap.size w w' := by
  by_cases h : o = o'
  · subst h
    go_enter Tryz.func196, Tryz.ntmps196
    go_wp2
    go_ret
    exact ⟨by simp [Mod.newer], ((Below.refl _ _).alloc (Nat.le_refl _) _).alloc (by simp) _⟩
  · have hne : ¬ (o : Int) = (o' : Int) := by omega
    have hne2 : ((o : Int) == (o' : Int)) = false := by simp; omega
    go_enter Tryz.func196, Tryz.ntmps196
    go_wp2
    go_ret
    exact ⟨by simp [Mod.newer, h], ((Below.refl _ _).alloc (Nat.le_refl _) _).alloc (by simp) _⟩
theorem tmpB {t : Array Value} {k : Nat} {c : Bool} (h : t[k]?.getD undef = .bool c) : t[k]? = some (.bool c) := by
  cases hx : t[k]? with
  | none => rw [hx] at h; simp [undef] at h
  | some v => rw [hx] at h; simp at h; rw [h]
theorem size_head : (Tryz.prog.info? 217).map (·.size) = some 5 := by kernel_rfl
theorem far_setRow (w : World) (g : Nat) (cs : Array Value) : Far (fun k => k = g) w (w.setRow g cs) := ⟨rfl, rfl, rfl, by simp, fun k _ hk => setRow_other w g k _ hk⟩
end Go.Proofs.YtamafdcnbcoegaaGreat
namespace Go.Proofs.YtamafdcnbcoegaaGreat
open Go.RowKit

theorem info_rec : (Tryz.prog.info? 155).map (fun i => (i.zero, i.size, i.bytes)) = some (some (.agg #[.int .i64 0, .int .i64 0, .string ⟨#[]⟩]), 3, 32) := by kernel_rfl

end Go.Proofs.YtamafdcnbcoegaaGreat
namespace Go.Proofs.YtamafdcnbcoegaaGreat
open Go.RowKit

set_option maxRecDepth 100000 in
set_option maxHeartbeats 1000000 in
theorem cloneBytes_any (w : World) (v : Value) (L : List UInt8) (hat : BytesAt w v L) (h0 : 0 < L.length) (hL : L.length ≤ 10000) :
    Calls Tryz.prog 192 #[v] w fun r w' => ∃ v', r = .returned v' ∧ Owns w.heap.size w' v' L ∧ Below w.heap.size w w' := by
  obtain ⟨ad, cap, rfl, h1, h2, h3⟩ := hat
  obtain ⟨b, off, rfl, hc⟩ := h3 h0
  obtain ⟨n, hn⟩ : ∃ n, n = L.length := ⟨_, rfl⟩
  rw [← hn] at h0 hL h1 h2 hc ⊢
  have HC := hide hc
  have HN := hide hn
  clear hc hn h3
  have hO : Owns w.heap.size (w.alloc (.cells #[] 5)) (.slice (some ⟨w.heap.size, 0, none⟩) 0 0) [] :=
    ⟨by simp [bv], .inr ⟨w.heap.size, 0, _, rfl, Nat.le_refl _, heap_alloc_new w _, by simp, by unfold maxLen; omega, by simp, by simp [bv]⟩⟩
  have HO := hide hO
  clear hO
  have heq : ∀ y : World, (binOp .eql 44 (.slice (some ⟨b, off, none⟩) n cap) (.slice none 0 0)).run Tryz.prog y = .ok (.bool false) y := fun y => by
    have := run_equal_slice_nil (P := Tryz.prog) y 44 5 (some ⟨b, off, none⟩) n cap Tryz.underlying44
    simp [binOp, this]
  go_enter Tryz.func192, Tryz.ntmps192
  go_wp2_with (at_builtin; refine wp_app_bytes rfl (.tmp 5) (.tmp 6) rfl w.heap.size _ [] (unhide HO) rfl ⟨b, off, none⟩ n cap L rfl (unhide HN).symm (by
    intro j u hj
    have hjl : j < L.length := by
      have := (List.getElem?_eq_some_iff.1 hj).1
      rw [bv_length] at this; exact this
    rw [bv_get hjl] at hj
    cases hj
    have h := (unhide HC) j (by rw [unhide HN]; exact hjl)
    rw [add_mk]
    exact (World.cell?_alloc_lt w _ ⟨b, off + j, none⟩ (World.block_lt_of_cell? _ _ h)).trans h) (by simp; omega) (by simp) ?_; intro v' w' hown hg; go_simp)
  go_ret
  exact ⟨v', rfl, by simpa using hown, ((Below.refl _ _).alloc (Nat.le_refl _) _).trans (below_grown_new (B := w.heap.size) hg (by simp) (fun g hg => by simp [Value.ownBlock] at hg; omega))⟩

set_option maxHeartbeats 1000000 in
theorem diskNew_any (w : World) (v : Value) (L : List UInt8) (hat : BytesAt w v L) (h0 : 128 ≤ L.length) (hL : L.length ≤ 10000) :
    Calls Tryz.prog 148 #[v] w fun r w' => ∃ p lv, r = .returned (ptrTo p) ∧ DkAt w' p ⟨L, 0, false⟩ lv (.slice none 0 0) ∧ Below w.heap.size w w' ∧ ∀ k, DkU p lv (.slice none 0 0) k → w.heap.size ≤ k := by
  have HC := hide (cloneBytes_any w v L hat (by omega) hL)
  clear hat
  unfold ptrTo
  go_enter Tryz.func148, Tryz.ntmps148
  go_wp2_with (go_at_call 192; refine (unhide HC).mono ?_; rintro r y ⟨lv, rfl, hown, hb⟩; obtain ⟨ad, cap, rfl, _⟩ := hown.shape; replace hown := hide hown; replace hb := hide hb)
  go_ret
  have ho := unhide hown
  have hb := unhide hb
  refine ⟨_, _, rfl, ⟨heap_alloc_new y _, ?_, rowO_nil _ _ _, ⟨h0, hL⟩, by simp⟩, hb.alloc hb.size _, ?_⟩
  · exact World.ownsRow.alloc (ho.mono (Nat.zero_le _)) _
  · rintro k (rfl | hk | hk)
    · exact hb.size
    · exact (ho.lt k hk).1
    · cases hk
end Go.Proofs.YtamafdcnbcoegaaGreat
namespace Go.Proofs.YtamafdcnbcoegaaGreat
open Go.RowKit

/-- A new disk. -/
def NewDk (B : Nat) (L : List UInt8) (p : Nat) (w : World) : Prop := ∃ lv, DkAt w p ⟨L, 0, false⟩ lv (.slice none 0 0) ∧ ∀ k, DkU p lv (.slice none 0 0) k → B ≤ k
theorem newDk_below {B : Nat} {L : List UInt8} {p : Nat} {w x : World} (h : NewDk B L p w) (hb : Below w.heap.size w x) : NewDk B L p x := h.imp fun _ h => ⟨h.1.far (far_below (E := fun _ => False) hb) (fun _ _ h => h), h.2⟩
theorem ownsRow_monoB {w : World} {B B' size : Nat} {e : TypeId} {v : Value} {n : Nat} {xs : List Value} (h : w.ownsRow B e size v n xs) (hB : B' ≤ B) : w.ownsRow B' e size v n xs := by
  obtain ⟨h1, h2⟩ := h
  refine ⟨h1, ?_⟩
  rcases h2 with h2 | ⟨g, cap, cur, rfl, hb, r⟩
  · exact .inl h2
  · exact .inr ⟨g, cap, cur, rfl, Nat.le_trans hB hb, r⟩
theorem size_contents : (Tryz.prog.info? 187).map (·.size) = some 4 := by kernel_rfl

end Go.Proofs.YtamafdcnbcoegaaGreat
namespace Go.Proofs.YtamafdcnbcoegaaGreat
open Go.RowKit

/-- What is held behind a record that is not the next one. -/
def holdIt (a : Mod.Sk) (s q : Nat) (b : ByteArray) : Mod.Sk :=
  if (a.logs s).length + 2 ≤ q ∧ q ≤ (a.logs s).length + 4 ∧ a.ix s q = none then { a with held := a.held ++ [(s, q, b)] } else a
theorem holdIt_epoch (a : Mod.Sk) (s q : Nat) (b : ByteArray) : (holdIt a s q b).epoch = a.epoch := by
  unfold holdIt
  split <;> rfl
end Go.Proofs.YtamafdcnbcoegaaGreat
namespace Go.Proofs.YtamafdcnbcoegaaGreat
open Go.RowKit

/-- What stands behind a commit. -/
def grown (a : Mod.Sk) (s : Nat) (got : List ByteArray) : Mod.Sk := { a with logs := fun t => if t = s then a.logs s ++ got else a.logs t }
theorem grown_count (a : Mod.Sk) (s : Nat) (hs : s < 3) (got : List ByteArray) : (grown a s got).count = a.count + got.length := by
  obtain rfl | rfl | rfl : s = 0 ∨ s = 1 ∨ s = 2 := by omega
  all_goals
    simp [grown, Mod.Sk.count]
    omega
def takeIt (a : Mod.Sk) (s : Nat) (got : List ByteArray) : Mod.Sk := (grown a s got).forget s (a.logs s ++ got).length
end Go.Proofs.YtamafdcnbcoegaaGreat
namespace Go.Proofs.YtamafdcnbcoegaaGreat
open Go.RowKit

/-- What a sink is behind a Data of its Epoch. -/
def skAfter (a : Mod.Sk) (k e : Int) (s qn : Nat) (b : ByteArray) : Mod.Sk := if a.commits k e s qn b = [] then holdIt a s qn b else takeIt a s (a.commits k e s qn b)
theorem takeIt_logs (a : Mod.Sk) (s : Nat) (got : List ByteArray) : (takeIt a s got).logs s = a.logs s ++ got := by simp [takeIt, grown, Mod.Sk.forget]
def skAck (a : Mod.Sk) (k e : Int) (s qn : Nat) (b : ByteArray) : ByteArray :=
  ⟨(Wire.bytes 4 a.epoch s ((skAfter a k e s qn b).logs s).length (ackBody (skAfter a k e s qn b) s ((skAfter a k e s qn b).logs s).length).data.toList).toArray⟩
end Go.Proofs.YtamafdcnbcoegaaGreat
namespace Go.Proofs.YtamafdcnbcoegaaGreat
open Go.RowKit

/-- The bytes of a Fence. -/
def fenceOf (n : Nat) : ByteArray := ⟨(Wire.bytes 5 n 0 0 []).toArray⟩
end Go.Proofs.YtamafdcnbcoegaaGreat
namespace Go.Proofs.YtamafdcnbcoegaaGreat
open Go.RowKit

def welB (a : Mod.Sk) : ByteArray := le4S (a.logs 0).length ++ le4S (a.logs 1).length ++ le4S (a.logs 2).length
def skWel (a : Mod.Sk) (e : Nat) : ByteArray := ⟨(Wire.bytes 2 e 0 0 (welB a).data.toList).toArray⟩
/-- What a sink is behind a Hello of no lesser Epoch. -/
def helloHeld (a : Mod.Sk) (e : Nat) : List (Nat × Nat × ByteArray) := if a.epoch < e then [] else a.held
def helloIt (a : Mod.Sk) (e : Nat) : Mod.Sk := { a with epoch := e, held := helloHeld a e }
theorem wel_data (a b c : Int) : (le4S a ++ le4S b ++ le4S c).data.toList = Wire.le4 a ++ Wire.le4 b ++ Wire.le4 c := by
  simp [ByteArray.data_append, le4S_data]
theorem wel_proper {e n0 n1 n2 : Nat} (he : e ≤ 2147483647) (h0 : n0 ≤ 120) (h1 : n1 ≤ 120) (h2 : n2 ≤ 120) : Wire.proper 2 e 0 0 (le4S n0 ++ le4S n1 ++ le4S n2) = true := by
  have hs : (le4S n0 ++ le4S n1 ++ le4S n2).size = 12 := by simp [ByteArray.size_append, le4S_size]
  have a0 : n0 % 256 = n0 := by omega
  have a1 : n1 % 256 = n1 := by omega
  have a2 : n2 % 256 = n2 := by omega
  simp only [Wire.proper, Wire.welBody, wel_data, hs]
  simp [Wire.isNum, Wire.numAt, Wire.num4, Wire.le4]
  omega

end Go.Proofs.YtamafdcnbcoegaaGreat
namespace Go.Proofs.YtamafdcnbcoegaaGreat
open Go.RowKit

/-- What a frame does to a sink, and what is answered. -/
def skReply (a : Mod.Sk) (k e : Int) (s q : Nat) (b : ByteArray) : Mod.Sk × List ByteArray :=
  if k = 1 then (if e < a.epoch then (a, [fenceOf a.epoch]) else (helloIt a e.toNat, [skWel a e.toNat]))
  else if k = 3 then (if e = a.epoch then (skAfter a k e s q b, [skAck a k e s q b]) else (a, [fenceOf (max e.toNat a.epoch)]))
  else (a, [])

/-- What is always so of a sink. -/
structure SkGood (a : Mod.Sk) : Prop where
  held : ∀ h ∈ a.held, h.1 < 3 ∧ (a.logs h.1).length + 1 ≤ h.2.1 ∧ h.2.1 ≤ (a.logs h.1).length + 4
  once : (a.held.map fun h => (h.1, h.2.1)).Nodup
  room : a.count ≤ 120
  ep : a.epoch ≤ 2147483647

theorem nodup_lt : ∀ (n : Nat) (l : List Nat), l.Nodup → (∀ x ∈ l, x < n) → l.length ≤ n
  | 0, [], _, _ => Nat.le_refl _
  | 0, x :: l, _, h => by have := h x (.head _); omega
  | n + 1, l, hn, h => by
    by_cases hm : n ∈ l
    · have h1 := List.length_erase_of_mem hm
      have h2 := nodup_lt n (l.erase n) (hn.erase n) (fun x hx => by
        have h3 := (hn.mem_erase_iff).1 hx
        have := h x h3.2
        have := h3.1
        omega)
      omega
    · have := nodup_lt n l hn (fun x hx => by
        have := h x hx
        have : x ≠ n := fun e => hm (e ▸ hx)
        omega)
      omega
theorem count_len {a : Mod.Sk} {s : Nat} (hs : s < 3) : (a.logs s).length ≤ a.count := by
  obtain rfl | rfl | rfl : s = 0 ∨ s = 1 ∨ s = 2 := by omega
  all_goals
    unfold Mod.Sk.count
    omega
theorem ixFrom_no {st q : Nat} : ∀ {l : List (Nat × Nat × ByteArray)} {i : Nat}, Mod.ixFrom st q i l = none → ∀ h ∈ l, ¬ (h.1 = st ∧ h.2.1 = q)
  | [], _, _, h, hh => by cases hh
  | x :: l, i, hn, h, hh => by
    rw [Mod.ixFrom] at hn
    split at hn
    · cases hn
    · rename_i hx
      cases hh with
      | head => exact hx
      | tail _ hh => exact ixFrom_no hn h hh
theorem skGood_new : SkGood { epoch := 0, logs := fun _ => [], held := [] } := ⟨by simp, by simp, by simp [Mod.Sk.count], by simp⟩
theorem skGood_hold {a : Mod.Sk} (G : SkGood a) (s q : Nat) (b : ByteArray) (hs : s < 3) : SkGood (holdIt a s q b) := by
  unfold holdIt
  split
  · rename_i h
    obtain ⟨h1, h2, h3⟩ := h
    refine ⟨fun x hx => ?_, ?_, G.room, G.ep⟩
    · simp only [List.mem_append, List.mem_singleton] at hx
      rcases hx with hx | rfl
      · exact G.held x hx
      · exact ⟨hs, by show (a.logs s).length + 1 ≤ q; omega, h2⟩
    · simp only [List.map_append, List.map_cons, List.map_nil]
      rw [List.nodup_append]
      refine ⟨G.once, by simp, ?_⟩
      rintro x hx y hy rfl
      simp only [List.mem_singleton] at hy
      obtain ⟨h, hh, rfl⟩ := List.mem_map.1 hx
      exact ixFrom_no h3 h hh ⟨congrArg Prod.fst hy, congrArg Prod.snd hy⟩
  · exact G
theorem skGood_take {a : Mod.Sk} (G : SkGood a) (s : Nat) (got : List ByteArray) (hs : s < 3) (hr : a.count + got.length ≤ 120) : SkGood (takeIt a s got) := by
  have hlog : ∀ t, ((takeIt a s got).logs t).length = if t = s then (a.logs s).length + got.length else (a.logs t).length := by
    intro t
    show ((grown a s got).logs t).length = _
    unfold grown
    by_cases h : t = s
    · simp [h]
    · simp [h]
  refine ⟨fun h hh => ?_, ?_, ?_, G.ep⟩
  · have hh' : h ∈ a.held.filter (Mod.keeps s (a.logs s ++ got).length) := hh
    obtain ⟨h1, h2⟩ := List.mem_filter.1 hh'
    obtain ⟨g1, g2, g3⟩ := G.held h h1
    rw [hlog]
    refine ⟨g1, ?_⟩
    by_cases e : h.1 = s
    · rw [if_pos e]
      unfold Mod.keeps at h2
      rw [e] at g2 g3
      simp [e] at h2
      omega
    · rw [if_neg e]
      exact ⟨g2, g3⟩
  · exact G.once.sublist ((List.filter_sublist (p := Mod.keeps s (a.logs s ++ got).length) (l := a.held)).map _)
  · have : (takeIt a s got).count = (grown a s got).count := rfl
    rw [this, grown_count a s hs got]
    exact hr
theorem skGood_hello {a : Mod.Sk} (G : SkGood a) (e : Nat) (he : e ≤ 2147483647) : SkGood (helloIt a e) := by
  unfold helloIt helloHeld
  split
  · exact ⟨by simp, by simp, G.room, he⟩
  · exact ⟨G.held, G.once, G.room, he⟩
theorem skGood_reply {a : Mod.Sk} (G : SkGood a) (k e : Int) (s q : Nat) (b : ByteArray) (hs : s < 3) (he : e ≤ 2147483647) : SkGood (skReply a k e s q b).1 := by
  unfold skReply
  split
  · split
    · exact G
    · exact skGood_hello G _ (by omega)
  · split
    · split
      · show SkGood (skAfter a k e s q b)
        unfold skAfter
        split
        · exact skGood_hold G s q b hs
        · exact skGood_take G s _ hs (commits_room k e s q b G.room)
      · exact G
    · exact G

end Go.Proofs.YtamafdcnbcoegaaGreat
namespace Go.Proofs.YtamafdcnbcoegaaGreat
open Go.RowKit

/-- A list that is there, wherever. -/
def ListAt (w : World) (v : Value) (xs : List Value) : Prop :=
  ∃ ad cap, v = .slice ad xs.length cap ∧ xs.length ≤ cap ∧ cap ≤ maxLen ∧ (0 < xs.length → ∃ g o, ad = some ⟨g, o, none⟩ ∧ g < w.heap.size ∧ ∀ i, i < xs.length → w.cell? ⟨g, o + i, none⟩ = xs[i]?)
theorem listAt_own {B : Nat} {w : World} {e : TypeId} {v : Value} {n : Nat} {xs : List Value} (h : w.ownsRow B e 1 v n xs) : ListAt w v xs := by
  have hn : xs.length = n := by have := h.1; omega
  subst hn
  have h0 := h
  obtain ⟨h1, h2⟩ := h
  rcases h2 with ⟨e1, h2⟩ | ⟨g, cap, cur, e1, hB, hh, hc1, hc2, _, ht⟩
  · exact ⟨none, 0, by rw [h2]; exact e1, by omega, by unfold maxLen; omega, fun h => by omega⟩
  · subst e1
    exact ⟨_, cap, rfl, hc1, hc2, fun _ => ⟨g, 0, rfl, lt_of_block hh, fun i hi => by rw [Nat.zero_add]; exact World.ownsRow.cellAt h0 i (by omega)⟩⟩
end Go.Proofs.YtamafdcnbcoegaaGreat
namespace Go.Proofs.YtamafdcnbcoegaaGreat
open Go.RowKit

/-- The blocks of the first frames. -/
def Done (fs : List Value) (i b : Nat) : Prop := ∃ j, j < i ∧ ∃ v, fs[j]? = some v ∧ v.ownBlock = some b
end Go.Proofs.YtamafdcnbcoegaaGreat
namespace Go.Proofs.YtamafdcnbcoegaaGreat
open Go.RowKit

/-- Every operation behind the cut waits for one from the cut on. -/
def lateB (ops : Array Oper) (c : Nat) : Bool := (List.range ops.size).all fun k => decide (k ≤ c) || (List.range ops.size).any fun j => decide (c ≤ j) && depB ops k j
/-- All up to the cut are through. -/
def doneTo (c n : Nat) : Array Bool := ((List.range n).map fun k => decide (k ≤ c)).toArray
theorem countP_range_le (i : Nat) : ∀ n, i ≤ n → (List.range n).countP (fun k => decide (i ≤ k)) = n - i
  | 0, h => by simp
  | n + 1, h => by
    rw [List.range_succ, List.countP_append, List.countP_singleton]
    by_cases hin : i ≤ n
    · rw [countP_range_le i n hin]; simp [hin]; omega
    · have : i = n + 1 := by omega
      subst this
      have h0 : (List.range n).countP (fun k => decide (n + 1 ≤ k)) = 0 := by
        rw [List.countP_eq_zero]
        intro k hk
        have := List.mem_range.1 hk
        simp; omega
      rw [h0]; simp

section
variable {P : Program} {ops : Array Oper} {Q : Exit → Act → World → Prop}

theorem mono_any_cut {a0 : Act} {w0 : World} (Φ : Nat → Value → World → Prop) (hok : monoOk ops a0.tmps.size = true) (last : Nat) (hn : last < ops.size) (hcov : coverB ops last = true) (hlate : lateB ops last = true)
    (hst : ∀ i v w w', Φ i v w → Below w.heap.size w w' → Φ i v w')
    (hop : ∀ i o, i < last → ops[i]? = some o → ∀ a w, Below w0.heap.size w0 w → GoodAct ops Φ a0 i o a w →
      if Region.wanted o (yielded ops a.tmps) = true then o.wp P a w (fun a' w' => ∃ v, a' = a.put o.dst v ∧ Below w.heap.size w w' ∧ Φ i v w') Q else Φ i undef w)
    (hend : ∀ a w, Below w0.heap.size w0 w → (∀ i o d, i < last → ops[i]? = some o → o.dst = some d → Φ i (a.tmps.getD d undef) w) → (∀ t, (∀ j, wr ops t = some j → last ≤ j) → a.tmps.getD t undef = a0.tmps.getD t undef) → a.defers = a0.defers → a.tmps.size = a0.tmps.size → wpOp P ops Q last (fun a' w' => ∀ fuel, ops.size ≤ fuel + last + 1 → wpAny P .any ops Q fuel (doneTo last ops.size) a' w') a w) :
    ∀ (fuel : Nat) (L : Array Bool) (a : Act) (w : World), MonoInv ops Φ a0 w0 L a w → (∀ k, last ≤ k → L.getD k false = false) → (List.range ops.size).countP (fun i => !L.getD i false) ≤ fuel → wpAny P .any ops Q fuel L a w := by
  have hrdy : ∀ (L : Array Bool) (a : Act) (w : World), MonoInv ops Φ a0 w0 L a w → L.getD last false = false → Region.ready .any ops L = [] → False := by
    intro L a w hI hlast hr
    have hall : ∀ n i, i < n → i < ops.size → L.getD i false = true := by
      intro n
      induction n with
      | zero => intro i h; omega
      | succ n ih =>
        intro i h hi
        by_cases hin : i < n
        · exact ih i hin hi
        · have e : i = n := by omega
          subst e
          cases hL : L.getD i false
          · exfalso
            have ho : ops[i]? = some ops[i] := Array.getElem?_eq_getElem hi
            obtain ⟨_, _, h3⟩ := monoOk_spec hok ho
            have : i ∈ Region.ready .any ops L := mem_ready.2 ⟨by
              have hs : i < L.size := by rw [hI.size]; exact hi
              rw [Array.getD_eq_getD_getElem?, Array.getElem?_eq_getElem hs] at hL ⊢
              exact hL, ops[i], ho, fun e he hb => by
              have hd : depB ops i e.on = true := by
                unfold depB
                rw [ho]
                exact Array.any_eq_true'.2 ⟨e, he, by simp [hb]⟩
              have hlt := h3 _ hd
              exact ih e.on hlt (by omega)⟩
            rw [hr] at this
            cases this
          · rfl
    have := hall ops.size last (by omega) (by omega)
    rw [hlast] at this; cases this
  have hcl : ∀ (L : Array Bool) (a : Act) (w : World), MonoInv ops Φ a0 w0 L a w → (∀ j, depB ops last j = true → L.getD j false = true) → ∀ n i, last ≤ i + n → i < last → L.getD i false = true := by
    intro L a w hI hdl n
    induction n with
    | zero => intro i h hi; omega
    | succ n ih =>
      intro i h hi
      unfold coverB at hcov
      have h1 := List.all_eq_true.1 hcov i (List.mem_range.2 hi)
      obtain ⟨k, hk, hd⟩ := List.any_eq_true.1 h1
      have hk' : k < last + 1 := List.mem_range.1 hk
      by_cases hkl : k = last
      · subst hkl; exact hdl i hd
      · have hlt : i < k := by
          unfold depB at hd
          cases hok' : ops[k]? with
          | none => rw [hok'] at hd; cases hd
          | some ok =>
            obtain ⟨_, _, h3⟩ := monoOk_spec hok hok'
            exact h3 i (by unfold depB; exact hd)
        exact hI.closed k (ih k (by omega) (by omega)) i hd
  have hwait : ∀ k, last < k → k < ops.size → ∃ j, last ≤ j ∧ depB ops k j = true := by
    intro k h1 h2
    unfold lateB at hlate
    have := List.all_eq_true.1 hlate k (List.mem_range.2 h2)
    simp only [Bool.or_eq_true, decide_eq_true_eq] at this
    rcases this with h | h
    · omega
    · obtain ⟨j, hj, hd⟩ := List.any_eq_true.1 h
      simp only [Bool.and_eq_true, decide_eq_true_eq] at hd
      exact ⟨j, hd.1, hd.2⟩
  intro fuel
  induction fuel with
  | zero =>
    intro L a w hI hun hc
    have hlast := hun last (Nat.le_refl _)
    have : 0 < (List.range ops.size).countP (fun i => !L.getD i false) := List.countP_pos_iff.2 ⟨last, List.mem_range.2 (by omega), by simp only [hlast]; rfl⟩
    omega
  | succ fuel ih =>
    intro L a w hI hun hc
    have hlast := hun last (Nat.le_refl _)
    refine ⟨fun h => (hrdy L a w hI hlast h).elim, fun i hi => ?_⟩
    obtain ⟨h0, o, ho, hdeps⟩ := mem_ready.1 hi
    have hlt : i < ops.size := (Array.getElem?_eq_some_iff.1 ho).1
    have hls : i < L.size := by rw [hI.size]; exact hlt
    have h0' : L.getD i false = false := by
      rw [Array.getD_eq_getD_getElem?, Array.getElem?_eq_getElem hls] at h0 ⊢
      exact h0
    obtain ⟨hd, hl, hlex⟩ := monoOk_spec hok ho
    have hdl : ∀ j, depB ops i j = true → L.getD j false = true := by
      intro j hj
      unfold depB at hj
      rw [ho] at hj
      obtain ⟨e, he, hb⟩ := Array.any_eq_true'.1 hj
      simp only [Bool.and_eq_true, beq_iff_eq] at hb
      rw [← hb.2]; exact hdeps e he hb.1
    by_cases hil : i = last
    · subst hil
      have hall := hcl L a w hI hdl i
      refine wpOp_mono ?_ (hend a w hI.ext (fun j o' d hj ho' hd' => hI.vals j o' d ho' hd' (hall j (by omega) hj)) (fun t ht => hI.rest t (fun j hj => hun j (ht j hj))) hI.defers hI.tsize)
      intro a' w' hq
      have hL : L.setIfInBounds i true = doneTo i ops.size := by
        apply Array.ext
        · simp [doneTo, hI.size]
        · intro k h1 h2
          have hk : k < ops.size := by simpa [doneTo] using h2
          simp only [doneTo, List.getElem_toArray, List.getElem_map, List.getElem_range]
          have hks : k < L.size := by rw [hI.size]; exact hk
          rw [Array.getElem_setIfInBounds (by exact hks)]
          by_cases hki : i = k
          · simp [hki]
          · rw [if_neg hki]
            have hg : L.getD k false = L[k] := by rw [Array.getD_eq_getD_getElem?, Array.getElem?_eq_getElem hks]; rfl
            by_cases hlt : k < i
            · rw [← hg, hall k (by omega) hlt]
              simp; omega
            · rw [← hg, hun k (by omega)]
              simp; omega
      rw [hL]
      refine hq fuel ?_
      have hcount : (List.range ops.size).countP (fun k => !L.getD k false) = ops.size - i := by
        have : (List.range ops.size).countP (fun k => !L.getD k false) = (List.range ops.size).countP (fun k => decide (i ≤ k)) := by
          apply List.countP_congr
          intro k hk
          have hk' := List.mem_range.1 hk
          by_cases hlt : k < i
          · rw [hall k (by omega) hlt]; simp; omega
          · rw [hun k (by omega)]; simp; omega
        rw [this]
        exact countP_range_le i ops.size (by omega)
      omega
    have hil2 : i < last := by
      rcases Nat.lt_or_ge last i with h | h
      · obtain ⟨j, hj, hd'⟩ := hwait i h hlt
        have := hdl j hd'
        rw [hun j hj] at this
        cases this
      · omega
    have hlt' : i < last := by omega
    have hgood : GoodAct ops Φ a0 i o a w := by
      intro t ht
      cases hw : wr ops t with
      | none => exact hI.rest t (fun j hj => by rw [hw] at hj; cases hj)
      | some j =>
        simp only []
        have hj := List.find?_some hw
        simp only [beq_iff_eq] at hj
        split
        · rename_i hdep
          cases hoj : ops[j]? with
          | none => rw [hoj] at hj; cases hj
          | some oj =>
            rw [hoj] at hj
            exact hI.vals j oj t hoj hj (hdl j hdep)
        · rename_i hdep
          refine hI.rest t (fun j' hj' => ?_)
          rw [hw] at hj'
          cases hj'
          rcases hl t ht j hw with h | h
          · exact absurd h hdep
          · cases hLj : L.getD j false
            · rfl
            · have := hI.closed j hLj i h
              rw [h0'] at this; cases this
    have hstep : ∀ v w', Below w.heap.size w w' → Φ i v w' → MonoInv ops Φ a0 w0 (L.setIfInBounds i true) (a.put o.dst v) w' := by
      intro v w' hb hv
      have hget : ∀ k, (L.setIfInBounds i true).getD k false = true ↔ (k = i ∨ L.getD k false = true) := by
        intro k
        by_cases hk : k = i
        · subst hk
          simp [Array.getD_eq_getD_getElem?, hls]
        · rw [getD_set_ne false (fun e => hk e.symm)]
          simp [hk]
      have hput : ∀ t, (a.put o.dst v).tmps.getD t undef = if o.dst = some t then v else a.tmps.getD t undef := by
        intro t
        cases hdst : o.dst with
        | none => simp [Act.put]
        | some d =>
          simp only [Act.put, Option.some.injEq]
          have hdsz : d < a.tmps.size := by rw [hI.tsize]; exact (hd d hdst).1
          by_cases h : d = t
          · subst h
            simp [Array.getD_eq_getD_getElem?, hdsz]
          · simp [Array.getD_eq_getD_getElem?, h]
      refine ⟨by simp [hI.size], hI.ext.trans (hb.mono hI.ext.size), ?_, ?_, ?_, ?_, ?_⟩
      · intro k hk j hj
        rw [hget] at hk ⊢
        rcases hk with rfl | hk
        · exact .inr (hdl j hj)
        · exact .inr (hI.closed k hk j hj)
      · intro k ok d hok' hdk hk
        rw [hget] at hk
        rw [hput]
        rcases hk with rfl | hk
        · rw [ho] at hok'; cases hok'
          rw [if_pos hdk]; exact hv
        · have hne : o.dst ≠ some d := by
            intro e
            have h1 := (hd d e).2
            have h2 := ((monoOk_spec hok hok').1 d hdk).2
            rw [h1] at h2
            cases h2
            rw [h0'] at hk; cases hk
          rw [if_neg hne]
          exact hst k _ _ _ (hI.vals k ok d hok' hdk hk) hb
      · intro t ht
        rw [hput]
        have hne : o.dst ≠ some t := by
          intro e
          have := ht i (hd t e).2
          have h2 := (hget i).2 (.inl rfl)
          rw [this] at h2; cases h2
        rw [if_neg hne]
        refine hI.rest t (fun j hj => ?_)
        cases hLj : L.getD j false
        · rfl
        · have := ht j hj
          rw [(hget j).2 (.inr hLj)] at this; cases this
      · cases o.dst <;> exact hI.defers
      · rw [← hI.tsize]; cases o.dst <;> simp [Act.put]
    have hcount : (List.range ops.size).countP (fun k => !(L.setIfInBounds i true).getD k false) ≤ fuel := by
      have := countP_lt (l := List.range ops.size) (p := fun k => !L.getD k false) (q := fun k => !(L.setIfInBounds i true).getD k false)
        (fun k _ hk => by
          by_cases hki : k = i
          · subst hki; simp [h0']
          · rw [getD_set_ne false (fun e => hki e.symm)] at hk; exact hk)
        ⟨i, List.mem_range.2 hlt, by simp [h0'], by simp [Array.getD_eq_getD_getElem?, hls]⟩
      omega
    have hun' : ∀ k, last ≤ k → (L.setIfInBounds i true).getD k false = false := fun k hk => by rw [getD_set_ne false (by omega)]; exact hun k hk
    have hg := hop i o hlt' ho a w hI.ext hgood
    unfold wpOp
    rw [ho]
    simp only []
    split at hg
    · rename_i hw
      rw [if_pos hw]
      refine .inl (Oper.wp_mono ?_ hg)
      rintro a' w' ⟨v, rfl, hb, hv⟩
      exact ih _ _ _ (hstep v w' hb hv) hun' hcount
    · rename_i hw
      rw [if_neg hw]
      exact ih _ _ _ (hstep undef w (Below.refl _ _) hg) hun' hcount


/-- The same where an operation may write whatever lies there: all ahead of it are through by then, and all behind it wait for it. -/
theorem wp_region_cut {id : Nat} {a0 : Act} {w0 : World} (hm : P.follows .mixedOrders = true) (L : List (Value → World → Prop)) (plan : List (List (Tmp × Option Nat))) (D : List (Option Tmp)) (M : List Bool) (last : Nat) (ol : Oper) (hol : ops[last]? = some ol) 
    (hn : last < ops.size) (hcov : coverB ops last = true) (hlate : lateB ops last = true)
    (hok : monoOk ops a0.tmps.size = true) (hplan : planOf ops = plan) (hD : dstsOf ops = D) (hM : maskOf ops a0.tmps.size = M) (hst : AllStable L) (hop : MonoOps P ops Q L a0 w0 (ops.toList.take last) plan L)
    (hwant : ∀ f w, AllWords f w (D.take last) L → Region.wanted ol (yielded ops (mergeT M a0.tmps.toList 0 f).toArray) = true)
    (hend : ∀ f w, Below w0.heap.size w0 w → AllWords f w (D.take last) L → ol.wp P { tmps := (mergeT M a0.tmps.toList 0 f).toArray, defers := a0.defers } w (fun a' w' => ∀ fuel, ops.size ≤ fuel + last + 1 → wpAny P .any ops Q fuel (doneTo last ops.size) a' w') Q) :
    (Code.region id ops true).wp P Q a0 w0 := by
  refine wp_region_any hm (mono_any_cut (w0 := w0) (fun i => L.getD i (fun _ _ => True)) hok last hn hcov hlate (fun i => allStable_get hst i) ?_ ?_ ops.size _ a0 _ ⟨by simp, (Below.refl _ _).drew, ?_, ?_, fun _ _ => rfl, rfl, rfl⟩ ?_ ?_)
  · intro i o hil ho a w hb hg
    have hlt : i < ops.size := (Array.getElem?_eq_some_iff.1 ho).1
    have hpl : plan[i]? = some ((o.looksAt ops).map fun t => (t, match wr ops t with
          | some j => if depB ops i j = true then some j else none
          | none => none)) := by
      rw [← hplan]
      unfold planOf
      rw [List.getElem?_map, List.getElem?_range hlt, Option.map_some, ho]
      rfl
    exact monoOps_get hop i o _ (by rw [List.getElem?_take, if_pos hil]; simpa using ho) hpl a w hb (planFacts_of rfl (o := o) _ hg)
  · intro a w hb hv hr hd hs
    have hwd : AllWords (fun t => a.tmps.getD t undef) w (D.take last) L := by
      rw [← hD, dstsOf, ← List.map_take]
      exact allWords_of (fun i o d ho hdd => by
        rw [List.getElem?_take] at ho
        split at ho
        · rename_i hil
          exact hv i o d hil (by simpa using ho) hdd
        · cases ho)
    have h := hend (fun t => a.tmps.getD t undef) w hb hwd
    have hw := hwant (fun t => a.tmps.getD t undef) w hwd
    have e : mergeT M a0.tmps.toList 0 (fun t => a.tmps.getD t undef) = a.tmps.toList := by
      refine mergeT_eq _ _ _ _ _ (by rw [← hM]; simp [maskOf]) (by simpa using hs) ?_ ?_
      · intro j hj _
        simp [Array.getD_eq_getD_getElem?, List.getD_eq_getElem?_getD]
      · intro j hj hb
        rw [← hM] at hb
        have hj' : j < a0.tmps.size := by rw [← hs]; simpa using hj
        have hw : wr ops j = none := by
          unfold maskOf at hb
          simp [List.getD_eq_getElem?_getD, List.getElem?_map, List.getElem?_range hj'] at hb
          exact hb
        have := hr j (fun k hk => by rw [hw] at hk; cases hk)
        simpa [Array.getD_eq_getD_getElem?, List.getD_eq_getElem?_getD] using this
    rw [e, ← hd] at h
    unfold wpOp
    rw [hol]
    simp only []
    rw [e] at hw
    rw [if_pos (by simpa using hw)]
    exact .inl h
  · intro k hk
    simp [Array.getD_eq_getD_getElem?] at hk
    rcases h : (Array.replicate ops.size false)[k]? with _ | b <;> simp [h] at hk
    subst hk
    obtain ⟨h1, h2⟩ := Array.getElem?_eq_some_iff.1 h
    simp at h2
  · intro i o d ho hd hk
    exfalso
    simp [Array.getD_eq_getD_getElem?] at hk
    rcases h : (Array.replicate ops.size false)[i]? with _ | b <;> simp [h] at hk
    subst hk
    obtain ⟨h1, h2⟩ := Array.getElem?_eq_some_iff.1 h
    simp at h2
  · intro k _
    rw [Array.getD_eq_getD_getElem?]
    by_cases hk : k < ops.size
    · simp [hk]
    · simp [hk]
  · exact Nat.le_trans List.countP_le_length (by simp)
/-- Behind the cut: one operation whose turn it is. -/
theorem wpAny_one {L : Array Bool} {i f : Nat} {o : Oper} {a : Act} {w : World} (hr : Region.ready .any ops L = [i]) (ho : ops[i]? = some o) (hw : Region.wanted o (yielded ops a.tmps) = true)
    (h : o.wp P a w (fun a' w' => wpAny P .any ops Q f (L.setIfInBounds i true) a' w') Q) : wpAny P .any ops Q (f + 1) L a w := by
  refine ⟨fun h0 => (by rw [hr] at h0; cases h0), fun j hj => ?_⟩
  rw [hr, List.mem_singleton] at hj
  subst hj
  unfold wpOp
  rw [ho]
  simp only []
  rw [if_pos (by simpa using hw)]
  exact .inl h
theorem wpAny_end {L : Array Bool} {f : Nat} {a : Act} {w : World} (hr : Region.ready .any ops L = []) (h : Q .normal a w) : wpAny P .any ops Q f L a w := wpAny_done hr h _
end
end Go.Proofs.YtamafdcnbcoegaaGreat
namespace Go.Proofs.YtamafdcnbcoegaaGreat
open Go.RowKit

/-- What comes of bytes at a sink: an Errno, the sink behind it, the frames that come out. -/
def skSays (a : Mod.Sk) (l : List UInt8) : Int × Mod.Sk × List ByteArray :=
  if Wire.reads l = true then (0, skReply a (Wire.kindOf l) (Wire.epochOf l) (Wire.streamOf l).toNat (Wire.seqOf l).toNat (Wire.bodyOf l)) else (1, a, [])
/-- Frames that came out: a new list of new lists, apart from each other and from U. -/
structure FramesOut (B : Nat) (w : World) (lv : Value) (fs : List Value) (Fl : List ByteArray) (U : Nat → Prop) : Prop where
  len : fs.length = Fl.length
  row : w.ownsRow B 44 1 lv fs.length fs
  each : ∀ (j : Nat) (v : Value), fs[j]? = some v → w.ownsRow B 5 1 v ((Fl.map fun b => b.data.toList).getD j []).length (bv ((Fl.map fun b => b.data.toList).getD j []))
  apart : ∀ (i j : Nat) (u v : Value), fs[i]? = some u → fs[j]? = some v → i ≠ j → ∀ g, u.ownBlock = some g → v.ownBlock ≠ some g
  clear : ∀ k, (lv.ownBlock = some k ∨ Done fs fs.length k) → ¬ U k
end Go.Proofs.YtamafdcnbcoegaaGreat
namespace Go.Proofs.YtamafdcnbcoegaaGreat
open Go.RowKit

/-- What is so of an agent behind at most N steps. -/
structure AgGood (N : Nat) (a : Mod.Ag) : Prop where
  ep : a.epoch ≤ 2147483647
  tk : a.ticks ≤ N
  sum : ∀ s, s < 3 → (a.fl s).base + (a.fl s).kept.length ≤ N
  bod : ∀ s, s < 3 → ∀ x ∈ (a.fl s).kept, x.1.size ≤ 20 ∧ x.2 ≤ N
theorem agGood_submit {N : Nat} {a : Mod.Ag} (G : AgGood N a) (s : Nat) (b : ByteArray) (hb : b.size ≤ 20) : AgGood (N + 1) (a.submit s b) := by
  refine ⟨G.ep, Nat.le_succ_of_le G.tk, fun t ht => ?_, fun t ht x hx => ?_⟩
  · have := G.sum t ht
    unfold Mod.Ag.submit Mod.upd
    simp only
    split
    · rename_i e
      subst e
      simp; omega
    · omega
  · unfold Mod.Ag.submit Mod.upd at hx
    simp only at hx
    split at hx
    · rename_i e
      subst e
      rw [List.mem_append, List.mem_singleton] at hx
      rcases hx with hx | rfl
      · exact ⟨(G.bod t ht x hx).1, Nat.le_succ_of_le (G.bod t ht x hx).2⟩
      · exact ⟨hb, Nat.zero_le _⟩
    · exact ⟨(G.bod t ht x hx).1, Nat.le_succ_of_le (G.bod t ht x hx).2⟩
end Go.Proofs.YtamafdcnbcoegaaGreat
namespace Go.Proofs.YtamafdcnbcoegaaGreat
open Go.RowKit

def agSpools (a : Mod.Ag) (i : Int) : List ByteArray := if 0 ≤ i ∧ i < 3 then a.spool i.toNat else []
def agSubmits (a : Mod.Ag) (i : Int) (s : ByteArray) : Mod.Ag := if a.refuses i s.size = 0 then a.submit i.toNat s else a
section
end
end Go.Proofs.YtamafdcnbcoegaaGreat
namespace Go.Proofs.YtamafdcnbcoegaaGreat
open Go.RowKit

set_option maxHeartbeats 400000 in
theorem firstHeld_any (q : Nat) (hq : q ≤ 1000000000000) (w : World) : Calls Tryz.prog 202 #[.int .i64 q] w fun e w' => e = .returned (.int .i64 ((q : Int) + 2)) ∧ w' = w := by
  have hw : IntKind.i64.wrap ((q : Int) + 2) = (q : Int) + 2 := by rw [IntKind.wrap_i64]; omega
  go_enter Tryz.func202, Tryz.ntmps202
  go_wp2
  go_ret
  exact ⟨rfl, rfl⟩

theorem infoI : (Tryz.prog.info? 3).map (fun i => (i.zero, i.size, i.bytes)) = some (some (.int .i64 0), 1, 8) := by kernel_rfl

end Go.Proofs.YtamafdcnbcoegaaGreat
namespace Go.Proofs.YtamafdcnbcoegaaGreat
open Go.RowKit

/-- The world in which the two captured variables have been laid. -/
def boxed2 (w : World) (p o : Nat) (m : Int) : World := (w.alloc (.cells #[.pointer (some ⟨p, o, none⟩)] 209)).alloc (.cells #[.int .i64 m] 3)
def iterA (b : Nat) : Value := .func (.func 189) #[] #[.pointer (some ⟨b, 0, none⟩), .pointer (some ⟨b + 1, 0, none⟩)]

set_option maxHeartbeats 400000 in
theorem firstA_any (p o : Nat) (m : Int) (w : World) :
    Calls Tryz.prog 137 #[.pointer (some ⟨p, o, none⟩), .int .i64 m] w fun e w' => e = .returned (iterA w.heap.size) ∧ w' = boxed2 w p o m := by
  go_enter Tryz.func137, Tryz.ntmps137
  go_wp2
  go_ret
  exact ⟨rfl, rfl⟩

set_option maxHeartbeats 400000 in
theorem allA_any {w : World} {p o : Nat} {arr : Array Value} {t : TypeId} {nv mv : Value} {l : List (Nat × Value)} (hb : w.heap[p]? = some (.cells arr t (0, 0))) (h0 : arr[o]? = some nv) (S : ShelfIs w nv mv l) :
    Calls Tryz.prog 97 #[.pointer (some ⟨p, o, none⟩)] w fun e w' => e = .returned (iterA w.heap.size) ∧ w' = boxed2 w p o l.length := by
  have H := hide (lenA_any hb h0 S)
  clear S hb h0
  go_enter Tryz.func97, Tryz.ntmps97
  go_wp2_with (first | (go_at_call 143; refine (unhide H).mono ?_; rintro e w' ⟨rfl, rfl⟩) | (go_at_call 137; refine (firstA_any _ _ _ _).mono ?_; rintro e w' ⟨rfl, rfl⟩))
  go_ret
  exact ⟨rfl, rfl⟩
end Go.Proofs.YtamafdcnbcoegaaGreat
namespace Go.Proofs.YtamafdcnbcoegaaGreat
open Go.RowKit
attribute [local go_sem] Oper.semAt_some

/-- What the iterator reads. -/
structure IterAt (W : World) (b p o : Nat) (m : Nat) (nv mv : Value) (l : List (Nat × Value)) : Prop where
  c1 : W.cell? ⟨b, 0, none⟩ = some (.pointer (some ⟨p, o, none⟩))
  c2 : W.cell? ⟨b + 1, 0, none⟩ = some (.int .i64 m)
  s0 : W.cell? ⟨p, o, none⟩ = some nv
  s1 : W.cell? ⟨p, o + 1, none⟩ = some mv
  sh : ShelfIs W nv mv l

theorem look_at {l : List (Nat × Value)} (hs : (l.map (·.1)).Pairwise (· < ·)) {k : Nat} (hk : k < l.length) : look l (l[k].1 : Int) = some l[k].2 := by
  induction l generalizing k with
  | nil => simp at hk
  | cons x r ih =>
    rw [List.map_cons, List.pairwise_cons] at hs
    obtain ⟨h0, hs⟩ := hs
    cases k with
    | zero => rw [look_cons, List.getElem_cons_zero, if_pos rfl]
    | succ k =>
      have hk' : k < r.length := by simpa using hk
      rw [look_cons, List.getElem_cons_succ, if_neg, ih hs hk']
      have := h0 r[k].1 (List.mem_map.2 ⟨r[k], List.getElem_mem hk', rfl⟩)
      omega

set_option maxRecDepth 100000 in
set_option maxHeartbeats 2000000 in
theorem iterA_in (n lp b p o m : Nat) (nv mv : Value) (l : List (Nat × Value)) (A : AreA l) (J : Nat → World → Prop) (Jx : World → Prop)
    (hJI : ∀ i W, J i W → IterAt W b p o m nv mv l) (hJd : ∀ i W k, J i W → J i (W.drewN k))
    (hY : ∀ i W (h : i < l.length), i < m → J i W → YieldAt Fence.wide (n - 1) Tryz.prog lp #[.int .i64 (l[i].1 : Nat), l[i].2] W fun e W' => (e = .returned (.bool true) ∧ J (i + 1) W') ∨ (e = .returned (.bool false) ∧ Jx W'))
    (W : World) (h0 : J 0 W) :
    CallsIn Fence.wide n Tryz.prog 189 #[.func (.yield lp) #[] #[], .pointer (some ⟨b, 0, none⟩), .pointer (some ⟨b + 1, 0, none⟩)] W fun e W' => (∃ v, e = .returned v) ∧ (J (min m l.length) W' ∨ Jx W') := by
  have R := hJI 0 W h0
  obtain ⟨c1, c2, s0, s1, S⟩ := R
  have hlen := S.len
  have hll : (l.map (·.1)).length = l.length := List.length_map _
  obtain ⟨ce, hce⟩ : ∃ ce, ce = min m l.length := ⟨_, rfl⟩
  rw [← hce]
  have hce1 : ce ≤ m := by omega
  have hce2 : ce ≤ l.length := by omega
  have hmin : min (m : Int) (l.length : Int) = ce := by omega
  refine callsIn_of_wp Tryz.func189 rfl trivial ?_ rfl
  refine wpIn_wide.2 ?_
  simp only [Tryz.ntmps189, List.size_toArray, List.length_cons, List.length_nil, Nat.reduceAdd, Nat.reduceSub, Array.replicate_succ, Array.replicate_zero, List.push_toArray, List.append_toArray, List.nil_append, List.cons_append]
  rcases S.nums.cases with ⟨hnv, hlz⟩ | ⟨g, cap, cur, hnv, hh, hn, hc, hz, htk⟩
  · subst hnv
    obtain rfl : l = [] := by simpa using hlz
    obtain rfl : ce = 0 := by simpa using hce2
    have hmin0 : min (m : Int) 0 = 0 := by omega
    clear S hll hmin hce hce1 hce2 hlz
    go_wp2
    go_quiet (fail)
    go_wp2
    go_loopw [5, 19] (fun _ i wr => i = .int .i64 0 ∧ J 0 wr) (fun _ _ _ => 0)
    case atStart => exact ⟨rfl, hJd 0 W _ h0⟩
    case round =>
      obtain ⟨rfl, hJ⟩ := hrel
      go_wp2
      refine bodyPost_end (results_none rfl _ _ _) rfl ?_
      exact ⟨⟨_, rfl⟩, .inl hJ⟩
  · rw [hll] at hnv hn
    subst hnv
    clear S htk hll
    replace hce := hide hce
    go_wp2
    go_quiet (fail)
    go_wp2
    go_loopw [5, 19] (fun _ i wr => ∃ k : Nat, k ≤ ce ∧ i = .int .i64 k ∧ J k wr) (fun _ i _ => l.length - (intOf i).toNat)
    case atStart => exact ⟨0, by omega, rfl, hJd 0 W _ h0⟩
    case round =>
      obtain ⟨k, hk, rfl, hJ⟩ := hrel
      by_cases hlt : k < ce
      · have hkl : k < l.length := by omega
        obtain ⟨c1, c2, s0, s1, S⟩ := hJI k wr hJ
        obtain ⟨x1, x2, hx⟩ := A l[k] (List.getElem_mem hkl)
        have cn : wr.cell? ⟨g, k, none⟩ = some (.int .i64 (l[k].1 : Int)) := by
          rw [S.nums.cell' (by simpa using hkl)]
          simp [List.getD_eq_getElem?_getD, hkl]
        have hrun := (run_lookup_i (P := Tryz.prog) (w := wr) (t := 137) Tryz.underlying137 Tryz.underlying3 (zero_A wr) S.map (l[k].1 : Int)).2
        rw [look_at S.sorted hkl, hx] at hrun
        have hY1 := hY k wr hkl (by omega) hJ
        rw [hx] at hY1
        simp only [Option.getD_some, recA] at hrun hY1
        obtain ⟨fn, tmps, assign, body, hy, hR⟩ := hY1
        clear S hx
        generalize l[k].1 = xn at *
        go_upto_region 3 with fail
        refine (wpIn_wide (n := n)).1 ?_
        gi_wp2
        refine ⟨fun h => by simp [Fence.wide] at h, hR.mono ?_⟩
        rintro e W3 (⟨rfl, hJ3⟩ | ⟨rfl, hJx3⟩)
        · gi_wp2
          go_wp2
          go_roundw
          case rel => exact ⟨k + 1, by omega, by go_num, hJ3⟩
          case measure => simp [intOf]; omega
        · gi_wp2
          go_wp2
          refine bodyPost_ret (results_none rfl _ _ _) rfl ?_
          exact ⟨⟨_, rfl⟩, .inr hJx3⟩
      · obtain rfl : k = ce := by omega
        go_wp2
        refine bodyPost_end (results_none rfl _ _ _) rfl ?_
        exact ⟨⟨_, rfl⟩, .inl hJ⟩
end Go.Proofs.YtamafdcnbcoegaaGreat
namespace Go.Proofs.YtamafdcnbcoegaaGreat
open Go.RowKit

/-- All blocks but two are the same. -/
structure Same2 (D : Nat) (W W' : World) : Prop where
  os : W'.os = W.os
  tape : W'.tape = W.tape
  output : W'.output = W.output
  size : W'.heap.size = W.heap.size
  rest : ∀ k, k ≠ D → k ≠ D + 1 → W'.heap[k]? = W.heap[k]?
theorem same2_put (D : Nat) (W : World) (o : Obj) : Same2 D W (W.putObj (D + 1) o) :=
  ⟨rfl, rfl, rfl, World.putObj_size, fun _ _ h => World.putObj_heap_other h⟩
theorem same2_drew (D : Nat) (W : World) (n : Nat) : Same2 D W (W.drewN n) := ⟨rfl, rfl, rfl, rfl, fun _ _ _ => rfl⟩

/-- How a round's body must end. -/
def roundEnd (D : Nat) (I : World → Prop) (W : World) : Exit → Act → World → Prop
  | .normal, _, W' => W'.heap[D]? = W.heap[D]? ∧ W'.heap[D + 1]? = W.heap[D + 1]? ∧ I W'
  | _, _, _ => False

theorem range_first {g : Operand} {ps : Array Tmp} {assign body : Code} {Q : Exit → Act → World → Prop} {a : Act} {w : World} (n b p o m : Nat) (nv mv : Value) (l : List (Nat × Value)) (A : AreA l)
    (hg : a.eval g = iterA b) (hps : ps.size = 2) (I : Nat → World → Prop) (hI : ∀ i W W', I i W → Same2 w.heap.size W W' → I i W') (hIt : ∀ i W, I i W → IterAt W b p o m nv mv l)
    (h0 : ∀ W, Below w.heap.size w W → W.heap.size = w.heap.size + 2 → I 0 W)
    (hround : ∀ i (hi : i < l.length) W, i < m → I i W → w.heap.size + 2 ≤ W.heap.size →
      assign.wpIn (Fence.wide.inRound (w.heap.size + 1)) (n - 1 - 1) Tryz.prog (Exit.then (fun a₁ W₁ => (W₁.heap[w.heap.size]? = W.heap[w.heap.size]? ∧ W₁.heap[w.heap.size + 1]? = W.heap[w.heap.size + 1]?) ∧
          ∀ W₂, Same2 w.heap.size W₁ W₂ → body.wpIn (Fence.wide.inRound (w.heap.size + 1)) (n - 1 - 1) Tryz.prog (roundEnd w.heap.size (I (i + 1)) W₂) a₁ W₂) (fun _ _ _ => False))
        { tmps := (ps.zip #[.int .i64 (l[i].1 : Nat), l[i].2]).foldl (fun t (p, v) => t.setIfInBounds p v) a.tmps, defers := [] } W)
    (hsz : ∀ i W, I i W → w.heap.size + 2 ≤ W.heap.size)
    (hdone : ∀ W, I (min m l.length) W → W.heap[w.heap.size]? = some (.deferred (some [])) → Q .normal { a with defers := { target := .collected w.heap.size, args := #[] } :: a.defers } W) :
    (Code.rangeFunc g ps assign body).wpIn Fence.wide n Tryz.prog Q a w := by
  refine wpIn_rangeFunc ?_
  intro fn hfn
  obtain ⟨rec, hrec⟩ : ∃ rec : LoopState → Loop, rec = fun st => { state := st, pending := none, fn, tmps := a.tmps, params := ps, assign, body, defers := w.heap.size } := ⟨_, rfl⟩
  obtain ⟨W1, hW1⟩ : ∃ W1, (w.alloc (.deferred (some []))).alloc (.loop (rec .ready)) = W1 := ⟨_, rfl⟩
  have hL1 : W1.heap[w.heap.size + 1]? = some (.loop (rec .ready)) := by
    rw [← hW1]
    have := World.alloc_heap_new (w.alloc (.deferred (some []))) (.loop (rec .ready))
    rwa [World.size_alloc] at this
  have hK1 : W1.heap[w.heap.size]? = some (.deferred (some [])) := by
    rw [← hW1]
    exact (Below.heap_alloc _ _ _ (by simp)).trans (World.alloc_heap_new w _)
  have hB1 : Below w.heap.size w W1 := by
    rw [← hW1]
    exact ((Below.refl _ w).alloc (Nat.le_refl _) _).alloc (by simp) _
  have hS1 : W1.heap.size = w.heap.size + 2 := by rw [← hW1]; simp
  have eg : ∀ args w, (callFunc 189 args).run Tryz.prog w = .ok (.enter 189 args) w := enters_of Tryz.func189 (by kernel_rfl) rfl
  refine ⟨w.heap.size + 1, [{ target := .collected w.heap.size, args := #[] }], W1, { target := .fn (.func 189) #[.pointer (some ⟨b, 0, none⟩), .pointer (some ⟨b + 1, 0, none⟩)], args := #[.func (.yield (w.heap.size + 1)) #[] #[]] }, W1, 189,
    #[.func (.yield (w.heap.size + 1)) #[] #[], .pointer (some ⟨b, 0, none⟩), .pointer (some ⟨b + 1, 0, none⟩)], W1, ?_, ?_, ?_, ?_, fun h => by simp [Fence.wide] at h, ?_⟩
  · rw [← hW1, hrec]; exact run_enterLoop_outer _ _ _ _ _
  · simp only [resolve, hg]
    simp [go_sem, iterA]
  · intro f' _; trivial
  · simp [invoke, go_sem, eg]
  · refine (iterA_in (n - 1) (w.heap.size + 1) b p o m nv mv l A
      (fun i W => I i W ∧ W.heap[w.heap.size + 1]? = some (.loop (rec .ready)) ∧ W.heap[w.heap.size]? = some (.deferred (some []))) (fun _ => False)
      (fun i W h => hIt i W h.1) (fun i W k h => ⟨hI i W _ h.1 (same2_drew _ W k), h.2.1, h.2.2⟩) ?_ W1 ⟨h0 W1 hB1 hS1, hL1, hK1⟩).mono ?_
    · rintro i W hi him ⟨hi0, hl, hk⟩
      have hlt : w.heap.size + 1 < W.heap.size := (Array.getElem?_eq_some_iff.1 hl).1
      have hy := run_yield (P := Tryz.prog) (args := #[.int .i64 (l[i].1 : Nat), l[i].2]) hl (by rw [hrec]; simpa using hps.symm)
      rw [hrec] at hy
      refine ⟨fn, _, assign, body, hy, roundIn_of_wpIn hfn (wpIn_mono (hround i hi W him hi0 (hsz i W hi0)) ?_)⟩
      rintro e a₁ W₁ he
      cases e with
      | normal =>
        obtain ⟨⟨e1, e2⟩, hbody⟩ := he
        have hl1 : W₁.heap[w.heap.size + 1]? = some (.loop (rec .ready)) := e2.trans hl
        have hk1 : W₁.heap[w.heap.size]? = some (.deferred (some [])) := e1.trans hk
        have hlt1 : w.heap.size + 1 < W₁.heap.size := (Array.getElem?_eq_some_iff.1 hl1).1
        refine ⟨_, run_beginRound hl1 (by rw [hrec]), wpIn_mono (hbody _ (same2_put _ W₁ _)) ?_⟩
        rintro e2 a₂ W₃ hp
        cases e2 with
        | normal =>
          obtain ⟨f1, f2, f3⟩ := hp
          have hl3 : W₃.heap[w.heap.size + 1]? = some (.loop { rec .ready with state := .busy }) := f2.trans (World.putObj_heap_same hlt1)
          have hk3 : W₃.heap[w.heap.size]? = some (.deferred (some [])) := (f1.trans (World.putObj_heap_other (by omega))).trans hk1
          refine ⟨_, _, run_endRound none hl3, .inl ⟨rfl, hI _ _ _ f3 (same2_put _ W₃ _), ?_, ?_⟩⟩
          · rw [World.putObj_heap_same (Array.getElem?_eq_some_iff.1 hl3).1, hrec]
            rfl
          · exact (World.putObj_heap_other (by omega)).trans hk3
        | ret => exact hp.elim
        | exit id => exact hp.elim
        | goto t => exact hp.elim
        | panic c => exact hp.elim
        | outgrown => exact hp.elim
      | ret => exact he.elim
      | exit id => exact he.elim
      | goto t => exact he.elim
      | panic c => exact he.elim
      | outgrown => exact he.elim
    · rintro e W' ⟨⟨v, rfl⟩, ⟨hi, hl, hk⟩ | h⟩
      · have := run_endLoop (P := Tryz.prog) hl (by rw [hrec]; simp)
        rw [hrec] at this
        exact ⟨none, _, this, hdone _ (hI _ _ _ hi (same2_put _ W' _)) ((World.putObj_heap_other (by omega)).trans hk)⟩
      · exact h.elim
end Go.Proofs.YtamafdcnbcoegaaGreat
namespace Go.Proofs.YtamafdcnbcoegaaGreat
open Go.RowKit

/-- A record of an agent, as a thing on a shelf. -/
def recU  : Value := .agg #[]
def AreU (l : List (Nat × Value)) : Prop := ∀ x ∈ l, x.2 = recU 
end Go.Proofs.YtamafdcnbcoegaaGreat
namespace Go.Proofs.YtamafdcnbcoegaaGreat
open Go.RowKit

/-- A record of an agent, as a thing on a shelf. -/
def recI (m : Nat) : Value := .int .i64 m
def AreI (l : List (Nat × Value)) : Prop := ∀ x ∈ l, ∃ m, x.2 = recI m
end Go.Proofs.YtamafdcnbcoegaaGreat
namespace Go.Proofs.YtamafdcnbcoegaaGreat
open Go.RowKit

/-- A record of an agent, as a thing on a shelf. -/
def recS (b : ByteArray) : Value := .agg #[.string b]
def zeroS : Value := .agg #[.string ⟨#[]⟩]
theorem zero_S (w : World) : (zeroValue 235).run Tryz.prog w = .ok zeroS w := Tryz.zeroValue235 w
def AreS (l : List (Nat × Value)) : Prop := ∀ x ∈ l, ∃ b, x.2 = recS b
theorem areS_look {l : List (Nat × Value)} (h : AreS l) (k : Int) : (∃ b, look l k = some (recS b)) ∨ look l k = none := by
  cases hv : look l k with
  | none => exact .inr rfl
  | some v =>
    obtain ⟨x, hx, _, rfl⟩ := look_mem hv
    obtain ⟨b, e⟩ := h x hx
    exact .inl ⟨b, by rw [e]⟩

set_option maxHeartbeats 400000 in
theorem hasS_any {w : World} {p o : Nat} {arr : Array Value} {t : TypeId} {nv mv : Value} {l : List (Nat × Value)} (hb : w.heap[p]? = some (.cells arr t (0, 0))) (h1 : arr[o + 1]? = some mv) (S : ShelfIs w nv mv l) (A : AreS l) (n : Int) :
    Calls Tryz.prog 165 #[.pointer (some ⟨p, o, none⟩), .int .i64 n] w fun e w' => e = .returned (.bool (look l n).isSome) ∧ Below w.heap.size w w' := by
  have c1 : w.cell? ⟨p, o + 1, none⟩ = some mv := (blk_cell hb).trans h1
  have hrun := (run_lookup_i (P := Tryz.prog) (w := w) (t := 168) Tryz.underlying168 Tryz.underlying3 (zero_S w) S.map n).1
  clear S hb h1
  rcases areS_look A n with ⟨b, h⟩ | h
  all_goals
    rw [h] at hrun ⊢
    simp only [Option.getD_some, Option.getD_none, Option.isSome_some, Option.isSome_none, recS, zeroS] at hrun ⊢
    clear h A
    go_enter Tryz.func165, Tryz.ntmps165
    go_wp2
    go_ret
    refine ⟨rfl, ?_⟩
    exact (Below.refl _ _).alloc (Nat.le_refl _) _
set_option maxRecDepth 100000 in
set_option maxHeartbeats 1000000 in
theorem putS_any {w : World} {p o : Nat} {t : TypeId} {arr : Array Value} {nv mv : Value} {l : List (Nat × Value)} (S : ShAt w p o t arr nv mv l) (hl : l.length < 1000) (n : Nat) (b : ByteArray) :
    Calls Tryz.prog 206 #[.pointer (some ⟨p, o, none⟩), .int .i64 n, recS b] w fun e w' => e = .returned (.tuple #[]) ∧ ShStep w w' p o t arr nv mv (putL l n (recS b)) := by
  obtain ⟨hbW, h0, h1, S, ht⟩ := S
  obtain ⟨mv0, hmv0⟩ : ∃ m, m = mv := ⟨_, rfl⟩
  rw [← hmv0]
  have hmv0 := hide hmv0
  have c0 : w.cell? ⟨p, o, none⟩ = some nv := (blk_cell hbW).trans h0
  have c1 : w.cell? ⟨p, o + 1, none⟩ = some mv := (blk_cell hbW).trans h1
  unfold recS
  have hp := lt_of_block hbW
  go_enter Tryz.func206, Tryz.ntmps206
  go_upto_region 1 with fail
  refine wp_world (fun x => x.heap[p]? = some (.cells arr t (0, 0)) ∧ x.heap[w.heap.size]? = some (.cells #[.string b] 235 (0, 0)) ∧ ShelfIs x nv mv l ∧ Far (fun _ => False) w x ∧ w.heap.size < x.heap.size) ?_ ?_
  · have hf : Far (fun _ => False) w (w.alloc (.cells #[.string b] 235)) := far_below ((Below.refl _ _).alloc (Nat.le_refl _) _)
    exact ⟨hf.blk hbW id, heap_alloc_new w _, S.far hf (fun _ _ h => h), hf, by simp⟩
  clear c0 c1 S
  rintro x ⟨hb, hbox, S, hf, hz⟩
  have c0 : x.cell? ⟨p, o, none⟩ = some nv := (blk_cell hb).trans h0
  have c1 : x.cell? ⟨p, o + 1, none⟩ = some mv := (blk_cell hb).trans h1
  have hfr : x.frozen? ⟨p, o + 1, none⟩ = false := by simp [World.frozen?, hb]
  have hmm := @run_makeMap Tryz.prog
  have eqN : ∀ y : World, (binOp .eql 168 (.map none) (.map none)).run Tryz.prog y = .ok (.bool true) y := fun y => by kernel_rfl
  have eqS : ∀ (y : World) (m : Nat), (binOp .eql 168 (.map (some m)) (.map none)).run Tryz.prog y = .ok (.bool false) y := fun y m => by kernel_rfl
  have pM : (x.alloc (.map #[] 0)).heap[p]? = some (.cells arr t (0, 0)) := (Below.heap_alloc x _ p (lt_of_block hb)).trans hb
  have cM : (x.alloc (.map #[] 0)).cell? ⟨p, o + 1, none⟩ = some mv := (blk_cell pM).trans h1
  have fM : (x.alloc (.map #[] 0)).frozen? ⟨p, o + 1, none⟩ = false := by simp [World.frozen?, pM]
  rcases S.map with ⟨rfl, hm⟩ | ⟨mb, rfl, hm⟩
  all_goals
    go_upto_region 3 with fail
    refine wp_world (fun y => ∃ mb, y.heap[p]? = some (.cells (arr.setIfInBounds (o + 1) (.map (some mb))) t (0, 0)) ∧ y.heap[w.heap.size]? = some (.cells #[.string b] 235 (0, 0)) ∧ NumsAt y nv (l.map (·.1)) ∧ MapAt y mb (look l) ∧
      Far (fun k => k = p) w y ∧ w.heap.size < y.heap.size ∧ (mapBlock mv0 = some mb ∨ w.heap.size ≤ mb)) ?_ ?_
  · refine ⟨x.heap.size, blk_set pM, (blk_set_ne (by omega)).trans ((Below.heap_alloc x _ _ hz).trans hbox), ?_, ?_, ?_, ?_, .inr (Nat.le_of_lt hz)⟩
    · exact S.nums.keep (fun g hg => (blk_set_ne (fun e => S.ne hb ht (.inl (by rw [← e]; exact hg)))).trans (Below.heap_alloc x _ g (World.ownsRow.lt S.nums g hg).2))
    · rw [hm]
      exact (mapAt_new x).keep (blk_set_ne (by have := lt_of_block hb; omega))
    · exact ((hf.mono (fun _ _ h => h.elim)).trans (far_below ((Below.refl _ x).alloc (Nat.le_refl _) _)) (fun _ _ h => h)).trans (far_set _ p (o + 1) _) (fun _ _ h => h)
    · simp; omega
  rotate_left
  · refine ⟨mb, by rw [set_same h1]; exact hb, hbox, S.nums, hm, hf.mono (fun _ _ h => h.elim), hz, .inl (by rw [unhide hmv0]; rfl)⟩
  all_goals
    have hs := hide S.sorted
    clear c0 c1 pM cM fM hfr hbox S hm hb hz hmm eqN eqS hf hp
    rintro y ⟨mb', hb, hbox, N, M, hfY, hz, hloc⟩
    have h0s : o < arr.size := (Array.getElem?_eq_some_iff.1 h0).1
    have h1s : o + 1 < arr.size := (Array.getElem?_eq_some_iff.1 h1).1
    have a0 : (arr.setIfInBounds (o + 1) (.map (some mb')))[o]? = some nv := by rw [Array.getElem?_setIfInBounds_ne (by omega)]; exact h0
    have a1 : (arr.setIfInBounds (o + 1) (.map (some mb')))[o + 1]? = some (.map (some mb')) := by simp [h1s]
    have c0 : y.cell? ⟨p, o, none⟩ = some nv := (blk_cell hb).trans a0
    have hk := keys_putL (v := recS b) (n := n) (unhide hs)
    have hsr := search_any N (unhide hs) (by simp; omega) n
    have hcl : (l.map (·.1)).countP (· < n) ≤ (l.map (·.1)).length := List.countP_le_length
    have hnl : (l.map (·.1)).length < 1000 := by simpa using hl
    generalize (l.map (·.1)).countP (· < n) = k at hk hsr hcl
    generalize (l.map (·.1)).contains n = c at hk hsr
    generalize l.map (·.1) = ns at hk hsr hcl N hnl
    replace hk := hide hk
    replace hsr := hide hsr
    cases c
    · go_upto_region 4 with (go_at_call 132; refine (unhide hsr).mono ?_; rintro e y1 ⟨rfl, q, rfl⟩)
      go_upto_region 6 with fail
      refine (insert_any (w := (y.drewN q).alloc (.cells #[.int .i64 n] 3)) (ns := ns) (N.keep (fun g hg => Below.heap_alloc (y.drewN q) _ g (World.ownsRow.lt N g hg).2)) (by omega) k n y.heap.size hcl (heap_alloc_new (y.drewN q) _) (fun e => by have := (World.ownsRow.lt N _ e).2; omega)).mono ?_
      rintro e z ⟨nv', rfl, hN', hF', hL'⟩
      have hbz := hF'.blk ((Below.heap_alloc (y.drewN q) _ p (lt_of_block hb)).trans hb) (fun e => (RowO.of_own N).ne hb (fun e => ht e.symm) e)
      have hxz := hF'.blk ((Below.heap_alloc (y.drewN q) _ _ hz).trans hbox) (fun e => (RowO.of_own N).ne hbox (by decide) e)
      have cz := (blk_cell hbz).trans a0
      have fz : z.frozen? ⟨p, o, none⟩ = false := by simp [World.frozen?, hbz]
      obtain ⟨ns', hns'⟩ : ∃ x, x = ns.take k ++ n :: ns.drop k := ⟨_, rfl⟩
      rw [← hns'] at hN'
      obtain ⟨g', cap', rfl⟩ := own_shape hN' (by rw [hns']; simp only [List.length_append, List.length_cons]; omega)
      replace hns' := hide hns'
      go_upto_region 6 with fail
      refine wp_world (fun z => ∃ nv', z.heap[p]? = some (.cells ((arr.setIfInBounds o nv').setIfInBounds (o + 1) (.map (some mb'))) t (0, 0)) ∧ z.heap[w.heap.size]? = some (.cells #[.string b] 235 (0, 0)) ∧ NumsAt z nv' ((putL l n (recS b)).map (·.1)) ∧ MapAt z mb' (look l) ∧
        Far (fun k => k = p ∨ nv.ownBlock = some k) w z ∧ Loc w nv nv') ?_ ?_
      · have hne : nv.ownBlock ≠ some mb' := N.notMap M
        have hpn : ∀ g, (Value.slice (some ⟨g', 0, none⟩) ns'.length cap').ownBlock = some g → g ≠ p := fun g hg e => (RowO.of_own hN').ne hbz (fun e => ht e.symm) (by rw [hg, e])
        have hk' := unhide hk
        simp only [Bool.false_eq_true, if_false] at hk'
        have hfal : Far (fun _ => False) y ((y.drewN q).alloc (.cells #[.int .i64 n] 3)) := (far_drewN (fun _ => False) y q).trans (far_below ((Below.refl _ _).alloc (Nat.le_refl _) _)) (fun _ _ h => h)
        have hfz : Far (fun b => b = p ∨ nv.ownBlock = some b) w z := (hfY.mono (fun _ _ h => .inl h)).trans ((hfal.mono (fun _ _ h => h.elim)).trans hF' (fun _ _ h => h)) (fun _ _ h => .inr h)
        refine ⟨_, ?_, (blk_set_ne (by have := lt_of_block hbW; omega)).trans hxz, ?_, ?_, hfz.trans (far_set z p o _) (fun _ _ h => .inl h), loc_less hL' (by simp; omega)⟩
        · rw [set_comm _ _ (show o ≠ o + 1 by omega)]
          exact blk_set hbz
        · rw [hk', ← unhide hns']
          exact hN'.keep (fun g hg => blk_set_ne (hpn g hg))
        · exact M.keep ((blk_set_ne (fun e => M.not_cells (by rw [e]; exact hb))).trans ((hF'.rest _ (by have := M.lt; simp; omega) hne).trans (hfal.rest _ M.lt id)))
      · skip
        rintro z ⟨nv', hb, hbox, N', M, hf, hl'⟩
        obtain ⟨ob, hU, hM⟩ := run_update_i (P := Tryz.prog) (w := z) (t := 168) Tryz.underlying168 Tryz.underlying3 M n (recS b)
        have hU' := hU z.drew rfl
        unfold recS at hU'
        have c1 : z.cell? ⟨p, o + 1, none⟩ = some (.map (some mb')) := (blk_cell hb).trans (by simp [h1s])
        have b0 := blk_cell (i := 0) hbox
        simp at b0
        go_region
        refine bodyPost_end (results_none rfl _ _ _) rfl ⟨rfl, ?_⟩
        exact put_end (v := recS b) (W := { z.drew with heap := z.drew.heap.setIfInBounds mb' ob }) h0s h1s hb ht N' M hf hl' hloc hM ((far_drewN _ z 1).trans (far_block mb' ob) (fun _ _ h => h)) (unhide hs) hl
    · go_upto_region 4 with (go_at_call 132; refine (unhide hsr).mono ?_; rintro e y1 ⟨rfl, q, rfl⟩)
      go_upto_region 6 with fail
      refine wp_world (fun z => ∃ nv', z.heap[p]? = some (.cells ((arr.setIfInBounds o nv').setIfInBounds (o + 1) (.map (some mb'))) t (0, 0)) ∧ z.heap[w.heap.size]? = some (.cells #[.string b] 235 (0, 0)) ∧ NumsAt z nv' ((putL l n (recS b)).map (·.1)) ∧ MapAt z mb' (look l) ∧
        Far (fun k => k = p ∨ nv.ownBlock = some k) w z ∧ Loc w nv nv') ?_ ?_
      · have hk' := unhide hk
        simp only [if_true] at hk'
        refine ⟨nv, ?_, hbox, by rw [hk']; exact N, M, (hfY.mono (fun _ _ h => .inl h)).trans (far_drewN _ y q) (fun _ _ h => h), .inr (.inl rfl)⟩
        rw [set_same h0]
        exact hb
      · skip
        rintro z ⟨nv', hb, hbox, N', M, hf, hl'⟩
        obtain ⟨ob, hU, hM⟩ := run_update_i (P := Tryz.prog) (w := z) (t := 168) Tryz.underlying168 Tryz.underlying3 M n (recS b)
        have hU' := hU z.drew rfl
        unfold recS at hU'
        have c1 : z.cell? ⟨p, o + 1, none⟩ = some (.map (some mb')) := (blk_cell hb).trans (by simp [h1s])
        have b0 := blk_cell (i := 0) hbox
        simp at b0
        go_region
        refine bodyPost_end (results_none rfl _ _ _) rfl ⟨rfl, ?_⟩
        exact put_end (v := recS b) (W := { z.drew with heap := z.drew.heap.setIfInBounds mb' ob }) h0s h1s hb ht N' M hf hl' hloc hM ((far_drewN _ z 1).trans (far_block mb' ob) (fun _ _ h => h)) (unhide hs) hl
end Go.Proofs.YtamafdcnbcoegaaGreat
namespace Go.Proofs.YtamafdcnbcoegaaGreat
open Go.RowKit


set_option maxRecDepth 100000 in
set_option maxHeartbeats 1000000 in
theorem clearS_any {w : World} {p o : Nat} {t : TypeId} {arr : Array Value} {nv mv : Value} {l : List (Nat × Value)} (S : ShAt w p o t arr nv mv l) :
    Calls Tryz.prog 203 #[.pointer (some ⟨p, o, none⟩)] w fun e w' => e = .returned (.tuple #[]) ∧ ShStep w w' p o t arr nv mv [] := by
  obtain ⟨hbW, h0, h1, S, ht⟩ := S
  have h0s : o < arr.size := (Array.getElem?_eq_some_iff.1 h0).1
  have h1s : o + 1 < arr.size := (Array.getElem?_eq_some_iff.1 h1).1
  obtain ⟨mv0, hmv0⟩ : ∃ m, m = mv := ⟨_, rfl⟩
  rw [← hmv0]
  replace hmv0 := hide hmv0
  have c1 : w.cell? ⟨p, o + 1, none⟩ = some mv := (blk_cell hbW).trans h1
  have e0 := S.nums.cases
  have hm : (mv = .map none ∧ ∀ ty, (Builtin.clear_ #[168] ty #[.map none]).run Tryz.prog w = .ok (.tuple #[]) w) ∨
      ∃ b o, mv = .map (some b) ∧ b ≠ p ∧ nv.ownBlock ≠ some b ∧ (∀ ty, (Builtin.clear_ #[168] ty #[.map (some b)]).run Tryz.prog w = .ok (.tuple #[]) { w with heap := w.heap.setIfInBounds b o }) ∧ MapAt { w with heap := w.heap.setIfInBounds b o } b (fun _ => none) := by
    rcases S.map with ⟨rfl, hm⟩ | ⟨mb, rfl, hm⟩
    · exact .inl ⟨rfl, fun ty => run_clear_n Tryz.underlying168⟩
    · obtain ⟨ob, hU, hM⟩ := run_clear_m (P := Tryz.prog) (w := w) (t := 168) Tryz.underlying168 hm
      exact .inr ⟨mb, ob, rfl, fun e => hm.not_cells (by rw [e]; exact hbW), S.nums.notMap hm, fun ty => hU ty w rfl, hM⟩
  rcases hm with ⟨rfl, hrun⟩ | ⟨mb, ob, rfl, hmp, hmn, hrun, hM⟩
  all_goals
    go_enter Tryz.func203, Tryz.ntmps203
    go_upto_region 1 with fail
    refine wp_world (fun x => x.heap[p]? = some (.cells arr t (0, 0)) ∧ NumsAt x nv (l.map (·.1)) ∧ MapV x mv0 (look []) ∧ Far (fun k => k = p ∨ ShU nv mv0 k) w x) ?_ ?_
  · exact ⟨hbW, S.nums, by rw [unhide hmv0]; exact .inl ⟨rfl, look_nil⟩, Far.refl _ _⟩
  rotate_left
  · have hf := far_block (w := w) mb ob
    refine ⟨hf.blk hbW (fun e => hmp e.symm), S.nums.keep (fun g hg => hf.rest g (World.ownsRow.lt S.nums g hg).2 (fun e => hmn (by rw [hg, e]))), by rw [unhide hmv0]; exact .inr ⟨mb, rfl, by rw [look_nil]; exact hM⟩, hf.mono (fun k _ e => .inr (.inr (by rw [unhide hmv0, e]; rfl)))⟩
  all_goals
    clear S
    rintro x ⟨hb, N, M, hf⟩
    have c0 : x.cell? ⟨p, o, none⟩ = some nv := (blk_cell hb).trans h0
    have f0 : x.frozen? ⟨p, o, none⟩ = false := by simp [World.frozen?, hb]
    rcases e0 with ⟨rfl, _⟩ | ⟨g, cap, cur, rfl, hh, hn, hc, hz, htk⟩
    · go_wp2
      refine bodyPost_end (results_none rfl _ _ _) rfl ⟨rfl, ?_⟩
      refine ⟨⟨_, mv0, ⟨?_, ?_, ?_, ⟨numsAt_nil _, M.keep (fun b hb' => blk_set_ne (fun e => ?_)), by simp, by simp⟩, ht⟩, .inr (.inl rfl), .inl rfl⟩, hf.trans (far_set x p o _) (fun _ _ h => .inl h)⟩
      · have := blk_set (j := o) (v := .slice none 0 0) hb
        rw [set_same (i := o + 1)]
        · exact this
        · rw [Array.getElem?_setIfInBounds_ne (by omega), h1, unhide hmv0]
      · rw [Array.getElem?_setIfInBounds_ne (by omega)]; simp [h0s]
      · simp [h1s]
      · rcases M with ⟨h, _⟩ | ⟨b', h, hM'⟩
        · rw [h] at hb'; cases hb'
        · rw [h] at hb'; cases hb'; exact hM'.not_cells (by rw [e]; exact hb)
    · go_wp2
      refine bodyPost_end (results_none rfl _ _ _) rfl ⟨rfl, ?_⟩
      rcases N.cases with ⟨h, _⟩ | ⟨g', cap', cur', h, hh', hn', hc', hz', htk'⟩
      · cases h
      · injection h with h _ h3
        injection h with h
        injection h with h
        subst h h3
        have hgp : g ≠ p := fun e => by
          subst e
          rw [hh'] at hb
          injection hb with hb
          injection hb with _ hb _
          exact ht hb.symm
        refine ⟨⟨_, mv0, ⟨?_, ?_, ?_, ⟨numsAt_mk (ns := []) ((blk_set_ne hgp).trans hh') (Nat.zero_le _) hc hz' rfl, M.keep (fun b hb' => blk_set_ne (fun e => ?_)), by simp, by simp⟩, ht⟩, .inr (.inl rfl), .inl rfl⟩, hf.trans (far_set x p o _) (fun _ _ h => .inl h)⟩
        · rw [set_same (i := o + 1)]
          · exact blk_set (j := o) hb
          · rw [Array.getElem?_setIfInBounds_ne (by omega), h1, unhide hmv0]
        · rw [Array.getElem?_setIfInBounds_ne (by omega)]; simp [h0s]
        · simp [h1s]
        · rcases M with ⟨h, _⟩ | ⟨b', h, hM'⟩
          · rw [h] at hb'; cases hb'
          · rw [h] at hb'; cases hb'; exact hM'.not_cells (by rw [e]; exact hb)



end Go.Proofs.YtamafdcnbcoegaaGreat
namespace Go.Proofs.YtamafdcnbcoegaaGreat
open Go.RowKit

/-- The first j bits of an Ack: which of the numbers from q + 2 on are on the shelf. -/
def ackTo (l : List (Nat × Value)) (q : Nat) : Nat → Nat
  | 0 => 0
  | j + 1 => ackTo l q j + if (look l ((q + 2 + j : Nat) : Int)).isSome = true then 2 ^ j else 0
theorem ackTo_lt (l : List (Nat × Value)) (q : Nat) : ∀ j, ackTo l q j < 2 ^ j
  | 0 => by simp [ackTo]
  | j + 1 => by
    have := ackTo_lt l q j
    unfold ackTo
    split
    · rw [Nat.pow_succ]; omega
    · rw [Nat.pow_succ]; omega
theorem or0 : bits BinOp.or IntKind.u8 0 1 = 1 := by decide +kernel
theorem or1 : ∀ x : Fin 2, bits BinOp.or IntKind.u8 ((x.val : Nat) : Int) 2 = ((x.val + 2 : Nat) : Int) := by decide +kernel
theorem or2 : ∀ x : Fin 4, bits BinOp.or IntKind.u8 ((x.val : Nat) : Int) 4 = ((x.val + 4 : Nat) : Int) := by decide +kernel

set_option maxRecDepth 100000 in
set_option maxHeartbeats 2000000 in
theorem ackBody_any {w : World} {p o : Nat} {t : TypeId} {arr : Array Value} {nv mv : Value} {l : List (Nat × Value)} (S : ShAt w p o t arr nv mv l) (A : AreS l) (q : Nat) (hq : q ≤ 1000000000) :
    Calls Tryz.prog 164 #[.int .i64 q, .func (.func 165) #[.pointer (some ⟨p, o, none⟩)] #[]] w fun e w' => e = .returned (.string ⟨#[UInt8.ofNat (ackTo l q 3)]⟩) ∧ Below w.heap.size w w' := by
  have HS := hide S
  have hlt := fun k (hk : ShU nv mv k) => S.sh.lt k hk
  have hp := lt_of_block S.blk
  go_enter Tryz.func164, Tryz.ntmps164
  go_wp2
  go_loopw [5, 6, 7] (fun v5 _ i wr => ∃ j : Nat, j ≤ 3 ∧ i = .int .i64 j ∧ v5 = .int .u8 (ackTo l q j : Nat) ∧ Below w.heap.size w wr) (fun _ _ i _ => 3 - (intOf i).toNat)
  case atStart => exact ⟨0, by omega, rfl, rfl, Below.refl _ _⟩
  case round =>
    obtain ⟨j, hj, rfl, rfl, hb⟩ := hrel
    have S1 : ShAt wr p o t arr nv mv l := by
      have S0 := unhide HS
      exact ⟨(hb.block p hp).trans S0.blk, S0.c0, S0.c1, S0.sh.keep (fun g hg => hb.block g (hlt g (.inl hg))) (fun g hg => hb.block g (hlt g (.inr hg))), S0.ty⟩
    have hHas := fun k : Int => hide (hasS_any S1.blk S1.c1 S1.sh A k)
    have HB := hide hb
    have hz := hb.size
    clear hb S1
    have hq2 := fun y => firstHeld_any q (by omega) y
    have hlj := ackTo_lt l q j
    rcases (show j = 0 ∨ j = 1 ∨ j = 2 ∨ j = 3 by omega) with rfl | rfl | rfl | rfl
    · have hw : IntKind.i64.wrap ((q : Int) + 2 + 0) = (q : Int) + 2 + 0 := by rw [IntKind.wrap_i64]; omega
      have hH := hHas ((q : Int) + 2)
      have HX : Hid (ackTo l q (0 + 1) = ackTo l q 0 + if (look l ((q : Int) + 2)).isSome = true then 2 ^ 0 else 0) := rfl
      generalize hx : ackTo l q 0 = x at *
      have ho := or0
      obtain rfl : x = 0 := by omega
      cases hc : (look l ((q : Int) + 2)).isSome
      · rw [hc] at hH HX
        go_upto_region 6 with (first | (go_at_call 202; refine (hq2 _).mono ?_; rintro e y ⟨rfl, rfl⟩) | (go_at_call 165; refine (unhide hH).mono ?_; rintro e z ⟨rfl, hbz⟩; have HB2 := hide ((unhide HB).trans (hbz.mono hz)); clear hbz))
        exact ⟨⟨0 + 1, by omega, by go_num, by rw [unhide HX]; simp, unhide HB2⟩, by simp [intOf]⟩
      · rw [hc] at hH HX
        go_upto_region 6 with (first | (go_at_call 202; refine (hq2 _).mono ?_; rintro e y ⟨rfl, rfl⟩) | (go_at_call 165; refine (unhide hH).mono ?_; rintro e z ⟨rfl, hbz⟩; have HB2 := hide ((unhide HB).trans (hbz.mono hz)); clear hbz))
        go_wp2
        exact ⟨⟨0 + 1, by omega, by go_num, by rw [unhide HX]; simp, unhide HB2⟩, by simp [intOf]⟩
    · have hw : IntKind.i64.wrap ((q : Int) + 2 + 1) = (q : Int) + 2 + 1 := by rw [IntKind.wrap_i64]; omega
      have hH := hHas ((q : Int) + 2 + 1)
      have HX : Hid (ackTo l q (1 + 1) = ackTo l q 1 + if (look l ((q : Int) + 2 + 1)).isSome = true then 2 ^ 1 else 0) := rfl
      generalize hx : ackTo l q 1 = x at *
      have ho := or1 ⟨x, hlj⟩
      replace hx := hide hx
      cases hc : (look l ((q : Int) + 2 + 1)).isSome
      · rw [hc] at hH HX
        go_upto_region 6 with (first | (go_at_call 202; refine (hq2 _).mono ?_; rintro e y ⟨rfl, rfl⟩) | (go_at_call 165; refine (unhide hH).mono ?_; rintro e z ⟨rfl, hbz⟩; have HB2 := hide ((unhide HB).trans (hbz.mono hz)); clear hbz))
        exact ⟨⟨1 + 1, by omega, by go_num, by rw [unhide HX]; simp, unhide HB2⟩, by simp [intOf]⟩
      · rw [hc] at hH HX
        go_upto_region 6 with (first | (go_at_call 202; refine (hq2 _).mono ?_; rintro e y ⟨rfl, rfl⟩) | (go_at_call 165; refine (unhide hH).mono ?_; rintro e z ⟨rfl, hbz⟩; have HB2 := hide ((unhide HB).trans (hbz.mono hz)); clear hbz))
        go_wp2
        exact ⟨⟨1 + 1, by omega, by go_num, by rw [unhide HX]; simp, unhide HB2⟩, by simp [intOf]⟩
    · have hw : IntKind.i64.wrap ((q : Int) + 2 + 2) = (q : Int) + 2 + 2 := by rw [IntKind.wrap_i64]; omega
      have hH := hHas ((q : Int) + 2 + 2)
      have HX : Hid (ackTo l q (2 + 1) = ackTo l q 2 + if (look l ((q : Int) + 2 + 2)).isSome = true then 2 ^ 2 else 0) := rfl
      generalize hx : ackTo l q 2 = x at *
      have ho := or2 ⟨x, hlj⟩
      replace hx := hide hx
      cases hc : (look l ((q : Int) + 2 + 2)).isSome
      · rw [hc] at hH HX
        go_upto_region 6 with (first | (go_at_call 202; refine (hq2 _).mono ?_; rintro e y ⟨rfl, rfl⟩) | (go_at_call 165; refine (unhide hH).mono ?_; rintro e z ⟨rfl, hbz⟩; have HB2 := hide ((unhide HB).trans (hbz.mono hz)); clear hbz))
        exact ⟨⟨2 + 1, by omega, by go_num, by rw [unhide HX]; simp, unhide HB2⟩, by simp [intOf]⟩
      · rw [hc] at hH HX
        go_upto_region 6 with (first | (go_at_call 202; refine (hq2 _).mono ?_; rintro e y ⟨rfl, rfl⟩) | (go_at_call 165; refine (unhide hH).mono ?_; rintro e z ⟨rfl, hbz⟩; have HB2 := hide ((unhide HB).trans (hbz.mono hz)); clear hbz))
        go_wp2
        exact ⟨⟨2 + 1, by omega, by go_num, by rw [unhide HX]; simp, unhide HB2⟩, by simp [intOf]⟩
    · have hx8 : ackTo l q 3 < 8 := hlj
      have hconv : ∀ z : World, (convert 44 9 (.slice (some ⟨z.heap.size, 0, none⟩) 1 1)).run Tryz.prog (z.alloc (.cells #[.int .u8 (ackTo l q 3 : Nat)] 5)) = .ok (.string ⟨#[UInt8.ofNat (ackTo l q 3)]⟩) (z.alloc (.cells #[.int .u8 (ackTo l q 3 : Nat)] 5)) := fun z =>
        conv_str (l := [UInt8.ofNat (ackTo l q 3)]) (b := z.heap.size) (off := 0) (n := 1) (cap := 1) rfl (fun i hi => by
          obtain rfl : i = 0 := by omega
          rw [blk_cell (heap_alloc_new z _)]
          simp
          omega)
      generalize hx3 : ackTo l q 3 = x at *
      replace hx3 := hide hx3
      go_wp2
      go_ret
      exact ⟨(congrArg (fun x => Ending.returned (Value.string ⟨#[UInt8.ofNat x]⟩)) (unhide hx3)).symm, ((unhide HB).alloc hz _)⟩
end Go.Proofs.YtamafdcnbcoegaaGreat
