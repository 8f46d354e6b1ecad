/-
  Part 5 of a proof: D10, D11, D12, D13, D14, D15, D16, D17, Y7, Y8, Y9, Y10, Y11, T1, X12, X13, X14, X16, G4, G5, MonoCut, T2, F1.
-/
import Derived.Laws.Cover3
import Derived.Deep.RegionLaw
import Derived.Test.YtamafdcnbcoegaaGreatFe4
namespace Go.Proofs.YtamafdcnbcoegaaGreat
open Go.RowKit
set_option maxRecDepth 100000 in
set_option maxHeartbeats 2000000 in
theorem storeWrite_gen (w : World) (s dp k : Nat) (S : List UInt8) (hS : S.length = 64) (e : Int) (R R2 : World → Prop) (E : Nat → Prop)
  (hs : ∀ y, Below w.heap.size w y ∨ R y → y.cell? ⟨s, 0, none⟩ = some (ptrTo dp))
  (hW : ∀ y, Below w.heap.size w y → Calls Tryz.prog 182 #[ptrTo dp, .int .i64 k, .agg (bv S).toArray] y fun r w' => r = .returned (.int .i64 e) ∧ R w' ∧ Far E y w')
  (hRb : ∀ y z, R y → Below y.heap.size y z → R z)
  (hY : ∀ y, R y → Calls Tryz.prog 183 #[ptrTo dp] y fun r w' => r = .returned (.tuple #[]) ∧ R2 w') :
  Calls Tryz.prog 130 #[ptrTo s, .int .i64 k, .agg (bv S).toArray] w fun r w' => r = .returned (.int .i64 e) ∧ R2 w' := by
 unfold ptrTo at *
 have HS := hide hs
 have HW := hide hW
 have HY := hide hY
 clear hs hW hY
 go_enter Tryz.func130, Tryz.ntmps130
 go_upto_region 1 with fail
 refine wp_world (fun x => x.heap[w.heap.size]? = some (.cells (bv S).toArray 207 (0, 0)) ∧ Below w.heap.size w x) ⟨heap_alloc_new w _, (Below.refl _ _).alloc (Nat.le_refl _) _⟩ ?_
 rintro x ⟨h0, hB⟩
 have hz := lt_of_block h0
 have H0 := hide h0
 have HB := hide hB
 clear h0 hB
 refine wp_region_foot (by kernel_rfl)
  [fun v _ => v = .pointer (some ⟨s, 0, none⟩), fun v _ => v = .pointer (some ⟨s, 0, none⟩), fun v _ => v = .pointer (some ⟨s, 0, none⟩), fun v _ => v = .pointer (some ⟨dp, 0, none⟩), fun v _ => v = .int .i64 k, fun v _ => v = .agg (bv S).toArray, fun v y => v = .int .i64 e ∧ R y, fun v _ => v = .int .i64 e]
  [[(0, none)], [(8, some 0)], [(9, some 1)], [(10, some 2)], [(1, none)], [(5, none)], [(11, some 3), (12, some 4), (13, some 5)], [(14, some 6)]] [some 8, some 9, some 10, some 11, some 12, some 13, some 14, some 7] [false, false, false, false, false, false, false, true, true, true, true, true, true, true, true, false, false, false, false, false, false]
  [(6, E)]
  (by kernel_rfl) (by kernel_rfl) (by kernel_rfl) (by kernel_rfl) (by kernel_rfl) ?_ ?_ ?_ ?_
 ·repeat' (first | exact stable_eq _ | exact (fun _ y z h hb => ⟨h.1, hRb y z h.2 hb⟩) | exact trivial | apply And.intro)
 ·repeat' (first | exact trivial | exact .inl rfl | exact .inr (.inr (stableF_eq _ _)) | apply And.intro)
 ·refine ⟨?_, ?_, ?_, ?_, ?_, ?_, ?_, ?_, trivial⟩
  all_goals
   intro a z hb hf
   simp only [PlanFacts, List.getD_cons_zero, List.getD_cons_succ, Array.getD_eq_getD_getElem?] at hf
   try simp at hf
  ·go_simp
   exact ⟨_, rfl, Far.refl _ _, rfl⟩
  ·go_simp
   exact ⟨_, rfl, Far.refl _ _, rfl⟩
  ·go_simp
   exact ⟨_, rfl, Far.refl _ _, rfl⟩
  ·have hbz : Below w.heap.size w z := (unhide HB).trans ((hb.below (B := x.heap.size) (Nat.le_refl _) (by
    rintro j hj ⟨q, hq, g1, g2, g3⟩
    simp at hq
    subst hq
    exact absurd (show depB _ 6 3 = false from g2) (by decide +kernel))).mono (unhide HB).size)
   have c0 := (unhide HS) z (.inl hbz)
   clear hbz
   go_simp
   exact ⟨_, rfl, Far.refl _ _, rfl⟩
  ·go_simp
   exact ⟨_, rfl, Far.refl _ _, rfl⟩
  ·have d1 := hb.blk (unhide H0) (by
    rintro ⟨q, hq, g1, g2, g3⟩
    simp at hq
    subst hq
    exact absurd (show depB _ 6 5 = false from g2) (by decide +kernel))
   rw [if_pos (by rfl)]
   refine oper_load_sec (.tmp 5) rfl w.heap.size (by simp [Act.eval, hf]) 207 S hS d1 ?_
   exact ⟨_, rfl, Far.refl _ _, rfl⟩
  ·have hbz : Below w.heap.size w z := (unhide HB).trans ((hb.below (B := x.heap.size) (Nat.le_refl _) (by
    rintro j hj ⟨q, hq, g1, g2, g3⟩
    simp at hq
    subst hq
    exact g1 rfl)).mono (unhide HB).size)
   have HC := hide ((unhide HW) z hbz)
   clear hbz
   go_simp
   refine (unhide HC).mono ?_
   rintro r w1 ⟨rfl, hR, hF⟩
   exact ⟨_, rfl, footOf_of (.head _) hF, rfl, hR⟩
  ·obtain ⟨hf, _⟩ := hf
   go_simp
   exact ⟨_, rfl, Far.refl _ _, rfl⟩
 ·intro f z hF hwd
  have h6 := hwd.2.2.2.2.2.2.1
  have h7 := hwd.2.2.2.2.2.2.2.1
  have HR := hide h6.2
  have c0 := (unhide HS) z (.inr h6.2)
  have HC := hide ((unhide HY) z h6.2)
  clear hwd hF h6
  simp only [mergeT, h7]
  generalize f 8 = x8
  generalize f 9 = x9
  generalize f 10 = x10
  generalize f 11 = x11
  generalize f 12 = x12
  generalize f 13 = x13
  generalize f 14 = x14
  go_simp
  go_wp2_with (go_at_call 183; refine (unhide HC).mono ?_; rintro r u ⟨rfl, hR2⟩)
  go_ret
  exact ⟨rfl, hR2⟩
theorem dk_ne {w : World} {dp s : Nat} {d : Mod.Dk} {lv uv : Value} (D : DkAt w dp d lv uv) {c : Array Value} {t : TypeId} {fr : Nat × Nat} (hs : w.heap[s]? = some (.cells c t fr)) (h1 : 252 ≠ t) (h2 : 5 ≠ t) (h3 : 261 ≠ t) : ¬ DkU dp lv uv s := by
 rintro (h | h | h)
 ·subst h
  have := D.blk
  rw [hs] at this
  injection this with this
  injection this with _ this _
  exact h1 this.symm
 ·exact (RowO.of_own D.row).ne hs h2 h
 ·exact D.un.ne hs h3 h
set_option maxHeartbeats 1000000 in
theorem storeWrite_any (w : World) (s dp : Nat) (lv uv a b c : Value) (d : Mod.Dk) (k : Nat) (S : List UInt8) (hS : S.length = 64) (hk : 64 * k + 64 ≤ d.bytes.length)
  (hs : w.heap[s]? = some (.cells #[ptrTo dp, a, b, c] 203 (0, 0))) (D : DkAt w dp d lv uv) :
  Calls Tryz.prog 130 #[ptrTo s, .int .i64 k, .agg (bv S).toArray] w fun r w' => r = .returned (.int .i64 (d.put k S).1) ∧
   ∃ uv', DkAt w' dp (d.put k S).2 lv uv' ∧ Loc w uv uv' ∧ Far (DkU dp lv uv) w w' := by
 have hsd := dk_ne D hs (by decide) (by decide) (by decide)
 have hlt := D.lt
 have c0 : ∀ y, Far (DkU dp lv uv) w y → y.cell? ⟨s, 0, none⟩ = some (ptrTo dp) := fun y hF => blk_cell (i := 0) (hF.blk hs hsd)
 by_cases hd : d.dead = true
 ·rw [Mod.Dk.put, if_pos hd]
  have hb := D.blk
  rw [hd] at hb
  refine (storeWrite_gen w s dp k S hS 3 (fun y => Below w.heap.size w y) (fun y => Below w.heap.size w y) (fun _ => False) ?_ ?_ ?_ ?_).mono ?_
  ·rintro y (h | h)
   ·exact c0 y (far_below h)
   ·exact c0 y (far_below h)
  ·intro y hy
   refine (diskWrite_dead y dp lv uv d.armed k S ((hy.block _ (lt_of_block hb)).trans hb)).mono ?_
   rintro r z ⟨rfl, hz⟩
   exact ⟨rfl, hy.trans (hz.mono hy.size), far_below hz⟩
  ·exact fun y z h hb => h.trans (hb.mono h.size)
  ·intro y hy
   refine (sync_dead y dp lv uv d.armed ((hy.block _ (lt_of_block hb)).trans hb)).mono ?_
   rintro r z ⟨rfl, rfl⟩
   exact ⟨rfl, hy⟩
  ·rintro r y ⟨rfl, hy⟩
   exact ⟨rfl, uv, D.far (far_below (E := fun _ => False) hy) (fun _ _ h => h), .inr (.inl rfl), far_below hy⟩
 ·have hd : d.dead = false := by cases h : d.dead with | true => exact absurd h hd | false => rfl
  have hb := D.blk
  rw [hd] at hb
  by_cases ha : d.armed = 1
  ·rw [Mod.Dk.put, if_neg (by simp [hd]), if_pos ha]
   rw [ha] at hb
   refine (storeWrite_gen w s dp k S hS 4 (fun y => y.heap[dp]? = some (.cells #[lv, uv, .int .i64 1, .bool true] 252 (0, 0)) ∧ Far (fun j => j = dp) w y) (fun y => y.heap[dp]? = some (.cells #[lv, uv, .int .i64 1, .bool true] 252 (0, 0)) ∧ Far (fun j => j = dp) w y) (fun j => j = dp) ?_ ?_ ?_ ?_).mono ?_
   ·rintro y (h | h)
    ·exact c0 y (far_below h)
    ·exact c0 y (h.2.mono (fun _ _ e => .inl e))
   ·intro y hy
    refine (diskWrite_fail y dp lv uv k S ((hy.block _ (lt_of_block hb)).trans hb)).mono ?_
    rintro r z ⟨rfl, hz, hF⟩
    exact ⟨rfl, ⟨hz, (far_below (E := fun j => j = dp) hy).trans hF (fun _ _ h => h)⟩, hF⟩
   ·exact fun y z h hb => ⟨(hb.block _ (lt_of_block h.1)).trans h.1, h.2.trans (far_below (E := fun _ => False) hb) (fun _ _ h => h.elim)⟩
   ·intro y hy
    refine (sync_dead y dp lv uv 1 hy.1).mono ?_
    rintro r z ⟨rfl, rfl⟩
    exact ⟨rfl, hy⟩
   ·rintro r y ⟨rfl, hy, hF⟩
    refine ⟨rfl, uv, ⟨by rw [ha]; exact hy, ownsRow_keepB D.row (fun g hg => hF.rest g (World.ownsRow.lt D.row g hg).2 (fun e => (RowO.of_own D.row).ne hb (by decide) (by rw [hg, e]))), D.un.far hF (fun g hg e => D.un.ne hb (by decide) (by rw [hg, e])), D.len, D.arm⟩, .inr (.inl rfl), hF.mono (fun _ _ e => .inl e)⟩
  ·rw [Mod.Dk.put, if_neg (by simp [hd]), if_neg ha]
   have huv := D.un.ne hb (by decide)
   have hlr := (RowO.of_own D.row).ne hb (by decide)
   refine (storeWrite_gen w s dp k S hS 0 (fun y => PutW w dp lv uv (d.armed - 1 : Nat) (.int .i64 k :: bv S) y ∧ Far (fun j => j = dp ∨ uv.ownBlock = some j) w y)
    (fun y => ∃ uv', DkAt y dp { bytes := Mod.setSec d.bytes k S, armed := d.armed - 1, dead := false } lv uv' ∧ Loc w uv uv' ∧ Far (DkU dp lv uv) w y) (fun j => j = dp ∨ uv.ownBlock = some j) ?_ ?_ ?_ ?_).mono ?_
   ·rintro y (h | h)
    ·exact c0 y (far_below h)
    ·exact c0 y (h.2.mono (fun _ _ e => e.elim .inl (fun e => .inr (.inr e))))
   ·intro y hy
    refine (diskWrite_ok y dp lv uv d.armed k S hS ha D.arm ((hy.block _ (lt_of_block hb)).trans hb) (D.un.keep (fun g hg => hy.block g (D.un.lt g hg)))).mono ?_
    rintro r z ⟨rfl, ⟨v, g1, g2, g3, g4⟩, hF⟩
    exact ⟨rfl, ⟨⟨v, g1, g2, loc_less g3 hy.size, Nat.le_trans hy.size g4⟩, (far_below (E := fun j => j = dp ∨ uv.ownBlock = some j) hy).trans hF (fun _ _ h => h)⟩, hF⟩
   ·exact fun y z h hb => ⟨stable_putW w dp lv uv _ _ undef y z h.1 hb, h.2.trans (far_below (E := fun _ => False) hb) (fun _ _ h => h.elim)⟩
   ·rintro y ⟨⟨v, g1, g2, g3, g4⟩, hF⟩
    have hrow := ownsRow_keepB D.row (w' := y) (fun g hg => hF.rest g (World.ownsRow.lt D.row g hg).2 (by
     rintro (e | e)
     ·exact hlr (by rw [hg, e])
     ·exact (RowO.of_own D.row).ty D.un (by decide) hg e))
    refine (sync_one y dp lv v _ k S d.bytes hS hk D.len.2 g1 g2 hrow).mono ?_
    rintro r z ⟨rfl, uv', k1, k2, k3, k4, k5⟩
    refine ⟨rfl, uv', ⟨k1, k4, k3, by rw [Mod.length_setSec hS hk]; exact D.len, by have := D.arm; show d.armed - 1 ≤ _; omega⟩, ?_, ?_⟩
    ·rcases g3 with g3 | g3 | ⟨g, g3, g5⟩
     ·exact .inl (by rw [k2]; exact g3)
     ·exact .inr (.inl (by rw [k2]; exact g3))
     ·exact .inr (.inr ⟨g, by rw [k2]; exact g3, g5⟩)
    ·refine (hF.mono (fun _ _ e => e.elim .inl (fun e => .inr (.inr e)))).trans k5 (fun j _ e => e.elim .inl (fun e => .inr (.inl e)))
   ·rintro r y ⟨rfl, h⟩
    exact ⟨rfl, h⟩
end Go.Proofs.YtamafdcnbcoegaaGreat
namespace Go.Proofs.YtamafdcnbcoegaaGreat
open Go.RowKit
structure StAt (w : World) (s dp : Nat) (st : Mod.Stv) (lv uv : Value) : Prop where
 blk : w.heap[s]? = some (.cells #[ptrTo dp, .int .u32 st.opening, .int .u64 st.count, .int .i64 st.head] 203 (0, 0))
 dk : DkAt w dp st.dk lv uv
 op : st.opening < 4294967296
 ct : st.count < 18446744073709551616
 hd : st.head ≤ 1
def StU (s dp : Nat) (lv uv : Value) (k : Nat) : Prop := k = s ∨ DkU dp lv uv k
theorem StAt.sep {w : World} {s dp : Nat} {st : Mod.Stv} {lv uv : Value} (h : StAt w s dp st lv uv) : ¬ DkU dp lv uv s := dk_ne h.dk h.blk (by decide) (by decide) (by decide)
theorem StAt.far {E : Nat → Prop} {w x : World} {s dp : Nat} {st : Mod.Stv} {lv uv : Value} (h : StAt w s dp st lv uv) (hf : Far E w x) (hE : ∀ k, StU s dp lv uv k → ¬ E k) : StAt x s dp st lv uv :=
 ⟨hf.blk h.blk (hE s (.inl rfl)), h.dk.far hf (fun k hk => hE k (.inr hk)), h.op, h.ct, h.hd⟩
theorem StAt.lt {w : World} {s dp : Nat} {st : Mod.Stv} {lv uv : Value} (h : StAt w s dp st lv uv) : ∀ k, StU s dp lv uv k → k < w.heap.size := by
 rintro k (rfl | hk)
 ·exact lt_of_block h.blk
 ·exact h.dk.lt k hk
set_option maxRecDepth 100000 in
set_option maxHeartbeats 2000000 in
theorem writeNumbers_any (w : World) (s dp : Nat) (st : Mod.Stv) (lv uv : Value) (H : StAt w s dp st lv uv) (a b d : Nat) (ha : a < 4294967296) (hb : b < 4294967296) (hd : d < 4294967296) :
  Calls Tryz.prog 149 #[ptrTo s, .agg #[.int .i64 a, .int .i64 b, .int .i64 d]] w fun r w' => r = .returned (.int .i64 (st.putNumbers a b d).1) ∧
   ∃ uv', StAt w' s dp (st.putNumbers a b d).2 lv uv' ∧ Loc w uv uv' ∧ Far (StU s dp lv uv) w w' := by
 have hsl := lt_of_block H.blk
 have hnext : st.next < 18446744073709551616 := Nat.mod_lt _ (by omega)
 have hlen := H.dk.len
 have hk : 64 * (1 - st.head) + 64 ≤ st.dk.bytes.length := by omega
 have hS3 := Mod.length_sealB st.opening st.next (inside := Mod.headIn a b d) (by rw [Mod.length_headIn]; omega)
 have hh := H.hd
 have HH := hide H
 unfold ptrTo at *
 go_enter Tryz.func149, Tryz.ntmps149
 have hb0 := fun ob => (heap_alloc_old w ob hsl).trans H.blk
 have c1 : ∀ ob, (w.alloc ob).cell? ⟨s, 3, none⟩ = some (.int .i64 st.head) := fun ob => blk_cell (i := 3) (hb0 ob)
 have c2 : ∀ ob, (w.alloc ob).cell? ⟨s, 2, none⟩ = some (.int .u64 st.count) := fun ob => blk_cell (i := 2) (hb0 ob)
 have d1 : w.cell? ⟨s, 3, none⟩ = some (.int .i64 st.head) := blk_cell (i := 3) H.blk
 have d2 : w.cell? ⟨s, 2, none⟩ = some (.int .u64 st.count) := blk_cell (i := 2) H.blk
 have f1 : ∀ ob, (w.alloc ob).frozen? ⟨s, 3, none⟩ = false := fun ob => blk_free (i := 3) (hb0 ob)
 have f2 : ∀ ob, (w.alloc ob).frozen? ⟨s, 2, none⟩ = false := fun ob => blk_free (i := 2) (hb0 ob)
 have g1 : w.frozen? ⟨s, 3, none⟩ = false := blk_free (i := 3) H.blk
 have g2 : w.frozen? ⟨s, 2, none⟩ = false := blk_free (i := 2) H.blk
 clear H hb0
 have hw : IntKind.i64.wrap (1 - (st.head : Int)) = 1 - (st.head : Int) := by rw [IntKind.wrap_i64]; omega
 go_upto_region 3 with fail
 have hn : IntKind.u64.wrap ((st.count : Int) + 1) = ((st.next : Nat) : Int) := by rw [IntKind.wrap_u64, Mod.Stv.next]; omega
 have hv : 1 - (st.head : Int) = ((1 - st.head : Nat) : Int) := by omega
 refine wp_world (fun x => x.heap[s]? = some (.cells #[.pointer (some ⟨dp, 0, none⟩), .int .u32 st.opening, .int .u64 st.next, .int .i64 (1 - st.head : Nat)] 203 (0, 0)) ∧ x.heap[w.heap.size]? = some (.cells #[.int .i64 a, .int .i64 b, .int .i64 d] 136 (0, 0)) ∧ DkAt x dp st.dk lv uv ∧ Far (fun k => k = s) w x ∧ w.heap.size < x.heap.size) ?_ ?_
 ·rw [hn, hv]
  have hF : Far (fun k => k = s) w (((w.setCell ⟨s, 3, none⟩ (.int .i64 (1 - st.head : Nat))).setCell ⟨s, 2, none⟩ (.int .u64 st.next)).alloc (.cells #[.int .i64 a, .int .i64 b, .int .i64 d] 136)) :=
   ((far_set w s 3 _).trans (far_set _ s 2 _) (fun _ _ h => h)).trans (far_below ((Below.refl _ _).alloc (Nat.le_refl _) _)) (fun _ _ h => h)
  refine ⟨?_, ?_, (unhide HH).dk.far hF (fun k hk e => (unhide HH).sep (by rw [← e]; exact hk)), hF, by simp⟩
  ·rw [hao _ _ (by simp; exact hsl)]
   have h1 := blk_set (j := 3) (v := .int .i64 (1 - st.head : Nat)) (unhide HH).blk
   have h2 := blk_set (j := 2) (v := .int .u64 st.next) h1
   simpa [ptrTo] using h2
  ·have := heap_alloc_new ((w.setCell ⟨s, 3, none⟩ (.int .i64 (1 - st.head : Nat))).setCell ⟨s, 2, none⟩ (.int .u64 st.next)) (.cells #[.int .i64 a, .int .i64 b, .int .i64 d] 136)
   simpa using this
 rintro x ⟨h0, h1, hD, hF, hz⟩
 have hslx := lt_of_block h0
 have hsep : ¬ DkU dp lv uv s := dk_ne hD h0 (by decide) (by decide) (by decide)
 have hsepn : ¬ DkU dp lv uv w.heap.size := dk_ne hD h1 (by decide) (by decide) (by decide)
 have hDlt := hD.lt
 obtain ⟨SB, hSB⟩ : ∃ SB, SB = Mod.sealB st.opening st.next (Mod.headIn a b d) := ⟨_, rfl⟩
 rw [← hSB] at hS3
 have hW := fun y (hb : y.heap[s]? = _) (hD : DkAt y dp st.dk lv uv) => hide (storeWrite_any y s dp lv uv (.int .u32 st.opening) (.int .u64 st.next) (.int .i64 (1 - st.head : Nat)) st.dk (1 - st.head) SB hS3 hk hb hD)
 have hSl := fun y => hide (sealHead_any st.opening st.next a b d y (unhide HH).op hnext ha hb hd)
 rw [← hSB] at hSl
 obtain ⟨ee, hee⟩ : ∃ ee, ee = (st.dk.put (1 - st.head) SB).1 := ⟨_, rfl⟩
 obtain ⟨dd, hdd⟩ : ∃ dd, dd = (st.dk.put (1 - st.head) SB).2 := ⟨_, rfl⟩
 rw [← hee, ← hdd] at hW
 have HEQ := hide (And.intro hSB (And.intro hee hdd))
 have H0 := hide h0
 have H1 := hide h1
 have HD := hide hD
 have HF := hide hF
 clear hSB hee hdd h0 h1 hD hF c1 c2 d1 d2 f1 f2 g1 g2 hw hn hv
 unfold ptrTo at hW
 refine wp_region_foot (by kernel_rfl)
  [fun v _ => v = .pointer (some ⟨s, 0, none⟩), fun v _ => v = .pointer (some ⟨s, 0, none⟩), fun v _ => v = .pointer (some ⟨s, 0, none⟩), fun v _ => v = .pointer (some ⟨s, 3, none⟩), fun v _ => v = .int .i64 (1 - st.head : Nat),
   fun v _ => v = .pointer (some ⟨s, 0, none⟩), fun v _ => v = .pointer (some ⟨s, 0, none⟩), fun v _ => v = .pointer (some ⟨s, 1, none⟩), fun v _ => v = .agg #[.int .u32 st.opening, .int .u64 st.next], fun v _ => v = .agg #[.int .i64 a, .int .i64 b, .int .i64 d],
   fun v _ => v = .agg #[.int .u32 st.opening, .int .u64 st.next, .int .i64 a, .int .i64 b, .int .i64 d], fun v _ => v = .agg (bv SB).toArray, fun v y => v = .int .i64 ee ∧ ∃ uv', DkAt y dp dd lv uv' ∧ Loc x uv uv', fun v _ => v = .int .i64 ee]
  [[(0, none)], [(0, none)], [(23, some 1)], [(24, some 2)], [(25, some 3)], [(0, none)], [(27, some 5)], [(28, some 6)], [(29, some 7)], [(3, none)], [(30, some 8), (31, some 9)], [(32, some 10)], [(22, some 0), (26, some 4), (33, some 11)], [(34, some 12)]] [some 22, some 23, some 24, some 25, some 26, some 27, some 28, some 29, some 30, some 31, some 32, some 33, some 34, some 4] [false, false, false, false, true, false, false, false, false, false, false, false, false, false, false, false, false, false, false, false, false, false, true, true, true, true, true, true, true, true, true, true, true, true, true]
  [(12, DkU dp lv uv)]
  (by kernel_rfl) (by kernel_rfl) (by kernel_rfl) (by kernel_rfl) (by kernel_rfl) ?_ ?_ ?_ ?_
 ·repeat' (first | exact stable_eq _ | exact (fun _ y z h hb => ⟨h.1, h.2.imp fun uv' h => ⟨h.1.far (far_below (E := fun _ => False) hb) (fun _ _ h => h), h.2⟩⟩) | exact trivial | apply And.intro)
 ·repeat' (first | exact trivial | exact .inl rfl | exact .inr (.inr (stableF_eq _ _)) | apply And.intro)
 ·refine ⟨?_, ?_, ?_, ?_, ?_, ?_, ?_, ?_, ?_, ?_, ?_, ?_, ?_, ?_, trivial⟩
  all_goals
   intro a' z hb hf
   have z0 := hb.blk (unhide H0) (footBut_no (by intro q hq; simp at hq; subst hq; exact hsep))
   have z1 := hb.blk (unhide H1) (footBut_no (by intro q hq; simp at hq; subst hq; exact hsepn))
   have e1 : z.cell? ⟨s, 1, none⟩ = some (.int .u32 st.opening) := blk_cell (i := 1) z0
   have e2 : z.cell? ⟨s, 2, none⟩ = some (.int .u64 st.next) := blk_cell (i := 2) z0
   have e3 : z.cell? ⟨s, 3, none⟩ = some (.int .i64 (1 - st.head : Nat)) := blk_cell (i := 3) z0
   have n0 : z.cell? ⟨w.heap.size, 0, none⟩ = some (.int .i64 a) := blk_cell (i := 0) z1
   have n1 : z.cell? ⟨w.heap.size, 1, none⟩ = some (.int .i64 b) := blk_cell (i := 1) z1
   have n2 : z.cell? ⟨w.heap.size, 2, none⟩ = some (.int .i64 d) := blk_cell (i := 2) z1
   have Z0 := hide z0
   clear z0 z1
   simp only [PlanFacts, List.getD_cons_zero, List.getD_cons_succ, Array.getD_eq_getD_getElem?] at hf
   try simp at hf
  iterate 11
   ·clear hb
    go_simp
    exact ⟨_, rfl, Far.refl _ _, rfl⟩
  ·clear hb
   go_simp
   refine (unhide (hSl z)).mono ?_
   rintro r w1 ⟨rfl, hb1⟩
   exact ⟨_, rfl, far_below hb1, rfl⟩
  ·have hDz := (unhide HD).far hb (by
    rintro k hk ⟨q, hq, g1, g2, g3⟩
    simp at hq
    subst hq
    exact g1 rfl)
   have HC := hide (unhide (hW z (unhide Z0) hDz))
   have hzz := hb.size
   clear hb hDz
   go_simp
   refine (unhide HC).mono ?_
   rintro r w1 ⟨rfl, uv', k1, k2, k3⟩
   exact ⟨_, rfl, footOf_of (.head _) k3, rfl, uv', k1, loc_less k2 hzz⟩
  ·clear hb
   obtain ⟨hf, _⟩ := hf
   go_simp
   exact ⟨_, rfl, Far.refl _ _, rfl⟩
 ·intro f z hFz hwd
  obtain ⟨_, uv', k1, k2⟩ := hwd.2.2.2.2.2.2.2.2.2.2.2.2.1
  have h13 := hwd.2.2.2.2.2.2.2.2.2.2.2.2.2.1
  have hFz : Far (DkU dp lv uv) x z := hFz.mono (fun b _ h => by
   obtain ⟨q, hq, h⟩ := h
   simp at hq
   subst hq
   exact h)
  have z0 := hFz.blk (unhide H0) hsep
  have HFIN := hide (And.intro k1 (And.intro k2 (And.intro hFz z0)))
  clear hwd k1 k2 hFz z0
  simp only [mergeT, h13]
  generalize f 22 = x22
  generalize f 23 = x23
  generalize f 24 = x24
  generalize f 25 = x25
  generalize f 26 = x26
  generalize f 27 = x27
  generalize f 28 = x28
  generalize f 29 = x29
  generalize f 30 = x30
  generalize f 31 = x31
  generalize f 32 = x32
  generalize f 33 = x33
  generalize f 34 = x34
  go_simp
  go_wp2
  go_ret
  obtain ⟨k1, k2, k3, k4⟩ := unhide HFIN
  obtain ⟨q1, q2, q3⟩ := unhide HEQ
  have hp : st.putNumbers a b d = (ee, { st with head := 1 - st.head, count := st.next, dk := dd }) := by
   unfold Mod.Stv.putNumbers
   rw [← q1, ← q2, ← q3]
  rw [hp]
  exact ⟨rfl, uv', ⟨k4, k1, (unhide HH).op, hnext, by show 1 - st.head ≤ 1; omega⟩, loc_less k2 (by omega), ((unhide HF).mono (fun _ _ e => .inl e)).trans k3 (fun _ _ e => .inr e)⟩
end Go.Proofs.YtamafdcnbcoegaaGreat
namespace Go.Proofs.YtamafdcnbcoegaaGreat
open Go.RowKit
set_option maxRecDepth 100000 in
set_option maxHeartbeats 2000000 in
theorem writeRecord_any (w : World) (s dp : Nat) (st : Mod.Stv) (lv uv : Value) (H : StAt w s dp st lv uv) (place sm q : Nat) (body : ByteArray) (hpl : 64 * (2 + place) + 64 ≤ st.dk.bytes.length) (hsm : sm < 256) (hq : q < 4294967296) (hbo : body.size ≤ 20) :
  Calls Tryz.prog 89 #[ptrTo s, .int .i64 place, .agg #[.int .i64 sm, .int .i64 q, .string body]] w fun r w' => r = .returned (.int .i64 (st.putRecord place sm q body.data.toList).1) ∧
   ∃ uv', StAt w' s dp (st.putRecord place sm q body.data.toList).2 lv uv' ∧ Loc w uv uv' ∧ Far (StU s dp lv uv) w w' := by
 have hsl := lt_of_block H.blk
 have hnext : st.next < 18446744073709551616 := Nat.mod_lt _ (by omega)
 have hlen := H.dk.len
 have hS3 := Mod.length_sealB st.opening st.next (inside := Mod.recIn sm q body.data.toList) (by rw [Mod.length_recIn]; simp; omega)
 have hh := H.hd
 have HH := hide H
 unfold ptrTo at *
 go_enter Tryz.func89, Tryz.ntmps89
 have hb0 := fun ob => (heap_alloc_old w ob hsl).trans H.blk
 have c2 : ∀ ob, (w.alloc ob).cell? ⟨s, 2, none⟩ = some (.int .u64 st.count) := fun ob => blk_cell (i := 2) (hb0 ob)
 have d2 : w.cell? ⟨s, 2, none⟩ = some (.int .u64 st.count) := blk_cell (i := 2) H.blk
 have f2 : ∀ ob, (w.alloc ob).frozen? ⟨s, 2, none⟩ = false := fun ob => blk_free (i := 2) (hb0 ob)
 have g2 : w.frozen? ⟨s, 2, none⟩ = false := blk_free (i := 2) H.blk
 clear H hb0
 have hw : IntKind.i64.wrap (2 + (place : Int)) = 2 + (place : Int) := by rw [IntKind.wrap_i64]; omega
 go_upto_region 2 with fail
 have hn : IntKind.u64.wrap ((st.count : Int) + 1) = ((st.next : Nat) : Int) := by rw [IntKind.wrap_u64, Mod.Stv.next]; omega
 refine wp_world (fun x => x.heap[s]? = some (.cells #[.pointer (some ⟨dp, 0, none⟩), .int .u32 st.opening, .int .u64 st.next, .int .i64 st.head] 203 (0, 0)) ∧ x.heap[w.heap.size]? = some (.cells #[.int .i64 sm, .int .i64 q, .string body] 155 (0, 0)) ∧ DkAt x dp st.dk lv uv ∧ Far (fun k => k = s) w x ∧ w.heap.size < x.heap.size) ?_ ?_
 ·rw [hn]
  have hF : Far (fun k => k = s) w ((w.setCell ⟨s, 2, none⟩ (.int .u64 st.next)).alloc (.cells #[.int .i64 sm, .int .i64 q, .string body] 155)) :=
   (far_set w s 2 _).trans (far_below ((Below.refl _ _).alloc (Nat.le_refl _) _)) (fun _ _ h => h)
  refine ⟨?_, ?_, (unhide HH).dk.far hF (fun k hk e => (unhide HH).sep (by rw [← e]; exact hk)), hF, by simp⟩
  ·rw [hao _ _ (by simp; exact hsl)]
   have h2 := blk_set (j := 2) (v := .int .u64 st.next) (unhide HH).blk
   simpa [ptrTo] using h2
  ·have := heap_alloc_new (w.setCell ⟨s, 2, none⟩ (.int .u64 st.next)) (.cells #[.int .i64 sm, .int .i64 q, .string body] 155)
   simpa using this
 rintro x ⟨h0, h1, hD, hF, hz⟩
 have hslx := lt_of_block h0
 have hsep : ¬ DkU dp lv uv s := dk_ne hD h0 (by decide) (by decide) (by decide)
 have hsepn : ¬ DkU dp lv uv w.heap.size := dk_ne hD h1 (by decide) (by decide) (by decide)
 obtain ⟨SB, hSB⟩ : ∃ SB, SB = Mod.sealB st.opening st.next (Mod.recIn sm q body.data.toList) := ⟨_, rfl⟩
 rw [← hSB] at hS3
 have hW := fun y (hb : y.heap[s]? = _) (hD : DkAt y dp st.dk lv uv) => hide (storeWrite_any y s dp lv uv (.int .u32 st.opening) (.int .u64 st.next) (.int .i64 st.head) st.dk (2 + place) SB hS3 hpl hb hD)
 have hSl := fun y => hide (sealRecord_any st.opening st.next sm q body y (unhide HH).op hnext hsm hq hbo)
 rw [← hSB] at hSl
 obtain ⟨ee, hee⟩ : ∃ ee, ee = (st.dk.put (2 + place) SB).1 := ⟨_, rfl⟩
 obtain ⟨dd, hdd⟩ : ∃ dd, dd = (st.dk.put (2 + place) SB).2 := ⟨_, rfl⟩
 rw [← hee, ← hdd] at hW
 have HEQ := hide (And.intro hSB (And.intro hee hdd))
 have H0 := hide h0
 have H1 := hide h1
 have HD := hide hD
 have HF := hide hF
 obtain ⟨pp, hpp⟩ : ∃ pp, pp = 2 + place := ⟨_, rfl⟩
 rw [← hpp] at hW
 have hpc : 2 + (place : Int) = (pp : Int) := by omega
 rw [hpc] at hw
 clear hpp
 clear hSB hee hdd h0 h1 hD hF c2 d2 f2 g2 hn
 unfold ptrTo at hW
 refine wp_region_foot (by kernel_rfl)
  [fun v _ => v = .pointer (some ⟨s, 0, none⟩), fun v _ => v = .int .i64 place, fun v _ => v = .int .i64 pp, fun v _ => v = .pointer (some ⟨s, 0, none⟩), fun v _ => v = .pointer (some ⟨s, 0, none⟩), fun v _ => v = .pointer (some ⟨s, 1, none⟩), fun v _ => v = .agg #[.int .u32 st.opening, .int .u64 st.next], fun v _ => v = .agg #[.int .i64 sm, .int .i64 q, .string body],
   fun v _ => v = .agg (bv SB).toArray, fun v y => v = .int .i64 ee ∧ ∃ uv', DkAt y dp dd lv uv' ∧ Loc x uv uv', fun v _ => v = .int .i64 ee]
  [[(0, none)], [(1, none)], [(17, some 1)], [(0, none)], [(19, some 3)], [(20, some 4)], [(21, some 5)], [(5, none)], [(22, some 6), (23, some 7)], [(16, some 0), (18, some 2), (24, some 8)], [(25, some 9)]] [some 16, some 17, some 18, some 19, some 20, some 21, some 22, some 23, some 24, some 25, some 6] [false, false, false, false, false, false, true, false, false, false, false, false, false, false, false, false, true, true, true, true, true, true, true, true, true, true]
  [(9, DkU dp lv uv)]
  (by kernel_rfl) (by kernel_rfl) (by kernel_rfl) (by kernel_rfl) (by kernel_rfl) ?_ ?_ ?_ ?_
 ·repeat' (first | exact stable_eq _ | exact (fun _ y z h hb => ⟨h.1, h.2.imp fun uv' h => ⟨h.1.far (far_below (E := fun _ => False) hb) (fun _ _ h => h), h.2⟩⟩) | exact trivial | apply And.intro)
 ·repeat' (first | exact trivial | exact .inl rfl | exact .inr (.inr (stableF_eq _ _)) | apply And.intro)
 ·refine ⟨?_, ?_, ?_, ?_, ?_, ?_, ?_, ?_, ?_, ?_, ?_, trivial⟩
  all_goals
   intro a' z hb hf
   have z0 := hb.blk (unhide H0) (footBut_no (by intro q hq; simp at hq; subst hq; exact hsep))
   have z1 := hb.blk (unhide H1) (footBut_no (by intro q hq; simp at hq; subst hq; exact hsepn))
   have e1 : z.cell? ⟨s, 1, none⟩ = some (.int .u32 st.opening) := blk_cell (i := 1) z0
   have e2 : z.cell? ⟨s, 2, none⟩ = some (.int .u64 st.next) := blk_cell (i := 2) z0
   have n0 : z.cell? ⟨w.heap.size, 0, none⟩ = some (.int .i64 sm) := blk_cell (i := 0) z1
   have n1 : z.cell? ⟨w.heap.size, 1, none⟩ = some (.int .i64 q) := blk_cell (i := 1) z1
   have n2 : z.cell? ⟨w.heap.size, 2, none⟩ = some (.string body) := blk_cell (i := 2) z1
   have Z0 := hide z0
   clear z0 z1
   simp only [PlanFacts, List.getD_cons_zero, List.getD_cons_succ, Array.getD_eq_getD_getElem?] at hf
   try simp at hf
  iterate 2
   ·clear hb
    go_simp
    exact ⟨_, rfl, Far.refl _ _, rfl⟩
  ·clear hb
   go_simp
   exact ⟨_, rfl, Far.refl _ _, rfl⟩
  iterate 5
   ·clear hb
    go_simp
    exact ⟨_, rfl, Far.refl _ _, rfl⟩
  ·clear hb
   go_simp
   refine (unhide (hSl z)).mono ?_
   rintro r w1 ⟨rfl, hb1⟩
   exact ⟨_, rfl, far_below hb1, rfl⟩
  ·have hDz := (unhide HD).far hb (by
    rintro k hk ⟨q, hq, g1, g2, g3⟩
    simp at hq
    subst hq
    exact g1 rfl)
   have HC := hide (unhide (hW z (unhide Z0) hDz))
   have hzz := hb.size
   clear hb hDz
   go_simp
   refine (unhide HC).mono ?_
   rintro r w1 ⟨rfl, uv', k1, k2, k3⟩
   exact ⟨_, rfl, footOf_of (.head _) k3, rfl, uv', k1, loc_less k2 hzz⟩
  ·clear hb
   obtain ⟨hf, _⟩ := hf
   go_simp
   exact ⟨_, rfl, Far.refl _ _, rfl⟩
 ·intro f z hFz hwd
  obtain ⟨_, uv', k1, k2⟩ := hwd.2.2.2.2.2.2.2.2.2.1
  have h13 := hwd.2.2.2.2.2.2.2.2.2.2.1
  have hFz : Far (DkU dp lv uv) x z := hFz.mono (fun b _ h => by
   obtain ⟨q, hq, h⟩ := h
   simp at hq
   subst hq
   exact h)
  have z0 := hFz.blk (unhide H0) hsep
  have HFIN := hide (And.intro k1 (And.intro k2 (And.intro hFz z0)))
  clear hwd k1 k2 hFz z0
  simp only [mergeT, h13]
  generalize f 16 = x16
  generalize f 17 = x17
  generalize f 18 = x18
  generalize f 19 = x19
  generalize f 20 = x20
  generalize f 21 = x21
  generalize f 22 = x22
  generalize f 23 = x23
  generalize f 24 = x24
  generalize f 25 = x25
  go_simp
  go_wp2
  go_ret
  obtain ⟨k1, k2, k3, k4⟩ := unhide HFIN
  obtain ⟨q1, q2, q3⟩ := unhide HEQ
  have hp : st.putRecord place sm q body.data.toList = (ee, { st with count := st.next, dk := dd }) := by
   unfold Mod.Stv.putRecord
   rw [← q1, ← q2, ← q3]
  rw [hp]
  exact ⟨rfl, uv', ⟨k4, k1, (unhide HH).op, hnext, hh⟩, loc_less k2 (by omega), ((unhide HF).mono (fun _ _ e => .inl e)).trans k3 (fun _ _ e => .inr e)⟩
theorem storeIsDead_any {w : World} {s dp : Nat} {st : Mod.Stv} {lv uv : Value} (H : StAt w s dp st lv uv) :
  Calls Tryz.prog 86 #[ptrTo s] w fun r w' => r = .returned (.bool st.dk.dead) ∧ w' = w := by
 have c0 : w.cell? ⟨s, 0, none⟩ = some (ptrTo dp) := blk_cell (i := 0) H.blk
 have c3 : w.cell? ⟨dp, 3, none⟩ = some (.bool st.dk.dead) := blk_cell (i := 3) H.dk.blk
 unfold ptrTo at *
 clear H
 have HD : ∀ y : World, y = w → Calls Tryz.prog 128 #[.pointer (some ⟨dp, 0, none⟩)] y fun r w' => r = .returned (.bool st.dk.dead) ∧ w' = w := by
  rintro y rfl
  clear c0
  go_enter Tryz.func128, Tryz.ntmps128
  go_wp2
  go_ret
  exact ⟨rfl, rfl⟩
 have HD := hide HD
 clear c3
 go_enter Tryz.func86, Tryz.ntmps86
 go_wp2_with (go_at_call 128; refine ((unhide HD) _ rfl).mono ?_; rintro r y ⟨rfl, rfl⟩)
 go_ret
 exact ⟨rfl, rfl⟩
theorem storeOpening_any {w : World} {s dp : Nat} {st : Mod.Stv} {lv uv : Value} (H : StAt w s dp st lv uv) :
  Calls Tryz.prog 111 #[ptrTo s] w fun r w' => r = .returned (.int .i64 st.opening) ∧ w' = w := by
 have c0 : w.cell? ⟨s, 1, none⟩ = some (.int .u32 st.opening) := blk_cell (i := 1) H.blk
 have hw : IntKind.i64.wrap (st.opening : Int) = (st.opening : Int) := by have := H.op; rw [IntKind.wrap_i64]; omega
 unfold ptrTo at *
 clear H
 go_enter Tryz.func111, Tryz.ntmps111
 go_wp2
 go_ret
 exact ⟨by simp, rfl⟩
end Go.Proofs.YtamafdcnbcoegaaGreat
namespace Go.Proofs.YtamafdcnbcoegaaGreat
open Go.RowKit
theorem isAgg_sec (w : World) : (isAgg 207).run Tryz.prog w = .ok true w := by
 simp [isAgg, run_underlying Tryz.underlying207]
theorem wpList_load_sec_at {ops : Array Oper} {rest : List Oper} {o : Oper} {a : Act} {w : World} {Q : Exit → Act → World → Prop} (hgd : o.guard = none) (x : Operand) (ho : o.op = .load 207 x)
  (ad : Addr) (hx : a.eval x = .pointer (some ad)) (S : List UInt8) (hS : S.length = 64) (hc : ∀ j v, (bv S)[j]? = some v → w.cell? (ad.add j) = some v)
  (h : wpList Tryz.prog ops Q rest (a.put o.dst (.agg (bv S).toArray)) w) : wpList Tryz.prog ops Q (o :: rest) a w := by
 refine wpList_plain hgd fun K hK => ?_
 unfold Oper.wp execOp
 simp only [ho, hx, Instr.loadAt, Instr.sureAddr, Sem.run_bind, Sem.run_pure, Result.andThen_ok, run_loadVar_at w ad 207 (bv S) hc (isAgg_sec w) (by rw [size64, bv_length, hS])]
 exact hK _ _ h
set_option maxRecDepth 100000 in
set_option maxHeartbeats 1000000 in
theorem sectorAt_any (w : World) (v : Value) (L : List UInt8) (k : Nat) (hat : BytesAt w v L) (hk : 64 * k + 64 ≤ L.length) (hL : L.length ≤ 10000) :
  Calls Tryz.prog 195 #[v, .int .i64 k] w fun r w' => r = .returned (.agg (bv ((L.drop (k * 64)).take 64)).toArray) ∧ Below w.heap.size w w' := by
 obtain ⟨ad, cap, rfl, h1, h2, h3⟩ := hat
 obtain ⟨b, off, rfl, hc⟩ := h3 (by omega)
 obtain ⟨n, hn⟩ : ∃ n, n = L.length := ⟨_, rfl⟩
 rw [← hn] at hk hL h1 h2 hc ⊢
 have hS3 : ((L.drop (k * 64)).take 64).length = 64 := by rw [List.length_take, List.length_drop, ← hn]; omega
 have hcell : ∀ j v, (bv ((L.drop (k * 64)).take 64))[j]? = some v → w.cell? ⟨b, off + k * 64 + j, none⟩ = some v := by
  intro j v hj
  have hjl : j < 64 := by
   have := (List.getElem?_eq_some_iff.1 hj).1
   rw [bv_length, hS3] at this; exact this
  rw [bv_get (by rw [hS3]; exact hjl)] at hj
  cases hj
  have := hc (k * 64 + j) (by omega)
  rw [← Nat.add_assoc] at this
  rw [this]
  simp [List.getD_eq_getElem?_getD, hjl, List.getElem?_drop]
 obtain ⟨S, hSd⟩ : ∃ S, S = (L.drop (k * 64)).take 64 := ⟨_, rfl⟩
 rw [← hSd] at hS3 hcell ⊢
 have HC := hide hcell
 clear hcell hc hSd hn
 have i0 : (0 : Int) ≤ (k : Int) * 64 := by omega
 have i1 : (k : Int) * 64 ≤ (k : Int) * 64 + 64 := by omega
 have i2 : (k : Int) * 64 + 64 ≤ (n : Int) := by omega
 have i3 : (k : Int) * 64 + 64 ≤ (cap : Int) := by omega
 have it : ((k : Int) * 64).toNat = k * 64 := by omega
 have it2 : ((k : Int) * 64 + 64).toNat = k * 64 + 64 := by omega
 have hw : IntKind.i64.wrap ((k : Int) * 64) = (k : Int) * 64 := by rw [IntKind.wrap_i64]; omega
 have hw1 : IntKind.i64.wrap ((k : Int) + 1) = (k : Int) + 1 := by rw [IntKind.wrap_i64]; omega
 have hw2 : IntKind.i64.wrap (((k : Int) + 1) * 64) = (k : Int) * 64 + 64 := by rw [IntKind.wrap_i64]; omega
 have hne : ¬ cap = k * 64 := by omega
 have hap : ∀ y : World, (Instr.arrayAt 207 (.slice (some ⟨b, off + k * 64, none⟩) 64 (cap - k * 64))).run Tryz.prog y = .ok (.pointer (some ⟨b, off + k * 64, none⟩)) y := fun y => by
  simp [Instr.arrayAt, run_underlying Tryz.underlying207]
 go_enter Tryz.func195, Tryz.ntmps195
 go_upto_region 1 with fail
 refine wp_world (fun x => x.heap[w.heap.size]? = some (.cells (bv zeros).toArray 207 (0, 0)) ∧ (∀ j v, (bv S)[j]? = some v → x.cell? ⟨b, off + k * 64 + j, none⟩ = some v) ∧ Below w.heap.size w x) ?_ ?_
 ·refine ⟨cells_eq (heap_alloc_new _ _) (by kernel_rfl), fun j v hj => ?_, (Below.refl _ _).alloc (Nat.le_refl _) _⟩
  have h := (unhide HC) j v hj
  exact (World.cell?_alloc_lt w _ ⟨b, off + k * 64 + j, none⟩ (World.block_lt_of_cell? _ _ h)).trans h
 rintro x ⟨h0, hcx, hB⟩
 have H0 := hide h0
 have HCX := hide hcx
 have HB := hide hB
 have hz := lt_of_block h0
 clear h0 hcx hB HC
 go_wp2_with (first
  | (refine wpList_load_sec_at rfl (.tmp 12) rfl ⟨b, off + k * 64, none⟩ rfl S hS3 (by intro j v hj; rw [add_mk]; exact (unhide HCX) j v hj) ?_)
  | (refine wpList_store_sec rfl (.tmp 4) (.tmp 13) rfl w.heap.size rfl S hS3 rfl 207 _ (by simp [bv_length, length_zeros]) (unhide H0) ?_; intro z4 hz4 hF4; go_simp))
 exact bodyPost_ret (results_sec Tryz.results195 _ _ w.heap.size _ _ hS3 rfl hz4) rfl ⟨rfl, (unhide HB).trans (hF4.below (unhide HB).size (fun k hk e => by omega))⟩
theorem built_zero : Tryz.prog.built 207 [] = some (bv zeros).toArray := by kernel_rfl
theorem wpList_build_zero {ops : Array Oper} {rest : List Oper} {o : Oper} {a : Act} {w : World} {Q : Exit → Act → World → Prop} (hgd : o.guard = none) (ho : o.op = .build 207 #[])
  (h : wpList Tryz.prog ops Q rest (a.put o.dst (.agg (bv zeros).toArray)) w) : wpList Tryz.prog ops Q (o :: rest) a w := by
 refine wpList_build hgd 207 #[] ho ?_ ?_
 ·simp [built_zero]
 ·simpa [built_zero] using h
set_option maxRecDepth 100000 in
set_option maxHeartbeats 1000000 in
theorem readHead_zero (w : World) : Calls Tryz.prog 194 #[.agg (bv zeros).toArray] w fun r w' =>
  r = .returned (.tuple #[.agg #[.int .u32 0, .int .u64 0, .int .i64 0, .int .i64 0, .int .i64 0], .bool true]) ∧ Below w.heap.size w w' := by
 have heq := fun y => eq_sec (S := zeros) (T := zeros) length_zeros length_zeros y
 rw [decide_eq_true rfl] at heq
 go_enter Tryz.func194, Tryz.ntmps194
 go_upto_region 1 with fail
 refine wp_world (fun x => x.heap[w.heap.size]? = some (.cells (bv zeros).toArray 207 (0, 0)) ∧ x.heap[w.heap.size + 1]? = some (.cells #[.int .u32 0, .int .u64 0, .int .i64 0, .int .i64 0, .int .i64 0] 217 (0, 0)) ∧ Below w.heap.size w x) (alloc2 _ _ _) ?_
 rintro x ⟨h0, h1, hB⟩
 have q0 : x.cell? ⟨w.heap.size + 1, 0, none⟩ = some (.int .u32 0) := blk_cell (i := 0) h1
 have q1 : x.cell? ⟨w.heap.size + 1, 1, none⟩ = some (.int .u64 0) := blk_cell (i := 1) h1
 have q2 : x.cell? ⟨w.heap.size + 1, 2, none⟩ = some (.int .i64 0) := blk_cell (i := 2) h1
 have q3 : x.cell? ⟨w.heap.size + 1, 3, none⟩ = some (.int .i64 0) := blk_cell (i := 3) h1
 have q4 : x.cell? ⟨w.heap.size + 1, 4, none⟩ = some (.int .i64 0) := blk_cell (i := 4) h1
 have p0 : x.frozen? ⟨w.heap.size + 1, 0, none⟩ = false := blk_free (i := 0) h1
 have p1 : x.frozen? ⟨w.heap.size + 1, 1, none⟩ = false := blk_free (i := 1) h1
 have p2 : x.frozen? ⟨w.heap.size + 1, 2, none⟩ = false := blk_free (i := 2) h1
 have p3 : x.frozen? ⟨w.heap.size + 1, 3, none⟩ = false := blk_free (i := 3) h1
 have p4 : x.frozen? ⟨w.heap.size + 1, 4, none⟩ = false := blk_free (i := 4) h1
 have H0 := hide h0
 have HB := hide hB
 clear h0 h1 hB
 go_wp2_with (first
  | (refine wpList_load_sec rfl (.tmp 1) rfl w.heap.size rfl 207 zeros length_zeros (unhide H0) ?_)
  | (refine wpList_build_zero rfl rfl ?_; go_simp))
 refine bodyPost_ret (v := .tuple #[.agg #[.int .u32 0, .int .u64 0, .int .i64 0, .int .i64 0, .int .i64 0], .bool true]) (by simp [results, Tryz.results194, go_sem, q0, q1, q2, q3, q4]) rfl ⟨rfl, ?_⟩
 have hb1 := unhide HB
 exact ((((hb1.setCell (p := ⟨w.heap.size + 1, 0, none⟩) (by simp) _).setCell (p := ⟨w.heap.size + 1, 1, none⟩) (by simp) _).setCell (p := ⟨w.heap.size + 1, 2, none⟩) (by simp) _).setCell (p := ⟨w.heap.size + 1, 3, none⟩) (by simp) _).setCell (p := ⟨w.heap.size + 1, 4, none⟩) (by simp) _
set_option maxRecDepth 100000 in
set_option maxHeartbeats 1000000 in
theorem readRecord_zero (w : World) (last : Nat) : Calls Tryz.prog 197 #[.agg (bv zeros).toArray, .int .u32 last] w fun r w' =>
  r = .returned (.tuple #[.agg #[.int .i64 0, .int .i64 0, .string ⟨#[]⟩], .bool true]) ∧ Below w.heap.size w w' := by
 have heq := fun y => eq_sec (S := zeros) (T := zeros) length_zeros length_zeros y
 rw [decide_eq_true rfl] at heq
 go_enter Tryz.func197, Tryz.ntmps197
 go_upto_region 1 with fail
 refine wp_world (fun x => x.heap[w.heap.size]? = some (.cells (bv zeros).toArray 207 (0, 0)) ∧ x.heap[w.heap.size + 1]? = some (.cells #[.int .i64 0, .int .i64 0, .string ⟨#[]⟩] 155 (0, 0)) ∧ Below w.heap.size w x) (alloc2 _ _ _) ?_
 rintro x ⟨h0, h1, hB⟩
 have q0 : x.cell? ⟨w.heap.size + 1, 0, none⟩ = some (.int .i64 0) := blk_cell (i := 0) h1
 have q1 : x.cell? ⟨w.heap.size + 1, 1, none⟩ = some (.int .i64 0) := blk_cell (i := 1) h1
 have q2 : x.cell? ⟨w.heap.size + 1, 2, none⟩ = some (.string ⟨#[]⟩) := blk_cell (i := 2) h1
 have p0 : x.frozen? ⟨w.heap.size + 1, 0, none⟩ = false := blk_free (i := 0) h1
 have p1 : x.frozen? ⟨w.heap.size + 1, 1, none⟩ = false := blk_free (i := 1) h1
 have p2 : x.frozen? ⟨w.heap.size + 1, 2, none⟩ = false := blk_free (i := 2) h1
 have H0 := hide h0
 have HB := hide hB
 clear h0 h1 hB
 go_wp2_with (first
  | (refine wpList_load_sec rfl (.tmp 2) rfl w.heap.size rfl 207 zeros length_zeros (unhide H0) ?_)
  | (refine wpList_build_zero rfl rfl ?_; go_simp))
 refine bodyPost_ret (v := .tuple #[.agg #[.int .i64 0, .int .i64 0, .string ⟨#[]⟩], .bool true]) (by simp [results, Tryz.results197, go_sem, q0, q1, q2]) rfl ⟨rfl, ?_⟩
 have hb1 := unhide HB
 exact ((hb1.setCell (p := ⟨w.heap.size + 1, 0, none⟩) (by simp) _).setCell (p := ⟨w.heap.size + 1, 1, none⟩) (by simp) _).setCell (p := ⟨w.heap.size + 1, 2, none⟩) (by simp) _
end Go.Proofs.YtamafdcnbcoegaaGreat
namespace Go.Proofs.YtamafdcnbcoegaaGreat
open Go.RowKit
namespace Mod
def newer (o c o' c' : Nat) : Bool := if o ≠ o' then decide (o' < o) else decide (c' < c)
end Mod
set_option maxHeartbeats 400000 in
theorem isNewer_any (o c o' c' : Nat) (w : World) : Calls Tryz.prog 196 #[.agg #[.int .u32 o, .int .u64 c], .agg #[.int .u32 o', .int .u64 c']] w fun r w' => r = .returned (.bool (Mod.newer o c o' c')) ∧ Below w.heap.size w w' := by
 by_cases h : o = o'
 ·subst h
  go_enter Tryz.func196, Tryz.ntmps196
  go_wp2
  go_ret
  exact ⟨by simp [Mod.newer], ((Below.refl _ _).alloc (Nat.le_refl _) _).alloc (by simp) _⟩
 ·have hne : ¬ (o : Int) = (o' : Int) := by omega
  have hne2 : ((o : Int) == (o' : Int)) = false := by simp; omega
  go_enter Tryz.func196, Tryz.ntmps196
  go_wp2
  go_ret
  exact ⟨by simp [Mod.newer, h], ((Below.refl _ _).alloc (Nat.le_refl _) _).alloc (by simp) _⟩
theorem tmpB {t : Array Value} {k : Nat} {c : Bool} (h : t[k]?.getD undef = .bool c) : t[k]? = some (.bool c) := by
 cases hx : t[k]? with
 | none => rw [hx] at h; simp [undef] at h
 | some v => rw [hx] at h; simp at h; rw [h]
theorem size_head : (Tryz.prog.info? 217).map (·.size) = some 5 := by kernel_rfl
theorem far_setRow (w : World) (g : Nat) (cs : Array Value) : Far (fun k => k = g) w (w.setRow g cs) := ⟨rfl, rfl, rfl, by simp, fun k _ hk => setRow_other w g k _ hk⟩
end Go.Proofs.YtamafdcnbcoegaaGreat
namespace Go.Proofs.YtamafdcnbcoegaaGreat
open Go.RowKit
theorem info_rec : (Tryz.prog.info? 155).map (fun i => (i.zero, i.size, i.bytes)) = some (some (.agg #[.int .i64 0, .int .i64 0, .string ⟨#[]⟩]), 3, 32) := by kernel_rfl
end Go.Proofs.YtamafdcnbcoegaaGreat
namespace Go.Proofs.YtamafdcnbcoegaaGreat
open Go.RowKit
set_option maxRecDepth 100000 in
set_option maxHeartbeats 1000000 in
theorem cloneBytes_any (w : World) (v : Value) (L : List UInt8) (hat : BytesAt w v L) (h0 : 0 < L.length) (hL : L.length ≤ 10000) :
  Calls Tryz.prog 192 #[v] w fun r w' => ∃ v', r = .returned v' ∧ Owns w.heap.size w' v' L ∧ Below w.heap.size w w' := by
 obtain ⟨ad, cap, rfl, h1, h2, h3⟩ := hat
 obtain ⟨b, off, rfl, hc⟩ := h3 h0
 obtain ⟨n, hn⟩ : ∃ n, n = L.length := ⟨_, rfl⟩
 rw [← hn] at h0 hL h1 h2 hc ⊢
 have HC := hide hc
 have HN := hide hn
 clear hc hn h3
 have hO : Owns w.heap.size (w.alloc (.cells #[] 5)) (.slice (some ⟨w.heap.size, 0, none⟩) 0 0) [] :=
  ⟨by simp [bv], .inr ⟨w.heap.size, 0, _, rfl, Nat.le_refl _, heap_alloc_new w _, by simp, by unfold maxLen; omega, by simp, by simp [bv]⟩⟩
 have HO := hide hO
 clear hO
 have heq : ∀ y : World, (binOp .eql 44 (.slice (some ⟨b, off, none⟩) n cap) (.slice none 0 0)).run Tryz.prog y = .ok (.bool false) y := fun y => by
  have := run_equal_slice_nil (P := Tryz.prog) y 44 5 (some ⟨b, off, none⟩) n cap Tryz.underlying44
  simp [binOp, this]
 go_enter Tryz.func192, Tryz.ntmps192
 go_wp2_with (at_builtin; refine wp_app_bytes rfl (.tmp 5) (.tmp 6) rfl w.heap.size _ [] (unhide HO) rfl ⟨b, off, none⟩ n cap L rfl (unhide HN).symm (by
  intro j u hj
  have hjl : j < L.length := by
   have := (List.getElem?_eq_some_iff.1 hj).1
   rw [bv_length] at this; exact this
  rw [bv_get hjl] at hj
  cases hj
  have h := (unhide HC) j (by rw [unhide HN]; exact hjl)
  rw [add_mk]
  exact (World.cell?_alloc_lt w _ ⟨b, off + j, none⟩ (World.block_lt_of_cell? _ _ h)).trans h) (by simp; omega) (by simp) ?_; intro v' w' hown hg; go_simp)
 go_ret
 exact ⟨v', rfl, by simpa using hown, ((Below.refl _ _).alloc (Nat.le_refl _) _).trans (below_grown_new (B := w.heap.size) hg (by simp) (fun g hg => by simp [Value.ownBlock] at hg; omega))⟩
set_option maxHeartbeats 1000000 in
theorem diskNew_any (w : World) (v : Value) (L : List UInt8) (hat : BytesAt w v L) (h0 : 128 ≤ L.length) (hL : L.length ≤ 10000) :
  Calls Tryz.prog 148 #[v] w fun r w' => ∃ p lv, r = .returned (ptrTo p) ∧ DkAt w' p ⟨L, 0, false⟩ lv (.slice none 0 0) ∧ Below w.heap.size w w' ∧ ∀ k, DkU p lv (.slice none 0 0) k → w.heap.size ≤ k := by
 have HC := hide (cloneBytes_any w v L hat (by omega) hL)
 clear hat
 unfold ptrTo
 go_enter Tryz.func148, Tryz.ntmps148
 go_wp2_with (go_at_call 192; refine (unhide HC).mono ?_; rintro r y ⟨lv, rfl, hown, hb⟩; obtain ⟨ad, cap, rfl, _⟩ := hown.shape; replace hown := hide hown; replace hb := hide hb)
 go_ret
 have ho := unhide hown
 have hb := unhide hb
 refine ⟨_, _, rfl, ⟨heap_alloc_new y _, ?_, rowO_nil _ _ _, ⟨h0, hL⟩, by simp⟩, hb.alloc hb.size _, ?_⟩
 ·exact World.ownsRow.alloc (ho.mono (Nat.zero_le _)) _
 ·rintro k (rfl | hk | hk)
  ·exact hb.size
  ·exact (ho.lt k hk).1
  ·cases hk
end Go.Proofs.YtamafdcnbcoegaaGreat
namespace Go.Proofs.YtamafdcnbcoegaaGreat
open Go.RowKit
def NewDk (B : Nat) (L : List UInt8) (p : Nat) (w : World) : Prop := ∃ lv, DkAt w p ⟨L, 0, false⟩ lv (.slice none 0 0) ∧ ∀ k, DkU p lv (.slice none 0 0) k → B ≤ k
theorem newDk_below {B : Nat} {L : List UInt8} {p : Nat} {w x : World} (h : NewDk B L p w) (hb : Below w.heap.size w x) : NewDk B L p x := h.imp fun _ h => ⟨h.1.far (far_below (E := fun _ => False) hb) (fun _ _ h => h), h.2⟩
theorem ownsRow_monoB {w : World} {B B' size : Nat} {e : TypeId} {v : Value} {n : Nat} {xs : List Value} (h : w.ownsRow B e size v n xs) (hB : B' ≤ B) : w.ownsRow B' e size v n xs := by
 obtain ⟨h1, h2⟩ := h
 refine ⟨h1, ?_⟩
 rcases h2 with h2 | ⟨g, cap, cur, rfl, hb, r⟩
 ·exact .inl h2
 ·exact .inr ⟨g, cap, cur, rfl, Nat.le_trans hB hb, r⟩
theorem size_contents : (Tryz.prog.info? 187).map (·.size) = some 4 := by kernel_rfl
end Go.Proofs.YtamafdcnbcoegaaGreat
namespace Go.Proofs.YtamafdcnbcoegaaGreat
open Go.RowKit
def holdIt (a : Mod.Sk) (s q : Nat) (b : ByteArray) : Mod.Sk :=
 if (a.logs s).length + 2 ≤ q ∧ q ≤ (a.logs s).length + 4 ∧ a.ix s q = none then { a with held := a.held ++ [(s, q, b)] } else a
theorem holdIt_epoch (a : Mod.Sk) (s q : Nat) (b : ByteArray) : (holdIt a s q b).epoch = a.epoch := by
 unfold holdIt
 split <;> rfl
end Go.Proofs.YtamafdcnbcoegaaGreat
namespace Go.Proofs.YtamafdcnbcoegaaGreat
open Go.RowKit
def grown (a : Mod.Sk) (s : Nat) (got : List ByteArray) : Mod.Sk := { a with logs := fun t => if t = s then a.logs s ++ got else a.logs t }
theorem grown_count (a : Mod.Sk) (s : Nat) (hs : s < 3) (got : List ByteArray) : (grown a s got).count = a.count + got.length := by
 obtain rfl | rfl | rfl : s = 0 ∨ s = 1 ∨ s = 2 := by omega
 all_goals
  simp [grown, Mod.Sk.count]
  omega
def takeIt (a : Mod.Sk) (s : Nat) (got : List ByteArray) : Mod.Sk := (grown a s got).forget s (a.logs s ++ got).length
end Go.Proofs.YtamafdcnbcoegaaGreat
namespace Go.Proofs.YtamafdcnbcoegaaGreat
open Go.RowKit
def skAfter (a : Mod.Sk) (k e : Int) (s qn : Nat) (b : ByteArray) : Mod.Sk := if a.commits k e s qn b = [] then holdIt a s qn b else takeIt a s (a.commits k e s qn b)
theorem holdIt_logs (a : Mod.Sk) (s q : Nat) (b : ByteArray) : (holdIt a s q b).logs = a.logs := by
 unfold holdIt
 split <;> rfl
theorem takeIt_logs (a : Mod.Sk) (s : Nat) (got : List ByteArray) : (takeIt a s got).logs s = a.logs s ++ got := by simp [takeIt, grown, Mod.Sk.forget]
def skAck (a : Mod.Sk) (k e : Int) (s qn : Nat) (b : ByteArray) : ByteArray :=
 ⟨(Wire.bytes 4 a.epoch s ((skAfter a k e s qn b).logs s).length (ackBody (skAfter a k e s qn b) s ((skAfter a k e s qn b).logs s).length).data.toList).toArray⟩
end Go.Proofs.YtamafdcnbcoegaaGreat
namespace Go.Proofs.YtamafdcnbcoegaaGreat
open Go.RowKit
def fenceOf (n : Nat) : ByteArray := ⟨(Wire.bytes 5 n 0 0 []).toArray⟩
end Go.Proofs.YtamafdcnbcoegaaGreat
namespace Go.Proofs.YtamafdcnbcoegaaGreat
open Go.RowKit
def welB (a : Mod.Sk) : ByteArray := le4S (a.logs 0).length ++ le4S (a.logs 1).length ++ le4S (a.logs 2).length
def skWel (a : Mod.Sk) (e : Nat) : ByteArray := ⟨(Wire.bytes 2 e 0 0 (welB a).data.toList).toArray⟩
def helloHeld (a : Mod.Sk) (e : Nat) : List (Nat × Nat × ByteArray) := if a.epoch < e then [] else a.held
def helloIt (a : Mod.Sk) (e : Nat) : Mod.Sk := { a with epoch := e, held := helloHeld a e }
theorem wel_data (a b c : Int) : (le4S a ++ le4S b ++ le4S c).data.toList = Wire.le4 a ++ Wire.le4 b ++ Wire.le4 c := by
 simp [ByteArray.data_append, le4S_data]
theorem wel_proper {e n0 n1 n2 : Nat} (he : e ≤ 2147483647) (h0 : n0 ≤ 120) (h1 : n1 ≤ 120) (h2 : n2 ≤ 120) : Wire.proper 2 e 0 0 (le4S n0 ++ le4S n1 ++ le4S n2) = true := by
 have hs : (le4S n0 ++ le4S n1 ++ le4S n2).size = 12 := by simp [ByteArray.size_append, le4S_size]
 have a0 : n0 % 256 = n0 := by omega
 have a1 : n1 % 256 = n1 := by omega
 have a2 : n2 % 256 = n2 := by omega
 simp only [Wire.proper, Wire.welBody, wel_data, hs]
 simp [Wire.isNum, Wire.numAt, Wire.num4, Wire.le4]
 omega
end Go.Proofs.YtamafdcnbcoegaaGreat
namespace Go.Proofs.YtamafdcnbcoegaaGreat
open Go.RowKit
def skReply (a : Mod.Sk) (k e : Int) (s q : Nat) (b : ByteArray) : Mod.Sk × List ByteArray :=
 if k = 1 then (if e < a.epoch then (a, [fenceOf a.epoch]) else (helloIt a e.toNat, [skWel a e.toNat]))
 else if k = 3 then (if e = a.epoch then (skAfter a k e s q b, [skAck a k e s q b]) else (a, [fenceOf (max e.toNat a.epoch)]))
 else (a, [])
structure SkGood (a : Mod.Sk) : Prop where
 held : ∀ h ∈ a.held, h.1 < 3 ∧ (a.logs h.1).length + 1 ≤ h.2.1 ∧ h.2.1 ≤ (a.logs h.1).length + 4
 once : (a.held.map fun h => (h.1, h.2.1)).Nodup
 room : a.count ≤ 120
 ep : a.epoch ≤ 2147483647
theorem nodup_lt : ∀ (n : Nat) (l : List Nat), l.Nodup → (∀ x ∈ l, x < n) → l.length ≤ n
 | 0, [], _, _ => Nat.le_refl _
 | 0, x :: l, _, h => by have := h x (.head _); omega
 | n + 1, l, hn, h => by
  by_cases hm : n ∈ l
  ·have h1 := List.length_erase_of_mem hm
   have h2 := nodup_lt n (l.erase n) (hn.erase n) (fun x hx => by
    have h3 := (hn.mem_erase_iff).1 hx
    have := h x h3.2
    have := h3.1
    omega)
   omega
  ·have := nodup_lt n l hn (fun x hx => by
    have := h x hx
    have : x ≠ n := fun e => hm (e ▸ hx)
    omega)
   omega
theorem count_len {a : Mod.Sk} {s : Nat} (hs : s < 3) : (a.logs s).length ≤ a.count := by
 obtain rfl | rfl | rfl : s = 0 ∨ s = 1 ∨ s = 2 := by omega
 all_goals
  unfold Mod.Sk.count
  omega
theorem ixFrom_no {st q : Nat} : ∀ {l : List (Nat × Nat × ByteArray)} {i : Nat}, Mod.ixFrom st q i l = none → ∀ h ∈ l, ¬ (h.1 = st ∧ h.2.1 = q)
 | [], _, _, h, hh => by cases hh
 | x :: l, i, hn, h, hh => by
  rw [Mod.ixFrom] at hn
  split at hn
  ·cases hn
  ·rename_i hx
   cases hh with
   | head => exact hx
   | tail _ hh => exact ixFrom_no hn h hh
theorem skGood_new : SkGood { epoch := 0, logs := fun _ => [], held := [] } := ⟨by simp, by simp, by simp [Mod.Sk.count], by simp⟩
theorem skGood_hold {a : Mod.Sk} (G : SkGood a) (s q : Nat) (b : ByteArray) (hs : s < 3) : SkGood (holdIt a s q b) := by
 unfold holdIt
 split
 ·rename_i h
  obtain ⟨h1, h2, h3⟩ := h
  refine ⟨fun x hx => ?_, ?_, G.room, G.ep⟩
  ·simp only [List.mem_append, List.mem_singleton] at hx
   rcases hx with hx | rfl
   ·exact G.held x hx
   ·exact ⟨hs, by show (a.logs s).length + 1 ≤ q; omega, h2⟩
  ·simp only [List.map_append, List.map_cons, List.map_nil]
   rw [List.nodup_append]
   refine ⟨G.once, by simp, ?_⟩
   rintro x hx y hy rfl
   simp only [List.mem_singleton] at hy
   obtain ⟨h, hh, rfl⟩ := List.mem_map.1 hx
   exact ixFrom_no h3 h hh ⟨congrArg Prod.fst hy, congrArg Prod.snd hy⟩
 ·exact G
theorem skGood_take {a : Mod.Sk} (G : SkGood a) (s : Nat) (got : List ByteArray) (hs : s < 3) (hr : a.count + got.length ≤ 120) : SkGood (takeIt a s got) := by
 have hlog : ∀ t, ((takeIt a s got).logs t).length = if t = s then (a.logs s).length + got.length else (a.logs t).length := by
  intro t
  show ((grown a s got).logs t).length = _
  unfold grown
  by_cases h : t = s
  ·simp [h]
  ·simp [h]
 refine ⟨fun h hh => ?_, ?_, ?_, G.ep⟩
 ·have hh' : h ∈ a.held.filter (Mod.keeps s (a.logs s ++ got).length) := hh
  obtain ⟨h1, h2⟩ := List.mem_filter.1 hh'
  obtain ⟨g1, g2, g3⟩ := G.held h h1
  rw [hlog]
  refine ⟨g1, ?_⟩
  by_cases e : h.1 = s
  ·rw [if_pos e]
   unfold Mod.keeps at h2
   rw [e] at g2 g3
   simp [e] at h2
   omega
  ·rw [if_neg e]
   exact ⟨g2, g3⟩
 ·exact G.once.sublist ((List.filter_sublist (p := Mod.keeps s (a.logs s ++ got).length) (l := a.held)).map _)
 ·have : (takeIt a s got).count = (grown a s got).count := rfl
  rw [this, grown_count a s hs got]
  exact hr
theorem skGood_hello {a : Mod.Sk} (G : SkGood a) (e : Nat) (he : e ≤ 2147483647) : SkGood (helloIt a e) := by
 unfold helloIt helloHeld
 split
 ·exact ⟨by simp, by simp, G.room, he⟩
 ·exact ⟨G.held, G.once, G.room, he⟩
theorem skGood_reply {a : Mod.Sk} (G : SkGood a) (k e : Int) (s q : Nat) (b : ByteArray) (hs : s < 3) (he : e ≤ 2147483647) : SkGood (skReply a k e s q b).1 := by
 unfold skReply
 split
 ·split
  ·exact G
  ·exact skGood_hello G _ (by omega)
 ·split
  ·split
   ·show SkGood (skAfter a k e s q b)
    unfold skAfter
    split
    ·exact skGood_hold G s q b hs
    ·exact skGood_take G s _ hs (commits_room k e s q b G.room)
   ·exact G
  ·exact G
end Go.Proofs.YtamafdcnbcoegaaGreat
namespace Go.Proofs.YtamafdcnbcoegaaGreat
open Go.RowKit
theorem says_le (a : Mod.Ag) (k e st q : Int) (b : ByteArray) (s : Nat) : a.says k e st q b s ≤ (a.fl s).kept.length := by
 unfold Mod.Ag.says
 split
 ·omega
 ·split
  ·unfold Mod.Ag.gone; omega
  ·split
   ·unfold Mod.Ag.gone; omega
   ·omega
end Go.Proofs.YtamafdcnbcoegaaGreat
namespace Go.Proofs.YtamafdcnbcoegaaGreat
open Go.RowKit
theorem bit0 : ∀ n : Fin 256, (bits BinOp.and IntKind.u8 ((n.val : Nat) : Int) 1 == 1) = decide (n.val % 2 = 1) := by decide +kernel
theorem bit1 : ∀ n : Fin 256, (bits BinOp.and IntKind.u8 (((n.val : Nat) : Int) / 2) 1 == 1) = decide (n.val / 2 % 2 = 1) := by decide +kernel
theorem bit2 : ∀ n : Fin 256, (bits BinOp.and IntKind.u8 (((n.val : Nat) : Int) / 4) 1 == 1) = decide (n.val / 4 % 2 = 1) := by decide +kernel
theorem bitsOf_len (q c : Nat) : ∀ i, (Mod.bitsOf q c i).length ≤ i
 | 0 => by simp [Mod.bitsOf]
 | i + 1 => by
  have := bitsOf_len q c i
  simp only [Mod.bitsOf, List.length_append]
  split <;> simp <;> omega
theorem numCells_snoc (l : List Nat) (n : Nat) : numCells (l ++ [n]) = numCells l ++ [.int .i64 (n : Int)] := by simp [numCells]
end Go.Proofs.YtamafdcnbcoegaaGreat
namespace Go.Proofs.YtamafdcnbcoegaaGreat
open Go.RowKit
theorem proper_2 {e st q : Int} {b : ByteArray} (h : Wire.proper 2 e st q b = true) : b.size = 12 := by
 simp [Wire.proper, Wire.welBody] at h
 omega
theorem proper_4 {e st q : Int} {b : ByteArray} (h : Wire.proper 4 e st q b = true) : b.size = 1 ∧ (0 ≤ st ∧ st < 3) ∧ 0 ≤ q ∧ q ≤ 2147483647 := by
 simp [Wire.proper, Wire.isStr, Wire.isNum, Wire.ackBody] at h
 omega
end Go.Proofs.YtamafdcnbcoegaaGreat
namespace Go.Proofs.YtamafdcnbcoegaaGreat
open Go.RowKit
theorem sendTo_len (e s : Nat) (f : Mod.Flow) (t : Nat) : ∀ i, (Mod.sendTo e s f t i).1.length = f.kept.length
 | 0 => rfl
 | i + 1 => by
  have := sendTo_len e s f t i
  simp only [Mod.sendTo]
  split
  ·exact this
  ·split
   ·simp [this]
   ·exact this
theorem sendTo_get (e s : Nat) (f : Mod.Flow) (t : Nat) : ∀ i j, i ≤ j → (Mod.sendTo e s f t i).1[j]? = f.kept[j]?
 | 0, _, _ => rfl
 | i + 1, j, h => by
  have := sendTo_get e s f t i j (by omega)
  simp only [Mod.sendTo]
  split
  ·exact this
  ·split
   ·simp only
    rw [List.getElem?_set_ne (by omega)]
    exact this
   ·exact this
theorem sendTo_skip {e s : Nat} {f : Mod.Flow} {t i : Nat} (h : i < f.kept.length) (hd : Mod.due f t i f.kept[i].2 = false) : Mod.sendTo e s f t (i + 1) = Mod.sendTo e s f t i := by
 simp only [Mod.sendTo, List.getElem?_eq_getElem h, hd]
 rfl
theorem sendTo_send {e s : Nat} {f : Mod.Flow} {t i : Nat} (h : i < f.kept.length) (hd : Mod.due f t i f.kept[i].2 = true) :
  Mod.sendTo e s f t (i + 1) = ((Mod.sendTo e s f t i).1.set i (f.kept[i].1, t), (Mod.sendTo e s f t i).2 ++ [Wire.bytes 3 e s (f.base + 1 + i : Nat) f.kept[i].1.data.toList]) := by
 simp only [Mod.sendTo, List.getElem?_eq_getElem h, hd]
 rfl
theorem sendTo_over {e s : Nat} {f : Mod.Flow} {t i : Nat} (h : f.kept.length ≤ i) : Mod.sendTo e s f t (i + 1) = Mod.sendTo e s f t i := by
 simp only [Mod.sendTo, List.getElem?_eq_none_iff.2 h]
theorem sendTo_four {e s : Nat} {f : Mod.Flow} {t i : Nat} (h : f.kept.length ≤ i ∨ i = 4) (h4 : i ≤ 4) : Mod.sendTo e s f t 4 = Mod.sendTo e s f t i := by
 rcases h with h | h
 ·obtain rfl | rfl | rfl | rfl | rfl : i = 0 ∨ i = 1 ∨ i = 2 ∨ i = 3 ∨ i = 4 := by omega
  ·rw [sendTo_over (i := 3) (by omega), sendTo_over (i := 2) (by omega), sendTo_over (i := 1) (by omega), sendTo_over (i := 0) (by omega)]
  ·rw [sendTo_over (i := 3) (by omega), sendTo_over (i := 2) (by omega), sendTo_over (i := 1) (by omega)]
  ·rw [sendTo_over (i := 3) (by omega), sendTo_over (i := 2) (by omega)]
  ·rw [sendTo_over (i := 3) (by omega)]
  ·rfl
 ·rw [h]
end Go.Proofs.YtamafdcnbcoegaaGreat
namespace Go.Proofs.YtamafdcnbcoegaaGreat
open Go.RowKit
def ListAt (w : World) (v : Value) (xs : List Value) : Prop :=
 ∃ ad cap, v = .slice ad xs.length cap ∧ xs.length ≤ cap ∧ cap ≤ maxLen ∧ (0 < xs.length → ∃ g o, ad = some ⟨g, o, none⟩ ∧ g < w.heap.size ∧ ∀ i, i < xs.length → w.cell? ⟨g, o + i, none⟩ = xs[i]?)
theorem listAt_own {B : Nat} {w : World} {e : TypeId} {v : Value} {n : Nat} {xs : List Value} (h : w.ownsRow B e 1 v n xs) : ListAt w v xs := by
 have hn : xs.length = n := by have := h.1; omega
 subst hn
 have h0 := h
 obtain ⟨h1, h2⟩ := h
 rcases h2 with ⟨e1, h2⟩ | ⟨g, cap, cur, e1, hB, hh, hc1, hc2, _, ht⟩
 ·exact ⟨none, 0, by rw [h2]; exact e1, by omega, by unfold maxLen; omega, fun h => by omega⟩
 ·subst e1
  exact ⟨_, cap, rfl, hc1, hc2, fun _ => ⟨g, 0, rfl, lt_of_block hh, fun i hi => by rw [Nat.zero_add]; exact World.ownsRow.cellAt h0 i (by omega)⟩⟩
end Go.Proofs.YtamafdcnbcoegaaGreat
namespace Go.Proofs.YtamafdcnbcoegaaGreat
open Go.RowKit
def Done (fs : List Value) (i b : Nat) : Prop := ∃ j, j < i ∧ ∃ v, fs[j]? = some v ∧ v.ownBlock = some b
end Go.Proofs.YtamafdcnbcoegaaGreat
namespace Go.Proofs.YtamafdcnbcoegaaGreat
open Go.RowKit
def lateB (ops : Array Oper) (c : Nat) : Bool := (List.range ops.size).all fun k => decide (k ≤ c) || (List.range ops.size).any fun j => decide (c ≤ j) && depB ops k j
def doneTo (c n : Nat) : Array Bool := ((List.range n).map fun k => decide (k ≤ c)).toArray
theorem countP_range_le (i : Nat) : ∀ n, i ≤ n → (List.range n).countP (fun k => decide (i ≤ k)) = n - i
 | 0, h => by simp
 | n + 1, h => by
  rw [List.range_succ, List.countP_append, List.countP_singleton]
  by_cases hin : i ≤ n
  ·rw [countP_range_le i n hin]; simp [hin]; omega
  ·have : i = n + 1 := by omega
   subst this
   have h0 : (List.range n).countP (fun k => decide (n + 1 ≤ k)) = 0 := by
    rw [List.countP_eq_zero]
    intro k hk
    have := List.mem_range.1 hk
    simp; omega
   rw [h0]; simp
section
variable {P : Program} {ops : Array Oper} {Q : Exit → Act → World → Prop}
theorem mono_any_cut {a0 : Act} {w0 : World} (Φ : Nat → Value → World → Prop) (hok : monoOk ops a0.tmps.size = true) (last : Nat) (hn : last < ops.size) (hcov : coverB ops last = true) (hlate : lateB ops last = true)
  (hst : ∀ i v w w', Φ i v w → Below w.heap.size w w' → Φ i v w')
  (hop : ∀ i o, i < last → ops[i]? = some o → ∀ a w, Below w0.heap.size w0 w → GoodAct ops Φ a0 i o a w →
   if Region.wanted o (yielded ops a.tmps) = true then o.wp P a w (fun a' w' => ∃ v, a' = a.put o.dst v ∧ Below w.heap.size w w' ∧ Φ i v w') Q else Φ i undef w)
  (hend : ∀ a w, Below w0.heap.size w0 w → (∀ i o d, i < last → ops[i]? = some o → o.dst = some d → Φ i (a.tmps.getD d undef) w) → (∀ t, (∀ j, wr ops t = some j → last ≤ j) → a.tmps.getD t undef = a0.tmps.getD t undef) → a.defers = a0.defers → a.tmps.size = a0.tmps.size → wpOp P ops Q last (fun a' w' => ∀ fuel, ops.size ≤ fuel + last + 1 → wpAny P .any ops Q fuel (doneTo last ops.size) a' w') a w) :
  ∀ (fuel : Nat) (L : Array Bool) (a : Act) (w : World), MonoInv ops Φ a0 w0 L a w → (∀ k, last ≤ k → L.getD k false = false) → (List.range ops.size).countP (fun i => !L.getD i false) ≤ fuel → wpAny P .any ops Q fuel L a w := by
 have hrdy : ∀ (L : Array Bool) (a : Act) (w : World), MonoInv ops Φ a0 w0 L a w → L.getD last false = false → Region.ready .any ops L = [] → False := by
  intro L a w hI hlast hr
  have hall : ∀ n i, i < n → i < ops.size → L.getD i false = true := by
   intro n
   induction n with
   | zero => intro i h; omega
   | succ n ih =>
    intro i h hi
    by_cases hin : i < n
    ·exact ih i hin hi
    ·have e : i = n := by omega
     subst e
     cases hL : L.getD i false
     ·exfalso
      have ho : ops[i]? = some ops[i] := Array.getElem?_eq_getElem hi
      obtain ⟨_, _, h3⟩ := monoOk_spec hok ho
      have : i ∈ Region.ready .any ops L := mem_ready.2 ⟨by
       have hs : i < L.size := by rw [hI.size]; exact hi
       rw [Array.getD_eq_getD_getElem?, Array.getElem?_eq_getElem hs] at hL ⊢
       exact hL, ops[i], ho, fun e he hb => by
       have hd : depB ops i e.on = true := by
        unfold depB
        rw [ho]
        exact Array.any_eq_true'.2 ⟨e, he, by simp [hb]⟩
       have hlt := h3 _ hd
       exact ih e.on hlt (by omega)⟩
      rw [hr] at this
      cases this
     ·rfl
  have := hall ops.size last (by omega) (by omega)
  rw [hlast] at this; cases this
 have hcl : ∀ (L : Array Bool) (a : Act) (w : World), MonoInv ops Φ a0 w0 L a w → (∀ j, depB ops last j = true → L.getD j false = true) → ∀ n i, last ≤ i + n → i < last → L.getD i false = true := by
  intro L a w hI hdl n
  induction n with
  | zero => intro i h hi; omega
  | succ n ih =>
   intro i h hi
   unfold coverB at hcov
   have h1 := List.all_eq_true.1 hcov i (List.mem_range.2 hi)
   obtain ⟨k, hk, hd⟩ := List.any_eq_true.1 h1
   have hk' : k < last + 1 := List.mem_range.1 hk
   by_cases hkl : k = last
   ·subst hkl; exact hdl i hd
   ·have hlt : i < k := by
     unfold depB at hd
     cases hok' : ops[k]? with
     | none => rw [hok'] at hd; cases hd
     | some ok =>
      obtain ⟨_, _, h3⟩ := monoOk_spec hok hok'
      exact h3 i (by unfold depB; exact hd)
    exact hI.closed k (ih k (by omega) (by omega)) i hd
 have hwait : ∀ k, last < k → k < ops.size → ∃ j, last ≤ j ∧ depB ops k j = true := by
  intro k h1 h2
  unfold lateB at hlate
  have := List.all_eq_true.1 hlate k (List.mem_range.2 h2)
  simp only [Bool.or_eq_true, decide_eq_true_eq] at this
  rcases this with h | h
  ·omega
  ·obtain ⟨j, hj, hd⟩ := List.any_eq_true.1 h
   simp only [Bool.and_eq_true, decide_eq_true_eq] at hd
   exact ⟨j, hd.1, hd.2⟩
 intro fuel
 induction fuel with
 | zero =>
  intro L a w hI hun hc
  have hlast := hun last (Nat.le_refl _)
  have : 0 < (List.range ops.size).countP (fun i => !L.getD i false) := List.countP_pos_iff.2 ⟨last, List.mem_range.2 (by omega), by simp only [hlast]; rfl⟩
  omega
 | succ fuel ih =>
  intro L a w hI hun hc
  have hlast := hun last (Nat.le_refl _)
  refine ⟨fun h => (hrdy L a w hI hlast h).elim, fun i hi => ?_⟩
  obtain ⟨h0, o, ho, hdeps⟩ := mem_ready.1 hi
  have hlt : i < ops.size := (Array.getElem?_eq_some_iff.1 ho).1
  have hls : i < L.size := by rw [hI.size]; exact hlt
  have h0' : L.getD i false = false := by
   rw [Array.getD_eq_getD_getElem?, Array.getElem?_eq_getElem hls] at h0 ⊢
   exact h0
  obtain ⟨hd, hl, hlex⟩ := monoOk_spec hok ho
  have hdl : ∀ j, depB ops i j = true → L.getD j false = true := by
   intro j hj
   unfold depB at hj
   rw [ho] at hj
   obtain ⟨e, he, hb⟩ := Array.any_eq_true'.1 hj
   simp only [Bool.and_eq_true, beq_iff_eq] at hb
   rw [← hb.2]; exact hdeps e he hb.1
  by_cases hil : i = last
  ·subst hil
   have hall := hcl L a w hI hdl i
   refine wpOp_mono ?_ (hend a w hI.ext (fun j o' d hj ho' hd' => hI.vals j o' d ho' hd' (hall j (by omega) hj)) (fun t ht => hI.rest t (fun j hj => hun j (ht j hj))) hI.defers hI.tsize)
   intro a' w' hq
   have hL : L.setIfInBounds i true = doneTo i ops.size := by
    apply Array.ext
    ·simp [doneTo, hI.size]
    ·intro k h1 h2
     have hk : k < ops.size := by simpa [doneTo] using h2
     simp only [doneTo, List.getElem_toArray, List.getElem_map, List.getElem_range]
     have hks : k < L.size := by rw [hI.size]; exact hk
     rw [Array.getElem_setIfInBounds (by exact hks)]
     by_cases hki : i = k
     ·simp [hki]
     ·rw [if_neg hki]
      have hg : L.getD k false = L[k] := by rw [Array.getD_eq_getD_getElem?, Array.getElem?_eq_getElem hks]; rfl
      by_cases hlt : k < i
      ·rw [← hg, hall k (by omega) hlt]
       simp; omega
      ·rw [← hg, hun k (by omega)]
       simp; omega
   rw [hL]
   refine hq fuel ?_
   have hcount : (List.range ops.size).countP (fun k => !L.getD k false) = ops.size - i := by
    have : (List.range ops.size).countP (fun k => !L.getD k false) = (List.range ops.size).countP (fun k => decide (i ≤ k)) := by
     apply List.countP_congr
     intro k hk
     have hk' := List.mem_range.1 hk
     by_cases hlt : k < i
     ·rw [hall k (by omega) hlt]; simp; omega
     ·rw [hun k (by omega)]; simp; omega
    rw [this]
    exact countP_range_le i ops.size (by omega)
   omega
  have hil2 : i < last := by
   rcases Nat.lt_or_ge last i with h | h
   ·obtain ⟨j, hj, hd'⟩ := hwait i h hlt
    have := hdl j hd'
    rw [hun j hj] at this
    cases this
   ·omega
  have hlt' : i < last := by omega
  have hgood : GoodAct ops Φ a0 i o a w := by
   intro t ht
   cases hw : wr ops t with
   | none => exact hI.rest t (fun j hj => by rw [hw] at hj; cases hj)
   | some j =>
    simp only []
    have hj := List.find?_some hw
    simp only [beq_iff_eq] at hj
    split
    ·rename_i hdep
     cases hoj : ops[j]? with
     | none => rw [hoj] at hj; cases hj
     | some oj =>
      rw [hoj] at hj
      exact hI.vals j oj t hoj hj (hdl j hdep)
    ·rename_i hdep
     refine hI.rest t (fun j' hj' => ?_)
     rw [hw] at hj'
     cases hj'
     rcases hl t ht j hw with h | h
     ·exact absurd h hdep
     ·cases hLj : L.getD j false
      ·rfl
      ·have := hI.closed j hLj i h
       rw [h0'] at this; cases this
  have hstep : ∀ v w', Below w.heap.size w w' → Φ i v w' → MonoInv ops Φ a0 w0 (L.setIfInBounds i true) (a.put o.dst v) w' := by
   intro v w' hb hv
   have hget : ∀ k, (L.setIfInBounds i true).getD k false = true ↔ (k = i ∨ L.getD k false = true) := by
    intro k
    by_cases hk : k = i
    ·subst hk
     simp [Array.getD_eq_getD_getElem?, hls]
    ·rw [getD_set_ne false (fun e => hk e.symm)]
     simp [hk]
   have hput : ∀ t, (a.put o.dst v).tmps.getD t undef = if o.dst = some t then v else a.tmps.getD t undef := by
    intro t
    cases hdst : o.dst with
    | none => simp [Act.put]
    | some d =>
     simp only [Act.put, Option.some.injEq]
     have hdsz : d < a.tmps.size := by rw [hI.tsize]; exact (hd d hdst).1
     by_cases h : d = t
     ·subst h
      simp [Array.getD_eq_getD_getElem?, hdsz]
     ·simp [Array.getD_eq_getD_getElem?, h]
   refine ⟨by simp [hI.size], hI.ext.trans (hb.mono hI.ext.size), ?_, ?_, ?_, ?_, ?_⟩
   ·intro k hk j hj
    rw [hget] at hk ⊢
    rcases hk with rfl | hk
    ·exact .inr (hdl j hj)
    ·exact .inr (hI.closed k hk j hj)
   ·intro k ok d hok' hdk hk
    rw [hget] at hk
    rw [hput]
    rcases hk with rfl | hk
    ·rw [ho] at hok'; cases hok'
     rw [if_pos hdk]; exact hv
    ·have hne : o.dst ≠ some d := by
      intro e
      have h1 := (hd d e).2
      have h2 := ((monoOk_spec hok hok').1 d hdk).2
      rw [h1] at h2
      cases h2
      rw [h0'] at hk; cases hk
     rw [if_neg hne]
     exact hst k _ _ _ (hI.vals k ok d hok' hdk hk) hb
   ·intro t ht
    rw [hput]
    have hne : o.dst ≠ some t := by
     intro e
     have := ht i (hd t e).2
     have h2 := (hget i).2 (.inl rfl)
     rw [this] at h2; cases h2
    rw [if_neg hne]
    refine hI.rest t (fun j hj => ?_)
    cases hLj : L.getD j false
    ·rfl
    ·have := ht j hj
     rw [(hget j).2 (.inr hLj)] at this; cases this
   ·cases o.dst <;> exact hI.defers
   ·rw [← hI.tsize]; cases o.dst <;> simp [Act.put]
  have hcount : (List.range ops.size).countP (fun k => !(L.setIfInBounds i true).getD k false) ≤ fuel := by
   have := countP_lt (l := List.range ops.size) (p := fun k => !L.getD k false) (q := fun k => !(L.setIfInBounds i true).getD k false)
    (fun k _ hk => by
     by_cases hki : k = i
     ·subst hki; simp [h0']
     ·rw [getD_set_ne false (fun e => hki e.symm)] at hk; exact hk)
    ⟨i, List.mem_range.2 hlt, by simp [h0'], by simp [Array.getD_eq_getD_getElem?, hls]⟩
   omega
  have hun' : ∀ k, last ≤ k → (L.setIfInBounds i true).getD k false = false := fun k hk => by rw [getD_set_ne false (by omega)]; exact hun k hk
  have hg := hop i o hlt' ho a w hI.ext hgood
  unfold wpOp
  rw [ho]
  simp only []
  split at hg
  ·rename_i hw
   rw [if_pos hw]
   refine .inl (Oper.wp_mono ?_ hg)
   rintro a' w' ⟨v, rfl, hb, hv⟩
   exact ih _ _ _ (hstep v w' hb hv) hun' hcount
  ·rename_i hw
   rw [if_neg hw]
   exact ih _ _ _ (hstep undef w (Below.refl _ _) hg) hun' hcount
theorem wp_region_cut {id : Nat} {a0 : Act} {w0 : World} (hm : P.follows .mixedOrders = true) (L : List (Value → World → Prop)) (plan : List (List (Tmp × Option Nat))) (D : List (Option Tmp)) (M : List Bool) (last : Nat) (ol : Oper) (hol : ops[last]? = some ol) 
  (hn : last < ops.size) (hcov : coverB ops last = true) (hlate : lateB ops last = true)
  (hok : monoOk ops a0.tmps.size = true) (hplan : planOf ops = plan) (hD : dstsOf ops = D) (hM : maskOf ops a0.tmps.size = M) (hst : AllStable L) (hop : MonoOps P ops Q L a0 w0 (ops.toList.take last) plan L)
  (hwant : ∀ f w, AllWords f w (D.take last) L → Region.wanted ol (yielded ops (mergeT M a0.tmps.toList 0 f).toArray) = true)
  (hend : ∀ f w, Below w0.heap.size w0 w → AllWords f w (D.take last) L → ol.wp P { tmps := (mergeT M a0.tmps.toList 0 f).toArray, defers := a0.defers } w (fun a' w' => ∀ fuel, ops.size ≤ fuel + last + 1 → wpAny P .any ops Q fuel (doneTo last ops.size) a' w') Q) :
  (Code.region id ops true).wp P Q a0 w0 := by
 refine wp_region_any hm (mono_any_cut (w0 := w0) (fun i => L.getD i (fun _ _ => True)) hok last hn hcov hlate (fun i => allStable_get hst i) ?_ ?_ ops.size _ a0 _ ⟨by simp, (Below.refl _ _).drew, ?_, ?_, fun _ _ => rfl, rfl, rfl⟩ ?_ ?_)
 ·intro i o hil ho a w hb hg
  have hlt : i < ops.size := (Array.getElem?_eq_some_iff.1 ho).1
  have hpl : plan[i]? = some ((o.looksAt ops).map fun t => (t, match wr ops t with
     | some j => if depB ops i j = true then some j else none
     | none => none)) := by
   rw [← hplan]
   unfold planOf
   rw [List.getElem?_map, List.getElem?_range hlt, Option.map_some, ho]
   rfl
  exact monoOps_get hop i o _ (by rw [List.getElem?_take, if_pos hil]; simpa using ho) hpl a w hb (planFacts_of rfl (o := o) _ hg)
 ·intro a w hb hv hr hd hs
  have hwd : AllWords (fun t => a.tmps.getD t undef) w (D.take last) L := by
   rw [← hD, dstsOf, ← List.map_take]
   exact allWords_of (fun i o d ho hdd => by
    rw [List.getElem?_take] at ho
    split at ho
    ·rename_i hil
     exact hv i o d hil (by simpa using ho) hdd
    ·cases ho)
  have h := hend (fun t => a.tmps.getD t undef) w hb hwd
  have hw := hwant (fun t => a.tmps.getD t undef) w hwd
  have e : mergeT M a0.tmps.toList 0 (fun t => a.tmps.getD t undef) = a.tmps.toList := by
   refine mergeT_eq _ _ _ _ _ (by rw [← hM]; simp [maskOf]) (by simpa using hs) ?_ ?_
   ·intro j hj _
    simp [Array.getD_eq_getD_getElem?, List.getD_eq_getElem?_getD]
   ·intro j hj hb
    rw [← hM] at hb
    have hj' : j < a0.tmps.size := by rw [← hs]; simpa using hj
    have hw : wr ops j = none := by
     unfold maskOf at hb
     simp [List.getD_eq_getElem?_getD, List.getElem?_map, List.getElem?_range hj'] at hb
     exact hb
    have := hr j (fun k hk => by rw [hw] at hk; cases hk)
    simpa [Array.getD_eq_getD_getElem?, List.getD_eq_getElem?_getD] using this
  rw [e, ← hd] at h
  unfold wpOp
  rw [hol]
  simp only []
  rw [e] at hw
  rw [if_pos (by simpa using hw)]
  exact .inl h
 ·intro k hk
  simp [Array.getD_eq_getD_getElem?] at hk
  rcases h : (Array.replicate ops.size false)[k]? with _ | b <;> simp [h] at hk
  subst hk
  obtain ⟨h1, h2⟩ := Array.getElem?_eq_some_iff.1 h
  simp at h2
 ·intro i o d ho hd hk
  exfalso
  simp [Array.getD_eq_getD_getElem?] at hk
  rcases h : (Array.replicate ops.size false)[i]? with _ | b <;> simp [h] at hk
  subst hk
  obtain ⟨h1, h2⟩ := Array.getElem?_eq_some_iff.1 h
  simp at h2
 ·intro k _
  rw [Array.getD_eq_getD_getElem?]
  by_cases hk : k < ops.size
  ·simp [hk]
  ·simp [hk]
 ·exact Nat.le_trans List.countP_le_length (by simp)
theorem wpAny_one {L : Array Bool} {i f : Nat} {o : Oper} {a : Act} {w : World} (hr : Region.ready .any ops L = [i]) (ho : ops[i]? = some o) (hw : Region.wanted o (yielded ops a.tmps) = true)
  (h : o.wp P a w (fun a' w' => wpAny P .any ops Q f (L.setIfInBounds i true) a' w') Q) : wpAny P .any ops Q (f + 1) L a w := by
 refine ⟨fun h0 => (by rw [hr] at h0; cases h0), fun j hj => ?_⟩
 rw [hr, List.mem_singleton] at hj
 subst hj
 unfold wpOp
 rw [ho]
 simp only []
 rw [if_pos (by simpa using hw)]
 exact .inl h
theorem wpAny_end {L : Array Bool} {f : Nat} {a : Act} {w : World} (hr : Region.ready .any ops L = []) (h : Q .normal a w) : wpAny P .any ops Q f L a w := wpAny_done hr h _
end
end Go.Proofs.YtamafdcnbcoegaaGreat
namespace Go.Proofs.YtamafdcnbcoegaaGreat
open Go.RowKit
def skSays (a : Mod.Sk) (l : List UInt8) : Int × Mod.Sk × List ByteArray :=
 if Wire.reads l = true then (0, skReply a (Wire.kindOf l) (Wire.epochOf l) (Wire.streamOf l).toNat (Wire.seqOf l).toNat (Wire.bodyOf l)) else (1, a, [])
structure FramesOut (B : Nat) (w : World) (lv : Value) (fs : List Value) (Fl : List ByteArray) (U : Nat → Prop) : Prop where
 len : fs.length = Fl.length
 row : w.ownsRow B 44 1 lv fs.length fs
 each : ∀ (j : Nat) (v : Value), fs[j]? = some v → w.ownsRow B 5 1 v ((Fl.map fun b => b.data.toList).getD j []).length (bv ((Fl.map fun b => b.data.toList).getD j []))
 apart : ∀ (i j : Nat) (u v : Value), fs[i]? = some u → fs[j]? = some v → i ≠ j → ∀ g, u.ownBlock = some g → v.ownBlock ≠ some g
 clear : ∀ k, (lv.ownBlock = some k ∨ Done fs fs.length k) → ¬ U k
structure SinkC where
 At : World → Nat → Mod.Sk → (Nat → Prop) → Prop
 lt : ∀ {w v a U}, At w v a U → ∀ k, U k → k < w.heap.size
 far : ∀ {w w' v a U E}, At w v a U → Far E w w' → (∀ k, U k → ¬ E k) → At w' v a U
 deliver : ∀ {w v a U} (bs : Value) (l : List UInt8), At w v a U → SkGood a → BytesAt w bs l → Calls Tryz.prog 27 #[ptrTo v, bs] w fun r w' =>
  ∃ lv fs U', r = .returned (.tuple #[lv, .int .i64 (skSays a l).1]) ∧ FramesOut w.heap.size w' lv fs (skSays a l).2.2 U' ∧ At w' v (skSays a l).2.1 U' ∧ Far U w w' ∧ ∀ k, U' k → U k ∨ w.heap.size ≤ k
 epoch : ∀ {w v a U}, At w v a U → Calls Tryz.prog 42 #[ptrTo v] w fun r w' => r = .returned (.int .i64 a.epoch) ∧ Below w.heap.size w w'
 log : ∀ {w v a U} (i : Int), At w v a U → SkGood a → Calls Tryz.prog 32 #[ptrTo v, .int .i64 i] w fun r w' =>
  ∃ lv, r = .returned lv ∧ w'.ownsRow w.heap.size 9 1 lv (if 0 ≤ i ∧ i < 3 then a.logs i.toNat else []).length (strs (if 0 ≤ i ∧ i < 3 then a.logs i.toNat else [])) ∧ Below w.heap.size w w'
 opened : ∀ {w} (bs : Value), BytesAt w bs (List.replicate 7808 0) → Calls Tryz.prog 38 #[bs] w fun r w' =>
  ∃ v U, r = .returned (.tuple #[ptrTo v, .int .i64 0]) ∧ At w' v { epoch := 0, logs := fun _ => [], held := [] } U ∧ Below w.heap.size w w' ∧ ∀ k, U k → w.heap.size ≤ k
end Go.Proofs.YtamafdcnbcoegaaGreat
namespace Go.Proofs.YtamafdcnbcoegaaGreat
open Go.RowKit
set_option maxHeartbeats 400000 in
theorem firstHeld_any (q : Nat) (hq : q ≤ 1000000000000) (w : World) : Calls Tryz.prog 202 #[.int .i64 q] w fun e w' => e = .returned (.int .i64 ((q : Int) + 2)) ∧ w' = w := by
 have hw : IntKind.i64.wrap ((q : Int) + 2) = (q : Int) + 2 := by rw [IntKind.wrap_i64]; omega
 go_enter Tryz.func202, Tryz.ntmps202
 go_wp2
 go_ret
 exact ⟨rfl, rfl⟩
theorem infoI : (Tryz.prog.info? 3).map (fun i => (i.zero, i.size, i.bytes)) = some (some (.int .i64 0), 1, 8) := by kernel_rfl
set_option maxRecDepth 100000 in
set_option maxHeartbeats 2000000 in
theorem frameHeld_any (q : Nat) (hq : q ≤ 1000000000) (b : ByteArray) (hp : 0 < b.size) (w : World) :
  Calls Tryz.prog 155 #[.int .i64 q, .string b] w fun e w' => ∃ v, e = .returned v ∧ w'.ownsRow w.heap.size 3 1 v (Mod.bitsOf q b[0].toNat 3).length (numCells (Mod.bitsOf q b[0].toNat 3)) ∧ Below w.heap.size w w' := by
 obtain ⟨i0, hi, hz0, hz1, hz2⟩ := info_parts2 infoI
 go_enter Tryz.func155, Tryz.ntmps155
 go_wp2
 go_loopw [5, 6, 7] (fun v5 _ i wr => ∃ j : Nat, j ≤ 3 ∧ i = .int .i64 j ∧ wr.ownsRow w.heap.size 3 1 v5 (Mod.bitsOf q b[0].toNat j).length (numCells (Mod.bitsOf q b[0].toNat j)) ∧ Below w.heap.size w wr) (fun _ _ i _ => 3 - (intOf i).toNat)
 case atStart => exact ⟨0, by omega, rfl, World.ownsRow_nil _ _ _ _, Below.refl _ _⟩
 case round =>
  obtain ⟨j, hj, rfl, ho, hb⟩ := hrel
  have HO := hide ho
  have HB := hide hb
  clear ho hb
  rcases (show j = 0 ∨ j = 1 ∨ j = 2 ∨ j = 3 by omega) with rfl | rfl | rfl | rfl
  ·have hlen := bitsOf_len q b[0].toNat 0
   have hbit : (bits BinOp.and IntKind.u8 (((b[0].toNat : Nat) : Int)) 1 == 1) = decide (b[0].toNat % 2 = 1) := bit0 ⟨b[0].toNat, b[0].toNat_lt⟩
   have hw : IntKind.i64.wrap ((q : Int) + 2 + 0) = (q : Int) + 2 + 0 := by rw [IntKind.wrap_i64]; omega
   have hq2 := fun y => firstHeld_any q (by omega) y
   by_cases hb1 : b[0].toNat % 2 = 1
   ·have HX := hide (show Mod.bitsOf q b[0].toNat (0 + 1) = Mod.bitsOf q b[0].toNat 0 ++ [q + 2 + 0] by simp [Mod.bitsOf, hb1])
    simp only [hb1, decide_true] at hbit
    generalize Mod.bitsOf q b[0].toNat 0 = bl at hlen HX HO
    have hsz := (unhide HB).size
    go_upto_region 7 with (first | (go_at_call 202; refine (hq2 _).mono ?_; rintro e y ⟨rfl, rfl⟩) | (at_builtin; refine wpList_append_own _ rfl (.tmp 16) (.tmp 21) 26 rfl w.heap.size 3 i0 (.int .i64 0) 1 8 Tryz.underlying26 hi hz0 hz1 hz2 rfl (by decide) u5 bl.length (numCells bl) rfl ((unhide HO).alloc _) ⟨y.heap.size, 0, none⟩ 1 1 [.int .i64 ((q : Int) + 2)] rfl rfl cells_new (by intro u hu; simp at hu; subst hu; rfl) (by unfold maxLen; omega) (by omega) (by simp; omega) ?_; intro v' w1 hown' hgrow _; have hb1' : Below w.heap.size w w1 := (unhide HB).trans (((Below.refl _ y).alloc hsz _).trans (below_grown_new (B := w.heap.size) hgrow (by simp; omega) (fun g hg => (World.ownsRow.lt (unhide HO) g hg).1))); replace hown' := hide hown'; replace hb1' := hide hb1'; clear hgrow))
    go_wp2
    go_roundw
    case rel => exact ⟨0 + 1, by omega, by go_num, by have := unhide hown'; rw [unhide HX, List.length_append, numCells_snoc]; simpa using this, unhide hb1'⟩
    case measure => simp [intOf]
   ·have HX := hide (show Mod.bitsOf q b[0].toNat (0 + 1) = Mod.bitsOf q b[0].toNat 0 by simp [Mod.bitsOf, hb1])
    simp only [hb1, decide_false] at hbit
    go_wp2
    exact ⟨⟨0 + 1, by omega, by go_num, by rw [unhide HX]; exact unhide HO, unhide HB⟩, by simp [intOf]⟩
  ·have hlen := bitsOf_len q b[0].toNat 1
   have hbit : (bits BinOp.and IntKind.u8 (((b[0].toNat : Nat) : Int) / 2) 1 == 1) = decide (b[0].toNat / 2 % 2 = 1) := bit1 ⟨b[0].toNat, b[0].toNat_lt⟩
   have hw : IntKind.i64.wrap ((q : Int) + 2 + 1) = (q : Int) + 2 + 1 := by rw [IntKind.wrap_i64]; omega
   have hq2 := fun y => firstHeld_any q (by omega) y
   by_cases hb1 : b[0].toNat / 2 % 2 = 1
   ·have HX := hide (show Mod.bitsOf q b[0].toNat (1 + 1) = Mod.bitsOf q b[0].toNat 1 ++ [q + 2 + 1] by simp [Mod.bitsOf, hb1])
    simp only [hb1, decide_true] at hbit
    generalize Mod.bitsOf q b[0].toNat 1 = bl at hlen HX HO
    have hsz := (unhide HB).size
    go_upto_region 7 with (first | (go_at_call 202; refine (hq2 _).mono ?_; rintro e y ⟨rfl, rfl⟩) | (at_builtin; refine wpList_append_own _ rfl (.tmp 16) (.tmp 21) 26 rfl w.heap.size 3 i0 (.int .i64 0) 1 8 Tryz.underlying26 hi hz0 hz1 hz2 rfl (by decide) u5 bl.length (numCells bl) rfl ((unhide HO).alloc _) ⟨y.heap.size, 0, none⟩ 1 1 [.int .i64 ((q : Int) + 2 + 1)] rfl rfl cells_new (by intro u hu; simp at hu; subst hu; rfl) (by unfold maxLen; omega) (by omega) (by simp; omega) ?_; intro v' w1 hown' hgrow _; have hb1' : Below w.heap.size w w1 := (unhide HB).trans (((Below.refl _ y).alloc hsz _).trans (below_grown_new (B := w.heap.size) hgrow (by simp; omega) (fun g hg => (World.ownsRow.lt (unhide HO) g hg).1))); replace hown' := hide hown'; replace hb1' := hide hb1'; clear hgrow))
    go_wp2
    go_roundw
    case rel => exact ⟨1 + 1, by omega, by go_num, by have := unhide hown'; rw [unhide HX, List.length_append, numCells_snoc]; simpa using this, unhide hb1'⟩
    case measure => simp [intOf]
   ·have HX := hide (show Mod.bitsOf q b[0].toNat (1 + 1) = Mod.bitsOf q b[0].toNat 1 by simp [Mod.bitsOf, hb1])
    simp only [hb1, decide_false] at hbit
    go_wp2
    exact ⟨⟨1 + 1, by omega, by go_num, by rw [unhide HX]; exact unhide HO, unhide HB⟩, by simp [intOf]⟩
  ·have hlen := bitsOf_len q b[0].toNat 2
   have hbit : (bits BinOp.and IntKind.u8 (((b[0].toNat : Nat) : Int) / 4) 1 == 1) = decide (b[0].toNat / 4 % 2 = 1) := bit2 ⟨b[0].toNat, b[0].toNat_lt⟩
   have hw : IntKind.i64.wrap ((q : Int) + 2 + 2) = (q : Int) + 2 + 2 := by rw [IntKind.wrap_i64]; omega
   have hq2 := fun y => firstHeld_any q (by omega) y
   by_cases hb1 : b[0].toNat / 4 % 2 = 1
   ·have HX := hide (show Mod.bitsOf q b[0].toNat (2 + 1) = Mod.bitsOf q b[0].toNat 2 ++ [q + 2 + 2] by simp [Mod.bitsOf, hb1])
    simp only [hb1, decide_true] at hbit
    generalize Mod.bitsOf q b[0].toNat 2 = bl at hlen HX HO
    have hsz := (unhide HB).size
    go_upto_region 7 with (first | (go_at_call 202; refine (hq2 _).mono ?_; rintro e y ⟨rfl, rfl⟩) | (at_builtin; refine wpList_append_own _ rfl (.tmp 16) (.tmp 21) 26 rfl w.heap.size 3 i0 (.int .i64 0) 1 8 Tryz.underlying26 hi hz0 hz1 hz2 rfl (by decide) u5 bl.length (numCells bl) rfl ((unhide HO).alloc _) ⟨y.heap.size, 0, none⟩ 1 1 [.int .i64 ((q : Int) + 2 + 2)] rfl rfl cells_new (by intro u hu; simp at hu; subst hu; rfl) (by unfold maxLen; omega) (by omega) (by simp; omega) ?_; intro v' w1 hown' hgrow _; have hb1' : Below w.heap.size w w1 := (unhide HB).trans (((Below.refl _ y).alloc hsz _).trans (below_grown_new (B := w.heap.size) hgrow (by simp; omega) (fun g hg => (World.ownsRow.lt (unhide HO) g hg).1))); replace hown' := hide hown'; replace hb1' := hide hb1'; clear hgrow))
    go_wp2
    go_roundw
    case rel => exact ⟨2 + 1, by omega, by go_num, by have := unhide hown'; rw [unhide HX, List.length_append, numCells_snoc]; simpa using this, unhide hb1'⟩
    case measure => simp [intOf]
   ·have HX := hide (show Mod.bitsOf q b[0].toNat (2 + 1) = Mod.bitsOf q b[0].toNat 2 by simp [Mod.bitsOf, hb1])
    simp only [hb1, decide_false] at hbit
    go_wp2
    exact ⟨⟨2 + 1, by omega, by go_num, by rw [unhide HX]; exact unhide HO, unhide HB⟩, by simp [intOf]⟩
  ·go_wp2
   go_ret
   exact ⟨_, rfl, unhide HO, unhide HB⟩
end Go.Proofs.YtamafdcnbcoegaaGreat
