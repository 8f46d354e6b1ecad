/-
  Walks of courierlaw's worlds: decoded.
-/
import Derived.Test.YtamafdcnbcoegaaGreatH12
namespace Go.Proofs.YtamafdcnbcoegaaGreat
open Go.RowKit

theorem set_last0 {w : World} {C : Array Value} {T : TypeId} {b : Nat} (i : Nat) (v : Value) (hb : b = w.heap.size) : (w.alloc (.cells C T)).setCell ⟨b, i, none⟩ v = w.alloc (.cells (C.setIfInBounds i v) T) := set_last i v 0 hb
theorem FrBox.kept {w w' : World} {b : Nat} {k e s q : Int} {body : ByteArray} (h : FrBox w b k e s q body) (hb : w'.heap[b]? = w.heap[b]?) : FrBox w' b k e s q body :=
  ⟨(World.cell?_of_block hb).trans h.c0, (World.cell?_of_block hb).trans h.c1, (World.cell?_of_block hb).trans h.c2, (World.cell?_of_block hb).trans h.c3, (World.cell?_of_block hb).trans h.c4⟩
/-- What decoded has laid: the step's box, and the bytes that it lends. -/
structure Lay (w x : World) (s : ByteArray) (g n8 : Nat) : Prop where
  bel : Below w.heap.size w x
  lt : w.heap.size < g
  glt : g < x.heap.size
  s3 : x.cell? ⟨w.heap.size, 3, none⟩ = some (.string s)
  own : x.ownsRow 0 5 1 (.slice (some ⟨g, 0, none⟩) n8 n8) n8 (bv (lentL s))
theorem Lay.below {w x y : World} {s : ByteArray} {g n8 : Nat} (h : Lay w x s g n8) (hb : Below x.heap.size x y) : Lay w y s g n8 :=
  ⟨h.bel.trans (hb.mono h.bel.size), h.lt, Nat.lt_of_lt_of_le h.glt hb.size, (hb.cell (p := ⟨w.heap.size, 3, none⟩) (by have := h.lt; have := h.glt; show w.heap.size < _; omega)).trans h.s3, ownsRow_keep h.own (fun k hk => hb.block k (World.ownsRow.lt h.own k hk).2)⟩
theorem Lay.bat {w x : World} {s : ByteArray} {g n8 : Nat} (h : Lay w x s g n8) (hn : s.size + 8 = n8) : BAt (fun _ _ => True) x (.slice (some ⟨g, 0, none⟩) n8 n8) (lentL s) :=
  bat_of_row (by have := h.own; rw [bv_length, lentL_length, hn]; exact this) (fun _ _ _ _ => trivial)
theorem Lay.at {w x : World} {s : ByteArray} {g n8 : Nat} (h : Lay w x s g n8) (hn : s.size + 8 = n8) (z : s.size ≤ 140737488353980) : BytesAt x (.slice (some ⟨g, 0, none⟩) s.size n8) s.data.toList := by
  have hl : s.data.toList.length = s.size := by simp
  refine ⟨_, n8, by rw [hl], by omega, by omega, fun _ => ⟨g, 0, rfl, fun i hi => ?_⟩⟩
  rw [hl] at hi
  have := World.ownsRow.cellAt h.own i (by omega)
  rw [Nat.zero_add, this, bv_get (by rw [lentL_length]; omega), lentL_lt hi]
  have h2 : i < s.data.toList.length := by omega
  rw [List.getD_eq_getElem?_getD, List.getElem?_eq_getElem h2]
  rfl
theorem lent_lay (s : ByteArray) (w : World) (O : Array Value) (e : TypeId) (n8 : Nat) (hn : s.size + 8 = n8) (z : s.size ≤ 140737488353980) (h3 : O[3]? = some (.string s)) :
    Calls Tryz.prog 77 #[.string s] (w.alloc (.cells O e)) fun r w' => ∃ g, r = .returned (.slice (some ⟨g, 0, none⟩) n8 n8) ∧ Lay w w' s g n8 := by
  subst hn
  refine (lent_any s _ (by omega)).mono ?_
  rintro r w' ⟨rfl, hb, hlt, ho⟩
  refine ⟨_, rfl, below_al hb (Nat.le_refl _), by simp, by simpa using hlt, (boxed_cells hb 3).trans h3, ho⟩

set_option maxRecDepth 100000 in
set_option maxHeartbeats 400000 in
theorem decoded_gen (B C : Nat) (w : World) (wb n : Nat) (kd nn i : Int) (s : ByteArray) (kp k e st q : Int) (b : ByteArray) (S : St B C w wb n) (z1 : n ≤ 10000000000000) (zs : s.size ≤ 140737488353980)
    (a1 a2 a3 a4 : Int) (a5 : ByteArray) (er : Int)
    (HD : ∀ v w, BytesAt w v s.data.toList → Calls Tryz.prog 25 #[v] w fun r w' => r = .returned (.tuple #[.agg #[.int .i64 a1, .int .i64 a2, .int .i64 a3, .int .i64 a4, .string a5], .int .i64 er]) ∧ Below w.heap.size w w')
    (HR : ∀ w, Calls Tryz.prog 78 #[.string s] w fun r w' => r = .returned (.tuple #[.agg #[.int .i64 a1, .int .i64 a2, .int .i64 a3, .int .i64 a4, .string a5], .int .i64 er]) ∧ Below w.heap.size w w') :
    Calls Tryz.prog 47 #[ptrTo wb, opVal kd nn i s kp k e st q b] w fun r w' => r = .returned (.bool true) ∧ St B w'.heap.size w' wb (n + 4) ∧ Far (fun k => B ≤ k ∧ k < C) w w' := by
  obtain ⟨n8, hn⟩ : ∃ n8 : Nat, s.size + 8 = n8 := ⟨_, rfl⟩
  have HL := fun w O e h => hide (lent_lay s w O e n8 hn zs h)
  have HD' := fun v w h => hide (HD v w h)
  have HR' := fun w => hide (HR w)
  have HS := hide S
  have HN := hide hn
  have hn0 : ¬ n8 = 0 := by omega
  have hle : s.size ≤ n8 := by omega
  have hlei : (s.size : Int) ≤ n8 := by omega
  clear S HD HR hn
  unfold ptrTo opVal
  go_enter Tryz.func47, Tryz.ntmps47
  go_upto_region 2 with (go_at_call 77; refine (unhide (HL _ _ _ (by simp))).mono ?_; rintro r w1 ⟨g, rfl, L1⟩; have LL1 := hide L1; have s3 := L1.s3; clear L1)
  clear HL
  go_upto_region 3 with (go_at_call 25; refine (unhide (HD' _ w1 ((unhide LL1).at (unhide HN) zs))).mono ?_; rintro r w2 ⟨rfl, hb2⟩; have L2 := (unhide LL1).below hb2; have LL2 := hide L2; have hg2 := Nat.lt_of_lt_of_le (unhide LL1).glt hb2.size; have GG2 := hide hg2; clear L2 hb2 hg2 s3)
  refine wp_world (fun x => Lay w x s g n8 ∧ w2.heap.size < x.heap.size ∧ FrBox x w2.heap.size a1 a2 a3 a4 a5) ⟨(unhide LL2).below ((Below.refl _ _).alloc (Nat.le_refl _) _), by simp, frBox_new _ _ _ _ _ _ _⟩ ?_
  clear LL2 LL1 HD'
  generalize w2.heap.size = f6 at GG2 ⊢
  rintro x3 ⟨L3, hf3, fb3⟩
  have s3 := L3.s3
  have LL3 := hide L3
  have FB3 := hide fb3
  have HF3 := hide hf3
  clear L3 hf3 fb3
  go_upto_region 4 with (go_at_call 78; refine (unhide (HR' _)).mono ?_; rintro r w4 ⟨rfl, hb4⟩; have L4 := (unhide LL3).below hb4; have LL4 := hide L4; have fb4 := (unhide FB3).below hb4 (unhide HF3); have FB4 := hide fb4; have hf4 := Nat.lt_of_lt_of_le (unhide HF3) hb4.size; have HF4 := hide hf4; clear L4 hb4 fb4 hf4 s3)
  refine wp_world (fun x => Lay w x s g n8 ∧ w4.heap.size < x.heap.size ∧ FrBox x w4.heap.size a1 a2 a3 a4 a5 ∧ FrBox x f6 a1 a2 a3 a4 a5) ⟨(unhide LL4).below ((Below.refl _ _).alloc (Nat.le_refl _) _), by simp, frBox_new _ _ _ _ _ _ _, (unhide FB4).below (C := w4.heap.size) ((Below.refl _ _).alloc (Nat.le_refl _) _) (unhide HF4)⟩ ?_
  clear LL4 LL3 HR' FB3 FB4 HF3
  generalize w4.heap.size = f8 at HF4 ⊢
  rintro x5 ⟨L5, hf5, fb5, fb6⟩
  have s3 := L5.s3
  have LL5 := hide L5
  have FB5 := hide fb5
  have FB6 := hide fb6
  have HF5 := hide hf5
  have BT := hide (L5.bat (unhide HN))
  clear L5 hf5 fb5 fb6
  go_upto_region 5 with (go_at_call 79; refine (still_any _ _ s x5 (unhide BT) (by omega)).mono ?_; rintro r w6 ⟨rfl, nq, rfl⟩)
  refine wp_world (fun x => Lay w x s g n8 ∧ f8 < x.heap.size ∧ FrBox x f8 a1 a2 a3 a4 a5 ∧ FrBox x f6 a1 a2 a3 a4 a5) ⟨(unhide LL5).below (below_drewN (Below.refl _ _) _), unhide HF5, (unhide FB5).below (C := x5.heap.size) (below_drewN (Below.refl _ _) _) (unhide HF5), (unhide FB6).below (C := x5.heap.size) (below_drewN (Below.refl _ _) _) (Nat.lt_trans (unhide HF4) (unhide HF5))⟩ ?_
  clear LL5 FB5 FB6 HF5 BT s3
  rintro x7 ⟨L7, hf7, fb7, fb8⟩
  have LL7 := hide L7
  have FB7 := hide fb7
  have FB8 := hide fb8
  have HF7 := hide hf7
  have HK := hide (keepSt (l := lentL s) (unhide HS) (L7.bel.alloc L7.bel.size _) (heap_alloc_new x7 _) (by rw [lentL_length, unhide HN]; exact L7.own.alloc _) L7.bel.size (fun k hk => by cases hk; exact Nat.le_of_lt L7.lt) z1 (by rw [lentL_length]; omega))
  clear L7 hf7 fb7 fb8
  go_upto_region 6 with (go_at_call 76; refine (unhide HK).mono ?_; rintro r w8 ⟨rfl, S8, B8, K8⟩; have SS8 := hide S8; have BB8 := hide B8; have KK8 := hide K8; clear S8 B8 K8)
  have b0 := (unhide LL7).bel.size
  have b1 := (unhide LL7).lt
  have b2 := unhide GG2
  have b3 := unhide HF4
  have b4 := unhide HF7
  have k6 := (unhide KK8) f6 (by omega) (by simp; omega) (by omega) (fun e => by injection e with e; change g = _ at e; omega)
  have k8 := (unhide KK8) f8 (by omega) (by simp; omega) (by omega) (fun e => by injection e with e; change g = _ at e; omega)
  rw [Below.heap_alloc x7 _ f6 (by omega)] at k6
  rw [Below.heap_alloc x7 _ f8 (by omega)] at k8
  obtain ⟨y0, y1, y2, y3, y4⟩ := (unhide FB8).kept k6
  obtain ⟨z0, z1, z2, z3, z4⟩ := (unhide FB7).kept k8
  clear k6 k8 KK8 HK FB7 FB8 LL7 b0 b1 b2 b3 b4 HF7 HF4 GG2 HN hle hlei hn0 zs
  go_wp2
  go_ret
  exact ⟨rfl, unhide SS8, unhide BB8⟩

theorem decoded_any (B C : Nat) (w : World) (wb n : Nat) (kd nn i : Int) (s : ByteArray) (kp k e st q : Int) (b : ByteArray) (S : St B C w wb n) (z1 : n ≤ 10000000000000) (zs : s.size ≤ 140737488353980) :
    Calls Tryz.prog 47 #[ptrTo wb, opVal kd nn i s kp k e st q b] w fun r w' => r = .returned (.bool true) ∧ St B w'.heap.size w' wb (n + 4) ∧ Far (fun k => B ≤ k ∧ k < C) w w' := by
  have HD := fun v w h => courier_Decode_any v s.data.toList w h
  have HR := fun w => refDecode_any s w (by omega)
  cases hr : Wire.reads s.data.toList
  all_goals
    simp only [hr, if_true, if_false, Bool.false_eq_true] at HD HR
    exact decoded_gen B C w wb n kd nn i s kp k e st q b S z1 zs _ _ _ _ _ _ HD HR
end Go.Proofs.YtamafdcnbcoegaaGreat
