/-
  Walks of courierlaw: step at kinds 1 and 2, coded.
-/
import Derived.Test.YtamafdcnbcoegaaGreatH13
namespace Go.Proofs.YtamafdcnbcoegaaGreat
open Go.RowKit

set_option maxRecDepth 100000 in
set_option maxHeartbeats 1000000 in
theorem step_enc (B C : Nat) (w : World) (wb n : Nat) (nn i : Int) (s : ByteArray) (kp k e st q : Int) (b : ByteArray) (S : St B C w wb n) (z1 : n ≤ 10000000000000) (hb : b.size ≤ 9223372036854775807) :
    Calls Tryz.prog 48 #[ptrTo wb, opVal 1 nn i s kp k e st q b] w fun r w' => r = .returned (.bool true) ∧ St B w'.heap.size w' wb (n + 4) ∧ Far (fun k => B ≤ k ∧ k < C) w w' := by
  have HE := fun O => hide (encoded_any B C (w.alloc O) wb n 1 nn i s kp k e st q b (S.below ((Below.refl _ _).alloc (Nat.le_refl _) _)) z1 hb)
  clear S
  unfold ptrTo opVal at HE ⊢
  go_enter Tryz.func48, Tryz.ntmps48
  go_wp2_with (go_at_call 46; refine (unhide (HE _)).mono ?_; rintro r w1 ⟨rfl, S1, B1⟩)
  go_ret
  exact ⟨rfl, S1, (far_below (E := fun k => B ≤ k ∧ k < C) ((Below.refl _ _).alloc (Nat.le_refl _) _)).trans B1 (fun _ _ h => h)⟩

set_option maxRecDepth 100000 in
set_option maxHeartbeats 1000000 in
theorem step_dec (B C : Nat) (w : World) (wb n : Nat) (nn i : Int) (s : ByteArray) (kp k e st q : Int) (b : ByteArray) (S : St B C w wb n) (z1 : n ≤ 10000000000000) (zs : s.size ≤ 140737488353980) :
    Calls Tryz.prog 48 #[ptrTo wb, opVal 2 nn i s kp k e st q b] w fun r w' => r = .returned (.bool true) ∧ St B w'.heap.size w' wb (n + 4) ∧ Far (fun k => B ≤ k ∧ k < C) w w' := by
  have HE := fun O => hide (decoded_any B C (w.alloc O) wb n 2 nn i s kp k e st q b (S.below ((Below.refl _ _).alloc (Nat.le_refl _) _)) z1 zs)
  clear S zs
  unfold ptrTo opVal at HE ⊢
  go_enter Tryz.func48, Tryz.ntmps48
  go_wp2_with (go_at_call 47; refine (unhide (HE _)).mono ?_; rintro r w1 ⟨rfl, S1, B1⟩)
  go_ret
  exact ⟨rfl, S1, (far_below (E := fun k => B ≤ k ∧ k < C) ((Below.refl _ _).alloc (Nat.le_refl _) _)).trans B1 (fun _ _ h => h)⟩

/-- A world that has just been made. -/
theorem st_new (w : World) : St w.heap.size (w.heap.size + 1) (w.alloc (.cells #[.slice none 0 0, .slice none 0 0, .slice none 0 0] 83)) w.heap.size 0 :=
  ⟨.slice none 0 0, [], rfl, ⟨heap_alloc_new w _, World.ownsRow_nil _ _ _ _, fun p hp => absurd hp List.not_mem_nil⟩, fun k hk => hk.elim (fun e => by omega) (fun e => by cases e)⟩

set_option maxRecDepth 100000 in
set_option maxHeartbeats 1000000 in
theorem coded_head (w : World) :
    Calls Tryz.prog 14 #[] w fun r w' => r = .returned (.bool true) ∧ Below w.heap.size w w' := by
  have S0 := hide (st_new w)
  have HE := fun O => hide (encoded_any w.heap.size (w.heap.size + 1) ((w.alloc (.cells #[.slice none 0 0, .slice none 0 0, .slice none 0 0] 83)).alloc O) w.heap.size 0 0 0 0 ⟨#[]⟩ 0 1 1 0 0 ⟨#[]⟩ ((unhide S0).below ((Below.refl _ _).alloc (Nat.le_refl _) _)) (by omega) (by decide))
  unfold ptrTo opVal at HE
  go_enter Tryz.func14, Tryz.ntmps14
  go_upto_region 4 with (go_at_call 46; refine (unhide (HE _)).mono ?_; rintro r w1 ⟨rfl, S1, B1⟩; have SS1 := hide S1; have BB0 := hide B1; clear S1 B1)
  clear HE S0
  have BB1 := hide ((((Below.refl w.heap.size w).alloc (Nat.le_refl _) _).alloc (by simp) _).trans ((unhide BB0).below (B := w.heap.size) (by simp only [World.size_alloc]; omega) (fun k hk e => by omega)))
  have HD := hide (decoded_any w.heap.size w1.heap.size w1 w.heap.size 4 0 0 0 ⟨#[1, 1, 0, 0, 0, 0, 0, 0, 0, 0, 0]⟩ 0 0 0 0 0 ⟨#[]⟩ (unhide SS1) (by omega) (by decide))
  unfold ptrTo opVal at HD
  go_wp2_with (go_at_call 47; refine (unhide HD).mono ?_; rintro r w2 ⟨rfl, S2, B2⟩)
  go_ret
  exact ⟨rfl, (unhide BB1).trans (B2.below (unhide BB1).size (fun k hk e => by omega))⟩
end Go.Proofs.YtamafdcnbcoegaaGreat
