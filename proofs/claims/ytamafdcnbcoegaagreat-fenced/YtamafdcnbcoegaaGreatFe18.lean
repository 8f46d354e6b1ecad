/-
  Part 18 of a proof: J2, J3, CodesProof, N9, J4.
-/
import Derived.ProofKit
import Derived.SizedLaws
import Derived.OpenShut
import Derived.ShutString
import Derived.ChangeOld
import Derived.Lib.SmallJoins
import Derived.Deep.Slices
import Derived.Test.YtamafdcnbcoegaaGreatFe17
namespace Go.Proofs.YtamafdcnbcoegaaGreat
open Go.RowKit
structure Duo {top : Nat} (C : AgentC top) (D : SinkC) (B N : Nat) (x : World) (v1 vs : Nat) (a1 : Mod.Ag) (k : Mod.Sk) (v2 : Nat) (a2 : Mod.Ag) (G : Nat → Prop) : Prop where
 all : ∃ W : Nat → Prop, Ends C D B N x v1 vs a1 k (fun j => W j ∨ G j) ∧ C.At x v2 a2 W ∧ (∀ j, W j → B ≤ j) ∧ ∀ j, G j → ¬ W j
 g2 : AgGood N a2
section
variable {top : Nat} {C : AgentC top} {D : SinkC} {B N : Nat} {x y : World} {v1 vs v2 : Nat} {a1 a2 : Mod.Ag} {k : Mod.Sk} {G : Nat → Prop}
theorem Duo.bx (h : Duo C D B N x v1 vs a1 k v2 a2 G) : B ≤ x.heap.size := by obtain ⟨W, h1, _⟩ := h.all; exact h1.bx
theorem Duo.swap (h : Duo C D B N x v1 vs a1 k v2 a2 G) : Duo C D B N x v2 vs a2 k v1 a1 G := by
 obtain ⟨W, h1, h2, h3, h4⟩ := h.all
 obtain ⟨U, V, u1, u2, u3, u4, u5, u6⟩ := h1.all
 refine ⟨⟨U, ⟨⟨W, V, h2, u2, fun j hj e => (u6 j (.inl hj)).2.2 e, h3, u5, fun j hj => ?_⟩, h.g2, h1.gk, h1.bx⟩, u1, u4, fun j hj e => (u6 j (.inr hj)).2.1 e⟩, h1.ga⟩
 rcases hj with hj | hj
 ·exact ⟨C.lt u1 j hj, fun e => (u6 j (.inl e)).2.1 hj, u3 j hj⟩
 ·exact ⟨(u6 j (.inr hj)).1, h4 j hj, (u6 j (.inr hj)).2.2⟩
theorem Duo.less {G' : Nat → Prop} (h : Duo C D B N x v1 vs a1 k v2 a2 G) (hG : ∀ j, G' j → G j) : Duo C D B N x v1 vs a1 k v2 a2 G' := by
 obtain ⟨W, h1, h2, h3, h4⟩ := h.all
 exact ⟨⟨W, h1.mono (fun j hj => hj.imp id (hG j)) (Nat.le_refl _), h2, h3, fun j hj => h4 j (hG j hj)⟩, h.g2⟩
theorem Duo.mono {M : Nat} (h : Duo C D B N x v1 vs a1 k v2 a2 G) (hM : N ≤ M) : Duo C D B M x v1 vs a1 k v2 a2 G := by
 obtain ⟨W, h1, h2, h3, h4⟩ := h.all
 exact ⟨⟨W, h1.mono (fun j hj => hj) hM, h2, h3, h4⟩, h.g2.mono hM⟩
theorem Duo.more (h : Duo C D B N x v1 vs a1 k v2 a2 G) (hb : Below x.heap.size x y) : Duo C D B N y v1 vs a1 k v2 a2 (fun j => G j ∨ (x.heap.size ≤ j ∧ j < y.heap.size)) := by
 obtain ⟨W, h1, h2, h3, h4⟩ := h.all
 have hl := C.lt h2
 refine ⟨⟨W, (h1.more hb).mono (fun j hj => ?_) (Nat.le_refl _), C.far h2 (E := fun _ => False) (far_below hb) (fun _ _ e => e), h3, fun j hj e => ?_⟩, h.g2⟩
 ·rcases hj with hj | hj | hj
  ·exact .inl (.inl hj)
  ·exact .inl (.inr hj)
  ·exact .inr hj
 ·rcases hj with hj | hj
  ·exact h4 j hj e
  ·have := hl j e; omega
theorem Duo.below (h : Duo C D B N x v1 vs a1 k v2 a2 G) (hb : Below x.heap.size x y) : Duo C D B N y v1 vs a1 k v2 a2 G := (h.more hb).less (fun _ hj => .inl hj)
theorem Duo.step {f : Nat} {args : Array Value} {R : Ending → World → Prop} {M : Nat} {a1' : Mod.Ag} {k' : Mod.Sk} (h : Duo C D B N x v1 vs a1 k v2 a2 G) (hM : N ≤ M)
  (hc : ∀ G', Ends C D B N x v1 vs a1 k G' → Calls Tryz.prog f args x fun r y => R r y ∧ Ends C D B M y v1 vs a1' k' G' ∧ Same B G' x y) :
  Calls Tryz.prog f args x fun r y => R r y ∧ Duo C D B M y v1 vs a1' k' v2 a2 G ∧ Same B G x y := by
 obtain ⟨W, h1, h2, h3, h4⟩ := h.all
 refine (hc _ h1).mono ?_
 rintro r y ⟨hr, k1, k2⟩
 exact ⟨hr, ⟨⟨W, k1, C.far h2 k2 (fun j hj e => e.2 (.inl hj)), h3, h4⟩, h.g2.mono hM⟩, k2.less (fun j hj => .inr hj)⟩
theorem Duo.outs {f : Nat} {args : Array Value} {F : List ByteArray} {val : Value → Value} {M : Nat} {a1' : Mod.Ag} {k' : Mod.Sk} (h : Duo C D B N x v1 vs a1 k v2 a2 G) (hM : N ≤ M)
  (hc : ∀ G', Ends C D B N x v1 vs a1 k G' → Calls Tryz.prog f args x fun r y => ∃ lv fs, r = .returned (val lv) ∧ FramesOut x.heap.size y lv fs F (fun _ => False) ∧ Ends C D B M y v1 vs a1' k' (fun j => G' j ∨ Outs lv fs j) ∧ Same B G' x y) :
  Calls Tryz.prog f args x fun r y => ∃ lv fs, r = .returned (val lv) ∧ FramesOut x.heap.size y lv fs F (fun _ => False) ∧ Duo C D B M y v1 vs a1' k' v2 a2 (fun j => G j ∨ Outs lv fs j) ∧ Same B G x y := by
 obtain ⟨W, h1, h2, h3, h4⟩ := h.all
 have hl := C.lt h2
 refine (hc _ h1).mono ?_
 rintro r y ⟨lv, fs, hr, ho, k1, k2⟩
 refine ⟨lv, fs, hr, ho, ⟨⟨W, k1.mono (fun j hj => ?_) (Nat.le_refl _), C.far h2 k2 (fun j hj e => e.2 (.inl hj)), h3, fun j hj e => ?_⟩, h.g2.mono hM⟩, k2.less (fun j hj => .inr hj)⟩
 ·rcases hj with hj | hj | hj
  ·exact .inl (.inl hj)
  ·exact .inl (.inr hj)
  ·exact .inr hj
 ·rcases hj with hj | hj
  ·exact h4 j hj e
  ·have := (ho.lt j hj).1
   have := hl j e
   omega
theorem Duo.submit (h : Duo C D B N x v1 vs a1 k v2 a2 G) (hN : N < top) (i : Int) (s : ByteArray) :
  Calls Tryz.prog 21 #[ptrTo v1, .int .i64 i, .string s] x fun r y => r = .returned (.int .i64 (a1.refuses i s.size)) ∧ Duo C D B (N + 1) y v1 vs (agSubmits a1 i s) k v2 a2 G ∧ Same B G x y :=
 h.step (R := fun r _ => r = .returned (.int .i64 (a1.refuses i s.size))) (Nat.le_succ _) (fun _ hE => hE.submit hN i s)
theorem Duo.exch (h : Duo C D B N x v1 vs a1 k v2 a2 G) (hN : N + 1 < top) :
  Calls Tryz.prog 31 #[ptrTo v1, ptrTo vs] x fun r y => r = .returned (.tuple #[.int .i64 a1.tick.2.length, .bool (exchM a1 k).2.2]) ∧ Duo C D B (N + 1) y v1 vs (exchM a1 k).1 (exchM a1 k).2.1 v2 a2 G ∧ Same B G x y :=
 h.step (R := fun r _ => r = .returned (.tuple #[.int .i64 a1.tick.2.length, .bool (exchM a1 k).2.2])) (Nat.le_succ _) (fun G' hE => exchange_any C D B N x v1 vs a1 k G' hE hN)
theorem Duo.tick (h : Duo C D B N x v1 vs a1 k v2 a2 G) (hN : N < top) :
  Calls Tryz.prog 24 #[ptrTo v1] x fun r y => ∃ lv fs, r = .returned lv ∧ FramesOut x.heap.size y lv fs (a1.tick.2.map fun l => ⟨l.toArray⟩) (fun _ => False) ∧ Duo C D B (N + 1) y v1 vs a1.tick.1 k v2 a2 (fun j => G j ∨ Outs lv fs j) ∧ Same B G x y :=
 h.outs (val := fun lv => lv) (Nat.le_succ _) (fun _ hE => hE.tick hN)
theorem Duo.take (h : Duo C D B N x v1 vs a1 k v2 a2 G) (bs : Value) (l : List UInt8) (hat : BytesAt x bs l) :
  Calls Tryz.prog 27 #[ptrTo vs, bs] x fun r y => ∃ lv fs, r = .returned (.tuple #[lv, .int .i64 (skSays k l).1]) ∧ FramesOut x.heap.size y lv fs (skSays k l).2.2 (fun _ => False) ∧ Duo C D B N y v1 vs a1 (skSays k l).2.1 v2 a2 (fun j => G j ∨ Outs lv fs j) ∧ Same B G x y :=
 h.outs (val := fun lv => .tuple #[lv, .int .i64 (skSays k l).1]) (Nat.le_refl _) (fun _ hE => hE.take bs l hat)
theorem Duo.hear (h : Duo C D B N x v1 vs a1 k v2 a2 G) (hN : N < top) (bs : Value) (l : List UInt8) (hat : BytesAt x bs l) :
  Calls Tryz.prog 28 #[ptrTo v1, bs] x fun r y => r = .returned (.int .i64 (agSays a1 l).1) ∧ Duo C D B N y v1 vs (agSays a1 l).2 k v2 a2 G ∧ Same B G x y :=
 h.step (R := fun r _ => r = .returned (.int .i64 (agSays a1 l).1)) (Nat.le_refl _) (fun _ hE => hE.hear hN bs l hat)
theorem Duo.log (h : Duo C D B N x v1 vs a1 k v2 a2 G) (i : Int) :
  Calls Tryz.prog 32 #[ptrTo vs, .int .i64 i] x fun r y => ∃ lv, r = .returned lv ∧ y.ownsRow x.heap.size 9 1 lv (skLogs k i).length (strs (skLogs k i)) ∧ Below x.heap.size x y := by
 obtain ⟨W, h1, _⟩ := h.all
 refine (h1.log i).mono ?_
 rintro r y ⟨lv, rfl, q1, q2, q3⟩
 exact ⟨lv, rfl, q1, q3⟩
theorem Duo.spool (h : Duo C D B N x v1 vs a1 k v2 a2 G) (i : Int) :
  Calls Tryz.prog 26 #[ptrTo v1, .int .i64 i] x fun r y => ∃ lv, r = .returned lv ∧ y.ownsRow x.heap.size 9 1 lv (agSpools a1 i).length (strs (agSpools a1 i)) ∧ Below x.heap.size x y := by
 obtain ⟨W, h1, _⟩ := h.all
 refine (h1.spool i).mono ?_
 rintro r y ⟨lv, rfl, q1, q2, q3⟩
 exact ⟨lv, rfl, q1, q3⟩
theorem Duo.epoch1 (h : Duo C D B N x v1 vs a1 k v2 a2 G) : Calls Tryz.prog 39 #[ptrTo v1] x fun r y => r = .returned (.int .i64 a1.epoch) ∧ Below x.heap.size x y := by
 obtain ⟨W, h1, _⟩ := h.all
 exact h1.epochA
theorem Duo.epochS (h : Duo C D B N x v1 vs a1 k v2 a2 G) : Calls Tryz.prog 42 #[ptrTo vs] x fun r y => r = .returned (.int .i64 k.epoch) ∧ Below x.heap.size x y := by
 obtain ⟨W, h1, _⟩ := h.all
 exact h1.epochS
end
theorem reop_epF (a : Mod.Ag) : (Mod.reop a).epoch = a.epoch + 1 := rfl
theorem ends_img {top : Nat} {A : AgentD top} {D : SinkC} {B N : Nat} {x : World} {va vs : Nat} {a : Mod.Ag} {k : Mod.Sk} {G : Nat → Prop} (h : Ends A.C D B N x va vs a k G) : ∃ (L : List UInt8) (c2 hd : Nat) (free : List Nat) (pl : Nat → List Nat), Mod.AgDisk L a.epoch c2 hd a free pl ∧ Mod.Places a free pl ∧
  Calls Tryz.prog 29 #[ptrTo va, .int .u64 0] x fun r y => ∃ v', r = .returned v' ∧ Owns x.heap.size y v' L ∧ Below x.heap.size x y := by
 obtain ⟨U, V, h1, _⟩ := h.all
 obtain ⟨L, c2, hd, fr, pl, q1, q2, q3⟩ := A.img h1
 exact ⟨L, c2, hd, fr, pl, q1, q2, q3 x (Below.refl _ _) 0⟩
theorem duo_open {top : Nat} {A : AgentD top} {D : SinkC} {B N : Nat} {x : World} {va vs : Nat} {a : Mod.Ag} {k : Mod.Sk} {L : List UInt8} {c2 hd : Nat} {fr : List Nat} {pl : Nat → List Nat} (h : Ends A.C D B N x va vs a k (fun _ => False)) (q1 : Mod.AgDisk L a.epoch c2 hd a fr pl) (q2 : Mod.Places a fr pl) (he : a.epoch ≤ 1000) (hN : N ≤ 100000) (bs : Value) (hat : BytesAt x bs L) :
  Calls Tryz.prog 37 #[bs] x fun r y => ∃ v, r = .returned (.tuple #[ptrTo v, .int .i64 0]) ∧ Duo A.C D B N y v vs (Mod.reop a) k va a (fun _ => False) ∧ Below x.heap.size x y := by
 have hga := h.ga
 refine (A.again bs L hat q1 q2 (by omega) (fun i hi => by have := hga.sum i hi; omega)).mono ?_
 rintro r y ⟨v, U', rfl, m1, m2, m3⟩
 obtain ⟨U, V, u1, u2, u3, u4, u5, u6⟩ := h.all
 have lu := A.C.lt u1
 have lv := D.lt u2
 have hB := h.bx
 refine ⟨v, rfl, ⟨⟨U, ⟨⟨U', V, m1, D.far u2 (E := fun _ => False) (far_below m2) (fun _ _ e => e), fun j hj e => by have := m3 j hj; have := lv j e; omega, fun j hj => by have := m3 j hj; omega, u5, fun j hj => ?_⟩, reop_good hga (by omega), h.gk, Nat.le_trans hB m2.size⟩, A.C.far u1 (E := fun _ => False) (far_below m2) (fun _ _ e => e), u4, fun j hj => hj.elim⟩, hga⟩, m2⟩
 rcases hj with hj | hj
 ·have := lu j hj
  exact ⟨Nat.lt_of_lt_of_le this m2.size, fun e => by have := m3 j e; omega, u3 j hj⟩
 ·exact hj.elim
end Go.Proofs.YtamafdcnbcoegaaGreat
namespace Go.Proofs.YtamafdcnbcoegaaGreat
open Go.RowKit
theorem fFact_out {n m : Nat} (h : fFact n m = true) : ((exchM (fB n m) (fS1 n)).2.2 = true ∧ (fA1 n).epoch = 1 ∧ 0 < (fT n).length ∧ (fT n).length ≤ 4) ∧ (∀ i, i < (fT n).length → (skSays (fSt n m i).2.1 ((fT n).getD i [])).1 = 0 ∧ (skSays (fSt n m i).2.1 ((fT n).getD i [])).2.2.length = 1)
  ∧ skLogs (fS3 n m) 0 = skLogs (fS2 n m) 0 ∧ (fA3 n m).tick.2 = [] ∧ (fEnd n m).2.epoch = 2 ∧ (skLogs (fEnd n m).2 0).length = n + m ∧ agSpools (fEnd n m).1 0 = [] ∧ (skLogs (fS2 n m) 0).length ≤ 120 := by
 unfold fFact at h
 simp only [Bool.and_eq_true, decide_eq_true_eq, List.all_eq_true, List.mem_range] at h
 obtain ⟨⟨⟨⟨⟨⟨⟨⟨⟨⟨h1, h2⟩, h3⟩, h4⟩, h5⟩, h6⟩, h7⟩, h8⟩, h9⟩, h10⟩, h11⟩ := h
 exact ⟨⟨h1, h2, h3, h4⟩, h5, h6, h7, h8, h9, h10, h11⟩
theorem fSt_step {n m i : Nat} (hf : fFact n m = true) (hi : i < (fT n).length) : ∃ (r : ByteArray) (k' : Mod.Sk), skSays (fSt n m i).2.1 (fT n)[i] = (0, k', [r]) ∧ (fSt n m (i + 1)).1 = (agSays (fSt n m i).1 r.data.toList).2 ∧ (fSt n m (i + 1)).2.1 = k' := by
 have h5 := (fFact_out hf).2.1 i hi
 have hg : (fT n).getD i [] = (fT n)[i] := by rw [List.getD_eq_getElem?_getD, List.getElem?_eq_getElem hi]; rfl
 rw [hg] at h5
 obtain ⟨⟨e, k', fl⟩, hs⟩ : ∃ q, q = skSays (fSt n m i).2.1 (fT n)[i] := ⟨_, rfl⟩
 rw [← hs] at h5
 obtain ⟨e1, e2⟩ := h5
 simp only at e1 e2
 obtain ⟨r, hr⟩ := List.length_eq_one_iff.1 e2
 subst e1 hr
 have ht : fSt n m (i + 1) = tellM (fSt n m i) [(fT n)[i]] := by
  unfold fSt
  rw [List.take_add_one, List.getElem?_eq_getElem hi]
  exact tellM_snoc _ _ _
 refine ⟨r, k', hs.symm, ?_, ?_⟩
 ·rw [ht]
  simp only [tellM, ← hs, hearM]
 ·rw [ht]
  simp only [tellM, ← hs]
theorem outs_get {B : Nat} {w : World} {lv : Value} {fs : List Value} {Fl : List ByteArray} {U : Nat → Prop} (h : FramesOut B w lv fs Fl U) {i : Nat} (hi : i < Fl.length) :
  ∃ g cap vad vcap, lv = .slice (some ⟨g, 0, none⟩) Fl.length cap ∧ Fl.length ≤ cap ∧ g < w.heap.size ∧ w.cell? ⟨g, i, none⟩ = some (.slice vad Fl[i].data.toList.length vcap) ∧ BytesAt w (.slice vad Fl[i].data.toList.length vcap) Fl[i].data.toList := by
 obtain ⟨v, hv, hown⟩ := h.get i hi
 have hlf := h.len
 have hrow := h.row
 rw [hlf] at hrow
 obtain ⟨g, cap, hadd⟩ := own_shapeB hrow (by omega)
 have cj := World.ownsRow.cellAt (by rw [hadd] at hrow; exact hrow) i (by omega)
 rw [hv] at cj
 obtain ⟨vad, vcap, ev, _⟩ := (own_rowO hown).shape
 have hgl := (World.ownsRow.lt hrow g (by rw [hadd]; rfl)).2
 have hcl : Fl.length ≤ cap := by
  rcases hrow.2 with ⟨h, _⟩ | ⟨g', cap', cur, h, _, _, h2, _⟩
  ·rw [hadd] at h; cases h
  ·rw [hadd] at h
   injection h with _ _ h3
   omega
 rw [ev] at cj hown
 refine ⟨g, cap, vad, vcap, hadd, hcl, hgl, by rw [cj], Owns.at hown⟩
set_option maxRecDepth 100000 in
set_option maxHeartbeats 32000000 in
theorem fenced_any {top : Nat} (A : AgentD top) (D : SinkC) (ht : 1000 ≤ top) (b0 h0 : Int) (w : World) (hb0 : -9223372036854775808 ≤ b0 ∧ b0 ≤ 9223372036854775807) (hh0 : -9223372036854775808 ≤ h0 ∧ h0 ≤ 9223372036854775807) :
  Calls Tryz.prog 11 #[.int .i64 b0, .int .i64 h0] w fun r y => r = .returned (.bool true) ∧ Below w.heap.size w y := by
 have HP1 := fun y => hide (keepPick_any b0 5 y hb0 (by omega) (by omega))
 have HP2 := fun y => hide (keepPick_any h0 5 y hh0 (by omega) (by omega))
 have hn := pickN_lt b0 (n := 5) (by omega)
 have hm := pickN_lt h0 (n := 5) (by omega)
 generalize pickN b0 5 = n at HP1 hn
 generalize pickN h0 5 = m at HP2 hm
 clear hb0 hh0
 have hF := fFact_all n hn m hm
 obtain ⟨N0, hN0⟩ : ∃ q, q = n + 1 := ⟨_, rfl⟩
 rw [← hN0] at hF
 obtain ⟨⟨f1, f2, f3, f4⟩, f5, f6, f7, f8, f9, f10, f11⟩ := fFact_out hF
 have hfz : fA 0 = ag00 := rfl
 have hfs : ∀ j, fA (j + 1) = agSubmits (fA j) 0 (saB j) := fun _ => rfl
 have hgz : fB N0 0 = Mod.reop (fA1 N0) := rfl
 have hgs : ∀ j, fB N0 (j + 1) = agSubmits (fB N0 j) 0 (sbB j) := fun _ => rfl
 have he1 : (exchM (fA N0) sk00).1 = fA1 N0 := rfl
 have he2 : (exchM (fA N0) sk00).2.1 = fS1 N0 := rfl
 have he3 : (exchM (fB N0 m) (fS1 N0)).1 = fB1 N0 m := rfl
 have he4 : (exchM (fB N0 m) (fS1 N0)).2.1 = fS2 N0 m := rfl
 have hst := fun i hi => fSt_step (n := N0) (m := m) (i := i) hF hi
 have hs0 : (fSt N0 m 0).1 = (fA1 N0).tick.1 ∧ (fSt N0 m 0).2.1 = fS2 N0 m := ⟨rfl, rfl⟩
 have hsl : (fSt N0 m (fT N0).length).1 = fA3 N0 m ∧ (fSt N0 m (fT N0).length).2.1 = fS3 N0 m := ⟨rfl, rfl⟩
 have ht0 : (fA1 N0).tick.2 = fT N0 := rfl
 have hez : exN (fB1 N0 m) (fS3 N0 m) 0 = (fB1 N0 m, fS3 N0 m) := rfl
 have hes := exN_succ (fB1 N0 m) (fS3 N0 m)
 have hee : exN (fB1 N0 m) (fS3 N0 m) 12 = fEnd N0 m := rfl
 generalize exN (fB1 N0 m) (fS3 N0 m) = A4 at hez hes hee
 generalize fEnd N0 m = EN at *
 generalize fSt N0 m = ST at *
 generalize fB1 N0 m = B1 at *
 generalize fS2 N0 m = S2 at *
 generalize fA3 N0 m = A3 at *
 generalize fS3 N0 m = S3 at *
 generalize fT N0 = FL at *
 generalize fB N0 = FB at *
 generalize fA1 N0 = A1 at *
 generalize fS1 N0 = S1 at *
 have HA := hide (And.intro hfz (And.intro hfs (And.intro he1 he2)))
 have HB2 := hide (And.intro hgz (And.intro hgs (And.intro he3 he4)))
 have HST := hide (And.intro hst (And.intro hs0 (And.intro hsl ht0)))
 have HEX := hide (And.intro hez (And.intro hes hee))
 have HF1 := hide (And.intro f1 (And.intro f2 (And.intro f6 (And.intro f7 (And.intro f8 (And.intro f9 (And.intro f10 f11)))))))
 have HN0 := hide hN0
 clear hfz hfs he1 he2 hgz hgs he3 he4 hst hs0 hsl ht0 hez hes hee f1 f2 f5 f6 f7 f8 f9 f10 f11 hF
 clear hN0
 have HOKA := hide fA_ok
 generalize fA = FA at HA HOKA
 go_enter Tryz.func11, Tryz.ntmps11
 go_upto_region 2 with (go_at_call 18; refine (keepAgent_00 A.C _).mono ?_; rintro r x1 ⟨va, U, rfl, k1, k2, k3⟩; have HAA := hide (And.intro k1 (And.intro k2 k3)); clear k1 k2 k3)
 go_upto_region 3 with (go_at_call 19; refine (keepSink_00 D _).mono ?_; rintro r x2 ⟨vs, V, rfl, k1, k2, k3⟩; have HSS := hide (And.intro k1 (And.intro k2 k3)); clear k1 k2 k3)
 unfold ptrTo at *
 have HE := hide (ends_start (unhide HAA).1 (unhide HAA).2.1 (unhide HAA).2.2 (unhide HSS).1 (unhide HSS).2.1 (unhide HSS).2.2)
 clear HAA HSS
 go_upto_region 6 with (go_at_call 22; refine (unhide (HP1 _)).mono ?_; rintro r y ⟨rfl, rfl⟩)
 go_wp2
 go_loopw [8] (fun i wr => ∃ j : Nat, j ≤ n + 1 ∧ i = .int .i64 j ∧ Ends A.C D w.heap.size j wr va vs (FA j) sk00 (fun _ => False) ∧ Below w.heap.size w wr) (fun i _ => n + 1 - (intOf i).toNat)
 case atStart =>
  refine ⟨0, by omega, rfl, ?_, (unhide HE).2⟩
  rw [(unhide HA).1]
  exact (unhide HE).1
 case round =>
  obtain ⟨j, hj, rfl, hE, hB⟩ := hrel
  clear HE
  have HE := hide hE
  have HB := hide hB
  clear hE hB
  by_cases hlt : j < n + 1
  ·have hji : (j : Int) < (n : Int) + 1 := by omega
   have HD := fun y => hide (digits_any j y (by omega))
   have hsab := saB_is (i := j) (by omega)
   have hds : (digB j).size ≤ 10 := digB_size (by omega)
   obtain ⟨db, hdb⟩ : ∃ db, db = digB j := ⟨_, rfl⟩
   rw [← hdb] at HD hsab hds
   have hsz : ¬ 9223372036854775807 < (⟨#[97]⟩ : ByteArray).size + db.size := by
    show ¬ 9223372036854775807 < 1 + db.size
    omega
   have hsz2 : ¬ 9223372036854775807 < 1 + db.size := by omega
   have HSUB := fun y (hy : Ends A.C D w.heap.size j y va vs (FA j) sk00 (fun _ => False)) => by
    have h := hy.submit (by omega) 0 (⟨#[97]⟩ ++ db)
    rw [hsab, (unhide HOKA) j (by omega), ← (unhide HA).2.1 j, ← hsab] at h
    exact hide h
   clear hdb hsab hds
   unfold ptrTo at HSUB
   go_upto_region 10 with (first
    | (go_at_call 23; refine (unhide (HD _)).mono ?_; rintro r y1 ⟨rfl, hy⟩; have HEa := hide ((unhide HE).below hy); have HBa := hide ((unhide HB).trans (hy.mono (unhide HB).size)); have HSU := hide (unhide (HSUB _ (unhide HEa))); clear hy)
    | (go_at_call 21; refine (unhide HSU).mono ?_; rintro r y2 ⟨rfl, k1, k2⟩; have HEb := hide k1; have HBb := hide ((unhide HBa).trans (k2.bel (unhide HEa).bx)); clear k1 k2))
   go_wp2
   go_roundw
   case rel => exact ⟨j + 1, by omega, by go_num, unhide HEb, unhide HBb⟩
   case measure => simp [intOf]; omega
  ·have hje : j = n + 1 := by omega
   subst hje
   have hji : ¬ ((n + 1 : Nat) : Int) < (n : Int) + 1 := by omega
   have hx0 := exchange_any A.C D w.heap.size (n + 1) _ va vs _ _ _ (unhide HE) (by omega)
   rw [← unhide HN0] at hx0
   rw [(unhide HA).2.2.1, (unhide HA).2.2.2] at hx0
   rw [unhide HN0] at hx0
   have HX := hide hx0
   have HBX := hide (unhide HE).bx
   clear hx0
   unfold ptrTo at HX
   go_upto_region 13 with (go_at_call 31; refine (unhide HX).mono ?_; rintro r y1 ⟨rfl, k1, k2⟩; have HE1 := hide k1; have HB1 := hide ((unhide HB).trans (k2.bel (unhide HBX))); clear k1 k2)
   clear HX HBX HE HB
   obtain ⟨IL, ic, ihd, ifr, ipl, q1, q2, q3⟩ := ends_img (unhide HE1)
   have HIM := hide q3
   have HQ := hide (And.intro q1 q2)
   clear q1 q2 q3
   unfold ptrTo at HIM
   go_upto_region 14 with (first
    | (go_at_call 29; refine (unhide HIM).mono ?_; rintro r y2 ⟨iv, rfl, ho, hy⟩; have HE2 := hide ((unhide HE1).below hy); have HB2a := hide ((unhide HB1).trans (hy.mono (unhide HB1).size)); have HOP := hide (duo_open (unhide HE2) (unhide HQ).1 (unhide HQ).2 (by rw [(unhide HF1).2.1]; omega) (by omega) iv (Owns.at ho)); obtain ⟨iad, icap, rfl, _⟩ := ho.shape; generalize IL.length = ilen at HOP ⊢; unfold ptrTo at HOP; clear ho hy)
    | (go_at_call 37; refine (unhide HOP).mono ?_; rintro r y3 ⟨vb, rfl, k1, k2⟩; have HD3 := hide k1; have HB3 := hide ((unhide HB2a).trans (k2.mono (unhide HB2a).size)); clear k1 k2))
   clear HIM HQ HE1 HB1 HE2 HB2a HOP
   rw [← (unhide HB2).1] at HD3
   have hb20 : (FB 0).epoch = 2 := by rw [(unhide HB2).1, reop_epF, (unhide HF1).2.1]
   have HEP : Hid (Calls Tryz.prog 39 #[.pointer (some ⟨va, 0, none⟩)] y3 fun r y => r = .returned (.int .i64 1) ∧ Below y3.heap.size y3 y) := by
    have h := (unhide HD3).swap.epoch1
    rw [(unhide HF1).2.1] at h
    exact h
   have HEP2 := fun y (hy : Below y3.heap.size y3 y) => (show Hid (Calls Tryz.prog 39 #[.pointer (some ⟨vb, 0, none⟩)] y fun r z => r = .returned (.int .i64 2) ∧ Below y.heap.size y z) by
    have h := ((unhide HD3).below hy).epoch1
    rw [hb20] at h
    exact h)
   clear hb20
   go_upto_region 16 with (first
    | (go_at_call 39; refine (unhide HEP).mono ?_; rintro r y4 ⟨rfl, hy4⟩; have HB4 := hide hy4; clear hy4)
    | (go_at_call 39; refine (unhide (HEP2 _ (unhide HB4))).mono ?_; rintro r y5 ⟨rfl, hy5⟩; have HB5 := hide ((unhide HB4).trans (hy5.mono (unhide HB4).size)); clear hy5))
   have HD5 := hide (((unhide HD3).below (unhide HB5)).mono (M := 10) (by omega))
   have HBw := hide ((unhide HB3).trans ((unhide HB5).mono (unhide HB3).size))
   clear HEP HEP2 HB4 HB5 HD3 HB3
   go_upto_region 17 with (go_at_call 22; refine (unhide (HP2 _)).mono ?_; rintro r y ⟨rfl, rfl⟩)
   go_wp2
   go_loopw [13] (fun i wr => ∃ j : Nat, j ≤ m ∧ i = .int .i64 j ∧ Duo A.C D w.heap.size (10 + j) wr vb vs (FB j) S1 va A1 (fun _ => False) ∧ Below w.heap.size w wr) (fun i _ => m - (intOf i).toNat)
   case atStart => exact ⟨0, by omega, rfl, unhide HD5, unhide HBw⟩
   case round =>
    obtain ⟨j, hj, rfl, hE, hB⟩ := hrel
    clear HD5 HBw
    have HE := hide hE
    have HB := hide hB
    clear hE hB
    by_cases hlt : j < m
    ·have hji : (j : Int) < (m : Int) := by omega
     have HD := fun y => hide (digits_any j y (by omega))
     have hsab := sbB_is (i := j) (by omega)
     have hds : (digB j).size ≤ 10 := digB_size (by omega)
     obtain ⟨db, hdb⟩ : ∃ db, db = digB j := ⟨_, rfl⟩
     rw [← hdb] at HD hsab hds
     have hsz2 : ¬ 9223372036854775807 < 1 + db.size := by omega
     have hsz : ¬ 9223372036854775807 < (⟨#[98]⟩ : ByteArray).size + db.size := hsz2
     have HSUB := fun y (hy : Duo A.C D w.heap.size (10 + j) y vb vs (FB j) S1 va A1 (fun _ => False)) => by
      have h := hy.submit (by omega) 0 (⟨#[98]⟩ ++ db)
      rw [hsab, ← (unhide HB2).2.1 j, ← hsab] at h
      exact hide h
     generalize hsd : (⟨#[98]⟩ : ByteArray) ++ db = sd at HSUB
     have HSD := hide hsd
     obtain ⟨ee, hee⟩ : ∃ ee, ee = (FB j).refuses 0 sd.size := ⟨_, rfl⟩
     rw [← hee] at HSUB
     clear hdb hsab hds hee
     unfold ptrTo at HSUB
     go_upto_region 19 with (first
      | (go_at_call 23; refine (unhide (HD _)).mono ?_; rintro r y1 ⟨rfl, hy⟩; have HEa := hide ((unhide HE).below hy); have HBa := hide ((unhide HB).trans (hy.mono (unhide HB).size)); have HSU := hide (unhide (HSUB _ (unhide HEa))); clear hy)
      | (go_at_call 21; refine (unhide HSU).mono ?_; rintro r y2 ⟨rfl, k1, k2⟩; have HEb := hide k1; have HBb := hide ((unhide HBa).trans (k2.bel (unhide HEa).bx)); clear k1 k2))
     go_wp2
     go_roundw
     case rel => exact ⟨j + 1, by omega, by go_num, unhide HEb, unhide HBb⟩
     case measure => simp [intOf]; omega
    ·have hje : j = m := by omega
     subst hje
     have hji : ¬ (j : Int) < (j : Int) := by omega
     have hx0 := ((unhide HE).mono (M := 20) (by omega)).exch (by omega)
     rw [(unhide HB2).2.2.1, (unhide HB2).2.2.2, (unhide HF1).1] at hx0
     have HX := hide hx0
     have HBX := hide (unhide HE).bx
     clear hx0
     unfold ptrTo at HX
     generalize ((FB j).tick.2.length : Int) = nx at HX
     go_upto_region 22 with (go_at_call 31; refine (unhide HX).mono ?_; rintro r z1 ⟨rfl, k1, k2⟩; have HD1 := hide k1; have HZ1 := hide ((unhide HB).trans (k2.bel (unhide HBX))); clear k1 k2)
     clear HX HBX HE HB
     have HC := hide ((unhide HD1).log 0)
     unfold ptrTo at HC
     go_upto_region 23 with (go_at_call 32; refine (unhide HC).mono ?_; rintro r z2 ⟨lv1, rfl, ho, hy⟩; have HD2 := hide ((unhide HD1).more hy).swap; have HZ2 := hide ((unhide HZ1).trans (hy.mono (unhide HZ1).size)); have HL1 := hide ho; obtain ⟨lad1, lcap1, rfl, _⟩ := listAt_own ho; clear ho hy)
     clear HC HD1 HZ1
     have hc0 := (unhide HD2).tick (by omega)
     rw [(unhide HST).2.2.2, ← (unhide HST).2.1.1] at hc0
     have HC := hide hc0
     clear hc0
     unfold ptrTo at HC
     go_upto_region 24 with (go_at_call 24; refine (unhide HC).mono ?_; rintro r z3 ⟨lvT, fsT, rfl, ho, k1, k2⟩; have HD3 := hide k1; have HS3 := hide k2; have HZ3 := hide ((unhide HZ2).trans (k2.bel (unhide HD2).bx)); have HOT := hide ho; obtain ⟨tad, tcap, e, _⟩ := (own_rowO ho.row).shape; rw [show fsT.length = FL.length by rw [ho.len]; simp] at e; subst e; clear ho k1 k2)
     have hwlt1 : ∀ g, (Value.slice lad1 (strs (skLogs S2 0)).length lcap1).ownBlock = some g → z1.heap.size ≤ g ∧ g < z2.heap.size := fun g hg => World.ownsRow.lt (unhide HL1) g hg
     have hlen1 : (skLogs S2 0).length ≤ 1000000000 := by have := (unhide HF1).2.2.2.2.2.2.2; omega
     rw [strs_length] at hwlt1 HL1 ⊢
     obtain ⟨LG, hLG⟩ : ∃ LG, LG = skLogs S2 0 := ⟨_, rfl⟩
     have HLG := hide hLG
     rw [← hLG] at hwlt1 HL1 hlen1 ⊢
     have HW1 := hide hwlt1
     have HLN := hide hlen1
     have HG3 : Hid (∀ j, (z1.heap.size ≤ j ∧ j < z2.heap.size) ∨ Outs (.slice tad FL.length tcap) fsT j → ((fun j => (False ∨ z1.heap.size ≤ j ∧ j < z2.heap.size) ∨ Outs (.slice tad FL.length tcap) fsT j) j)) := fun j hj => hj.imp (fun h => .inr h) id
     have HD3' := hide ((unhide HD3).less (unhide HG3))
     obtain ⟨GG, hGG⟩ : ∃ GG : Nat → Prop, GG = fun j => (z1.heap.size ≤ j ∧ j < z2.heap.size) ∨ Outs (.slice tad FL.length tcap) fsT j := ⟨_, rfl⟩
     have HGG := hide hGG
     rw [← hGG] at HD3'
     have HLk1 : Hid (z3.ownsRow z1.heap.size 9 1 (.slice lad1 LG.length lcap1) LG.length (strs LG)) := ownsRow_keepB (unhide HL1) (fun g hg => (unhide HS3).blk ((unhide HW1) g hg).2 (.inr ((unhide HW1) g hg)))
     clear hwlt1 hlen1 hLG HG3 HD3 hGG HC HD2 HZ2 HS3 HL1
     go_wp2
     go_loopw [18] (fun i wr => ∃ j : Nat, j ≤ FL.length ∧ i = .int .i64 j ∧ Duo A.C D w.heap.size 22 wr va vs (ST j).1 (ST j).2.1 vb B1 GG ∧ Same w.heap.size GG z3 wr) (fun i _ => FL.length - (intOf i).toNat)
     case atStart =>
      refine ⟨0, by omega, rfl, ?_, Same.refl _ _ _⟩
      rw [(unhide HST).2.1.2]
      exact unhide HD3'
     case round =>
      obtain ⟨i, hi, rfl, hE, hS⟩ := hrel
      clear HD3'
      have HE := hide hE
      have HS := hide hS
      clear hE hS
      by_cases hlt : i < FL.length
      ·have hji : (i : Int) < (FL.length : Int) := by omega
       have hj0 : (0 : Int) ≤ (i : Int) := by omega
       obtain ⟨rr, kk, e1, e2, e3⟩ := (unhide HST).1 i hlt
       have hO3 := (unhide HOT).keep (fun q hq => (unhide HS).blk ((unhide HOT).lt q hq).2 (by rw [unhide HGG]; exact .inr hq))
       obtain ⟨g, cap, vad, vcap, hadd, hcl, hgl, cj, hat⟩ := outs_get hO3 (i := i) (by simpa using hlt)
       simp only [List.getElem_map, List.length_map] at hadd hcl cj hat
       injection hadd with hadd hmid hcc
       clear hmid
       subst hadd hcc
       have hc0 := (unhide HE).take _ FL[i] (by simpa using hat)
       rw [e1] at hc0
       dsimp only at hc0
       have HC := hide hc0
       have HI := hide (And.intro hlt (And.intro e2 e3))
       generalize hfl : FL[i].length = fl at cj HC
       have cj2 : wr.cell? ⟨g, i, none⟩ = some (.slice vad fl vcap) := by simpa [hfl] using cj
       have HBX := hide (unhide HE).bx
       clear hc0 e1 e2 e3 hO3 hat cj hfl
       unfold ptrTo at HC
       go_upto_region 28 with (go_at_call 27; refine (unhide HC).mono ?_; rintro r y1 ⟨lv2, fs2, rfl, ho2, k1, k2⟩; have HDa := hide k1; have HSa := hide ((unhide HS).trans k2 (fun _ _ h => h)); have HOa := hide ho2; have HBa := hide k1.bx; obtain ⟨ad2, cap2, e2, _⟩ := (own_rowO ho2.row).shape; rw [show fs2.length = 1 from ho2.len] at e2; subst e2; clear ho2 k1 k2)
       obtain ⟨g2, cp2, vad2, vcap2, hadd2, hcl2, hgl2, cja, hat2⟩ := outs_get (unhide HOa) (i := 0) (by simp)
       simp only [List.length_cons, List.length_nil, List.getElem_cons_zero] at hadd2 hcl2 cja hat2
       injection hadd2 with hadd2 hmid hcc2
       clear hmid
       subst hadd2 hcc2
       have HHR := hide ((unhide HDa).hear (by omega) _ _ hat2)
       generalize rr.data.toList.length = fl2 at cja HHR
       clear HC cj2 hat2
       unfold ptrTo at HHR
       go_wp2_with (go_at_call 28; refine (unhide HHR).mono ?_; rintro r y2 ⟨rfl, k1, k2⟩; have HDb := hide k1; have HSb := hide ((unhide HSa).trans (k2.less (fun _ h => .inl h)) (fun _ _ h => h)); clear k1 k2)
       go_roundw
       case rel =>
        obtain ⟨q1, q2, q3⟩ := unhide HI
        refine ⟨i + 1, by omega, by go_num, ?_, unhide HSb⟩
        rw [q2, q3]
        exact (unhide HDb).less (fun _ h => .inl h)
       case measure => have := (unhide HI).1; simp [intOf]; omega
      ·have hje : i = FL.length := by omega
       subst hje
       have hji : ¬ (FL.length : Int) < (FL.length : Int) := by omega
       have HD4 : Hid (Duo A.C D w.heap.size 22 wr va vs A3 S3 vb B1 GG) := by
        have h := unhide HE
        rw [(unhide HST).2.2.1.1, (unhide HST).2.2.1.2] at h
        exact h
       have HLk2 : Hid (wr.ownsRow z1.heap.size 9 1 (.slice lad1 LG.length lcap1) LG.length (strs LG)) := ownsRow_keepB (unhide HLk1) (fun g hg => (unhide HS).blk (World.ownsRow.lt (unhide HLk1) g hg).2 (by rw [unhide HGG]; exact .inl ((unhide HW1) g hg)))
       have HZ4 := hide ((unhide HZ3).trans ((unhide HS).bel (unhide HZ3).size))
       have hc0 := (unhide HD4).log 0
       rw [(unhide HF1).2.2.1, ← unhide HLG] at hc0
       have HC := hide hc0
       clear hc0 HE HS HZ3 HLk1
       unfold ptrTo at HC
       go_upto_region 32 with (go_at_call 32; refine (unhide HC).mono ?_; rintro r z5 ⟨lv3, rfl, ho, hy⟩; have HD5b := hide ((unhide HD4).more hy); have HZ5 := hide ((unhide HZ4).trans (hy.mono (unhide HZ4).size)); have HLk3 := hide (ownsRow_keepB (unhide HLk2) (fun g hg => hy.block g (World.ownsRow.lt (unhide HLk2) g hg).2)); have hl3 := World.ownsRow.lt ho; have HL3 := hide ho; obtain ⟨lad3, lcap3, rfl, _⟩ := listAt_own ho; clear ho hy)
       rw [strs_length] at HL3 hl3 ⊢
       have HW3 := hide hl3
       clear hl3 HC HD4 HZ4 HLk2
       have hc0 := (unhide HD5b).tick (by omega)
       rw [(unhide HF1).2.2.2.1] at hc0
       have HC := hide hc0
       clear hc0
       unfold ptrTo at HC
       go_upto_region 33 with (go_at_call 24; refine (unhide HC).mono ?_; rintro r z6 ⟨lvT2, fsT2, rfl, ho, k1, k2⟩; have HD6 := hide ((k1.less (fun _ h => .inl h)).swap); have HS6 := hide k2; have HZ6 := hide ((unhide HZ5).trans (k2.bel (unhide HD5b).bx)); obtain ⟨tad2, tcap2, e, _⟩ := (own_rowO ho.row).shape; rw [show fsT2.length = 0 from ho.len] at e; subst e; clear ho k1 k2)
       have HLk4 : Hid (z6.ownsRow z1.heap.size 9 1 (.slice lad1 LG.length lcap1) LG.length (strs LG)) := ownsRow_keepB (unhide HLk3) (fun g hg => (unhide HS6).blk (World.ownsRow.lt (unhide HLk3) g hg).2 (.inl (by rw [unhide HGG]; exact .inl ((unhide HW1) g hg))))
       have HL4 : Hid (z6.ownsRow wr.heap.size 9 1 (.slice lad3 LG.length lcap3) LG.length (strs LG)) := ownsRow_keepB (unhide HL3) (fun g hg => (unhide HS6).blk (World.ownsRow.lt (unhide HL3) g hg).2 (.inr ((unhide HW3) g hg)))
       obtain ⟨G5, hG5⟩ : ∃ G5 : Nat → Prop, G5 = fun j => GG j ∨ (wr.heap.size ≤ j ∧ j < z5.heap.size) := ⟨_, rfl⟩
       rw [← hG5] at HD6
       have HG5 := hide hG5
       have hB1 := (unhide HD6).bx
       clear hG5 HC HD5b HZ5 HLk3 HL3 HS6
       obtain ⟨A5, hA5⟩ : ∃ A5, A5 = A3.tick.1 := ⟨_, rfl⟩
       rw [← hA5] at HD6
       clear hA5
       go_wp2
       go_loopw [23] (fun i wq => ∃ t : Nat, t ≤ 12 ∧ i = .int .i64 t ∧ Duo A.C D w.heap.size (23 + t) wq vb vs (A4 t).1 (A4 t).2 va A5 G5 ∧ Same w.heap.size G5 z6 wq) (fun i _ => 12 - (intOf i).toNat)
       case atStart =>
        refine ⟨0, by omega, rfl, ?_, Same.refl _ _ _⟩
        rw [(unhide HEX).1]
        exact unhide HD6
       case round =>
        obtain ⟨t, ht12, rfl, hE, hS⟩ := hrel
        clear HD6
        have HE := hide hE
        have HS := hide hS
        clear hE hS
        by_cases hlt : t < 12
        ·have hti : (t : Int) < 12 := by omega
         have hc0 := (unhide HE).exch (by omega)
         have e4 := (unhide HEX).2.1 t
         have e1 : (exchM (A4 t).1 (A4 t).2).1 = (A4 (t + 1)).1 := by rw [e4]
         have e2 : (exchM (A4 t).1 (A4 t).2).2.1 = (A4 (t + 1)).2 := by rw [e4]
         rw [e1, e2] at hc0
         generalize (exchM (A4 t).1 (A4 t).2).2.2 = okx at hc0
         generalize ((A4 t).1.tick.2.length : Int) = nx2 at hc0
         have HC := hide hc0
         clear hc0 e1 e2 e4
         unfold ptrTo at HC
         go_wp2_with (go_at_call 31; refine (unhide HC).mono ?_; rintro r y1 ⟨rfl, k1, k2⟩; have HDa := hide k1; have HSa := hide ((unhide HS).trans k2 (fun _ _ h => h)); clear k1 k2)
         go_roundw
         case rel => exact ⟨t + 1, by omega, by go_num, unhide HDa, unhide HSa⟩
         case measure => simp [intOf]; omega
        ·have hte : t = 12 := by omega
         subst hte
         have hti : ¬ ((12 : Nat) : Int) < 12 := by omega
         have HD7 : Hid (Duo A.C D w.heap.size 35 wr vb vs EN.1 EN.2 va A5 G5) := by
          have h := unhide HE
          rw [(unhide HEX).2.2] at h
          exact h
         have HLk5 := hide (ownsRow_keepB (unhide HLk4) (fun g hg => (unhide HS).blk (World.ownsRow.lt (unhide HLk4) g hg).2 (by rw [unhide HG5]; exact .inl (by rw [unhide HGG]; exact .inl ((unhide HW1) g hg)))))
         have HL5 := hide (ownsRow_keepB (unhide HL4) (fun g hg => (unhide HS).blk (World.ownsRow.lt (unhide HL4) g hg).2 (by rw [unhide HG5]; exact .inr ((unhide HW3) g hg))))
         have HZ7 := hide ((unhide HZ6).trans ((unhide HS).bel (unhide HZ6).size))
         clear HE HS HLk4 HL4 HZ6
         have HC := hide ((unhide HD7).log 0)
         unfold ptrTo at HC
         go_upto_region 38 with (go_at_call 32; refine (unhide HC).mono ?_; rintro r z8 ⟨lv5, rfl, ho, hy⟩; have HD8 := hide ((unhide HD7).below hy); have HZ8 := hide ((unhide HZ7).trans (hy.mono (unhide HZ7).size)); have HLk6 := hide (listAt_own (ownsRow_keepB (unhide HLk5) (fun g hg => hy.block g (World.ownsRow.lt (unhide HLk5) g hg).2))); have HL6 := hide (listAt_own (ownsRow_keepB (unhide HL5) (fun g hg => hy.block g (World.ownsRow.lt (unhide HL5) g hg).2))); obtain ⟨lad5, lcap5, rfl, _⟩ := listAt_own ho; clear ho hy)
         rw [strs_length, (unhide HF1).2.2.2.2.2.1]
         clear HC HD7 HZ7 HLk5 HL5
         have hsm := keepSame_any z8 _ _ _ _ (unhide HLk6) (unhide HL6) (unhide HLN)
         rw [show decide (LG = LG) = true by simp] at hsm
         have HC := hide hsm
         clear hsm
         go_upto_region 39 with (go_at_call 33; refine (unhide HC).mono ?_; rintro r z9 ⟨rfl, q9, rfl⟩; have HD9 := hide ((unhide HD8).below (below_drewN (Below.refl _ _) q9)); have HZ9 := hide (below_drewN (unhide HZ8) q9))
         clear HC HD8 HZ8 HLk6 HL6
         have hc0 := (unhide HD9).spool 0
         rw [(unhide HF1).2.2.2.2.2.2.1] at hc0
         have HC := hide hc0
         clear hc0
         unfold ptrTo at HC
         go_upto_region 40 with (go_at_call 26; refine (unhide HC).mono ?_; rintro r z10 ⟨lv6, rfl, ho, hy⟩; have HD10 := hide ((unhide HD9).below hy); have HZ10 := hide ((unhide HZ9).trans (hy.mono (unhide HZ9).size)); obtain ⟨lad6, lcap6, rfl, _⟩ := listAt_own ho; clear ho hy)
         rw [show (strs ([] : List ByteArray)).length = 0 from rfl]
         have hc0 := (unhide HD10).epochS
         rw [(unhide HF1).2.2.2.2.1] at hc0
         have HC : Hid (Calls Tryz.prog 42 #[.pointer (some ⟨vs, 0, none⟩)] z10 fun r y => r = .returned (.int .i64 2) ∧ Below z10.heap.size z10 y) := hc0
         clear hc0
         obtain rfl : N0 = n + 1 := unhide HN0
         have hfl0 : (0 : Int) < (FL.length : Int) := by omega
         go_wp2_with (go_at_call 42; refine (unhide HC).mono ?_; rintro r z11 ⟨rfl, hy⟩; have HZ11 := hide ((unhide HZ10).trans (hy.mono (unhide HZ10).size)); clear hy)
         go_ret
         exact ⟨rfl, unhide HZ11⟩
end Go.Proofs.YtamafdcnbcoegaaGreat
namespace Go.Proofs.YtamafdcnbcoegaaGreat
open Go.ChangeShapes Go.WideShapes Go.ChangeAt Go.RowKit
theorem Tryz.own : ownKnob Tryz.prog.godebug = none := by kernel_rfl
theorem Tryz.laidOut : laidOutB Tryz.prog = true := by kernel_rfl
theorem strCells : Tryz.prog.cellsOf 9 = 1 := by kernel_rfl
end Go.Proofs.YtamafdcnbcoegaaGreat
namespace Go.Proofs.YtamafdcnbcoegaaGreat
open Go.ChangeShapes Go.WideShapes Go.ChangeAt Go.RowKit
theorem i64_wf {n : Int} (h : (Lit.int .i64 n).wf = true) : -9223372036854775808 ≤ n ∧ n ≤ 9223372036854775807 := by
 simp only [Lit.wf, Bool.and_eq_true, decide_eq_true_eq] at h
 rw [show IntKind.i64.min = -9223372036854775808 from by decide, show IntKind.i64.max = 9223372036854775807 from by decide] at h
 exact h
theorem open_int {H : Type} {enc : TypeId × Value → H} {w : World} {base : Nat} {spare : Nat → Bool} {held : Bool} {v : Value} {d : DataW H} {p : List MemPlace}
  (h : DataW.Trod enc Tryz.prog w base spare held 3 v d p) (hv : ∃ n, v = .int .i64 n) : ∃ n : Int, v = .int .i64 n ∧ -9223372036854775808 ≤ n ∧ n ≤ 9223372036854775807 := by
 obtain ⟨n, rfl⟩ := hv
 obtain ⟨fuel, hf⟩ := h
 have hcs : (Value.int .i64 n).cells.toList = [.int .i64 n] := rfl
 rw [hcs] at hf
 obtain ⟨c, e, _, wf⟩ := DataW.trod_int Tryz.underlying3 hf
 simp at e
 subst e
 exact ⟨n, rfl, i64_wf wf⟩
end Go.Proofs.YtamafdcnbcoegaaGreat
namespace Go.Proofs.YtamafdcnbcoegaaGreat
open Go.ChangeShapes Go.WideShapes Go.ChangeAt Go.RowKit
set_option maxRecDepth 100000 in
theorem fenced_lifted {top : Nat} (A : AgentD top) (D : SinkC) (ht : 1000 ≤ top) (os : Os) (started : os.Started) (H : Type) (enc : TypeId × Value → H) :
  ReturnsInHanded {} Tryz.checked os 11 .any (Rows.fencedSpec.pre6 enc Tryz.prog Tryz.f11 Rows.fencedRow.domain false) (Rows.fencedSpec.post enc Tryz.prog Tryz.f11 false true false false) := by
 refine returnsInHanded_of_change_sized (C := Tryz.checked) Tryz.own started (by kernel_rfl) Tryz.func11
  (ChangeSpec.witness6 (enc := enc) (C := Tryz.checked) false ⟨#[], #[.int .i64 0, .int .i64 0], []⟩ 8 (by kernel_rfl) (by kernel_rfl) (by kernel_rfl) (by kernel_rfl)) ?_
 intro W base args ds gs before hval0 hW hcnd hsz0 hholds
 have hval : ∀ (j : Nat) t v, Tryz.f11.params[j]? = some t → args[j]? = some v → Value.okWide Tryz.prog W .any base t v := hval0
 have hsz : (DataW.weightsEach Tryz.prog (Tryz.f11.params.toList ++ Rows.fencedSpec.plain.varTypes Tryz.prog) (ds ++ gs)).all (· ≤ reachBytes) = true := hsz0
 have hW' := hW
 obtain ⟨p, q, hA0, hV, rfl, hfz, hnd⟩ := hW
 have hA : DataW.TrodAll enc Tryz.prog W 0 (fun _ => true) true Tryz.f11.params.toList args.toList ds p := hA0
 rw [Tryz.params11] at hA hval hsz
 obtain ⟨v0, vs0, d0, ds0, p0, q0, hargs, rfl, rfl, h0, r0⟩ := trodAll_cons hA
 obtain ⟨v1, vs1, d1, ds1, p1, q1, rfl, rfl, rfl, h1, r1⟩ := trodAll_cons r0
 obtain ⟨rfl, rfl, rfl⟩ := trodAll_nil r1
 obtain rfl : args = #[v0, v1] := by cases args; simp_all
 obtain ⟨rfl, rfl⟩ := trodVars_none hV
 have k0 := h0
 have k1 := h1
 have lt0 : ∀ x ∈ p0, x.block < W.heap.size := by obtain ⟨m, hm⟩ := k0; exact DataW.trod_lt m _ _ _ hm
 have lt1 : ∀ x ∈ p1, x.block < W.heap.size := by obtain ⟨m, hm⟩ := k1; exact DataW.trod_lt m _ _ _ hm
 obtain ⟨n0, rfl, hn0⟩ := open_int h0 (okWide_int Tryz.underlying3 (hval 0 3 v0 rfl rfl))
 obtain ⟨n1, rfl, hn1⟩ := open_int h1 (okWide_int Tryz.underlying3 (hval 1 3 v1 rfl rfl))
 clear hA0 hval0 hsz0
 refine (fenced_any A D ht n0 n1 W hn0 hn1).mono fun e W' ⟨he, bel⟩ => ?_
 subst he
 exact ⟨_, rfl, _, _, _, [], _, [], hW', trodAll_mk1 (shut_bool Tryz.underlying4 _), (trodAll_cons_mk (Below.trod Tryz.laidOut (by kernel_rfl) (of_decide_eq_true (by kernel_rfl)) k0 bel lt0) (trodAll_cons_mk (Below.trod Tryz.laidOut (by kernel_rfl) (of_decide_eq_true (by kernel_rfl)) k1 bel lt1) trodAll_mk0)), rfl, bel.frame _, fun h => by cases h⟩
theorem fenced_holds {top : Nat} (A : AgentD top) (D : SinkC) (ht : 1000 ≤ top) : Rows.FencedSaid :=
 OpenClaim.holds_of_wide 11 Tryz.f11 rfl rfl rfl rfl rfl rfl rfl ⟨rfl, rfl, rfl, rfl, rfl⟩ rfl rfl rfl rfl rfl (by kernel_rfl) Tryz.func11 (by kernel_rfl)
  (of_decide_eq_true (by kernel_rfl)) (by unfold Func.isWrapper; rw [if_neg (by decide +kernel)]; exact ⟨rfl, rfl⟩)
  (fun os started H enc _ => fenced_lifted A D ht os started H enc)
end Go.Proofs.YtamafdcnbcoegaaGreat
