/-
  Part 6 of a proof: MonoCut, T2, U1, U2, F1, S10, S11, S12, S7U, S8U, S7I, S8I, S9I.
-/
import Derived.RangeFuncNested
import Derived.RangeFuncBound
import Derived.RangeFuncCalls
import Derived.RangeFuncLeaves
import Derived.Shelf.Abstract
import Derived.Shelf.RegionOpen
import Derived.OwnWalkIn
import Derived.TacticsInMore
import Derived.LoopNIn
import Derived.LoopIn
import Derived.Test.YtamafdcnbcoegaaGreatMd5
namespace Go.Proofs.YtamafdcnbcoegaaGreat
open Go.RowKit
def lateB (ops : Array Oper) (c : Nat) : Bool := (List.range ops.size).all fun k => decide (k ≤ c) || (List.range ops.size).any fun j => decide (c ≤ j) && depB ops k j
def doneTo (c n : Nat) : Array Bool := ((List.range n).map fun k => decide (k ≤ c)).toArray
theorem countP_range_le (i : Nat) : ∀ n, i ≤ n → (List.range n).countP (fun k => decide (i ≤ k)) = n - i
 | 0, h => by simp
 | n + 1, h => by
  rw [List.range_succ, List.countP_append, List.countP_singleton]
  by_cases hin : i ≤ n
  ·rw [countP_range_le i n hin]; simp [hin]; omega
  ·have : i = n + 1 := by omega
   subst this
   have h0 : (List.range n).countP (fun k => decide (n + 1 ≤ k)) = 0 := by
    rw [List.countP_eq_zero]
    intro k hk
    have := List.mem_range.1 hk
    simp; omega
   rw [h0]; simp
section
variable {P : Program} {ops : Array Oper} {Q : Exit → Act → World → Prop}
theorem mono_any_cut {a0 : Act} {w0 : World} (Φ : Nat → Value → World → Prop) (hok : monoOk ops a0.tmps.size = true) (last : Nat) (hn : last < ops.size) (hcov : coverB ops last = true) (hlate : lateB ops last = true)
  (hst : ∀ i v w w', Φ i v w → Below w.heap.size w w' → Φ i v w')
  (hop : ∀ i o, i < last → ops[i]? = some o → ∀ a w, Below w0.heap.size w0 w → GoodAct ops Φ a0 i o a w →
   if Region.wanted o (yielded ops a.tmps) = true then o.wp P a w (fun a' w' => ∃ v, a' = a.put o.dst v ∧ Below w.heap.size w w' ∧ Φ i v w') Q else Φ i undef w)
  (hend : ∀ a w, Below w0.heap.size w0 w → (∀ i o d, i < last → ops[i]? = some o → o.dst = some d → Φ i (a.tmps.getD d undef) w) → (∀ t, (∀ j, wr ops t = some j → last ≤ j) → a.tmps.getD t undef = a0.tmps.getD t undef) → a.defers = a0.defers → a.tmps.size = a0.tmps.size → wpOp P ops Q last (fun a' w' => ∀ fuel, ops.size ≤ fuel + last + 1 → wpAny P .any ops Q fuel (doneTo last ops.size) a' w') a w) :
  ∀ (fuel : Nat) (L : Array Bool) (a : Act) (w : World), MonoInv ops Φ a0 w0 L a w → (∀ k, last ≤ k → L.getD k false = false) → (List.range ops.size).countP (fun i => !L.getD i false) ≤ fuel → wpAny P .any ops Q fuel L a w := by
 have hrdy : ∀ (L : Array Bool) (a : Act) (w : World), MonoInv ops Φ a0 w0 L a w → L.getD last false = false → Region.ready .any ops L = [] → False := by
  intro L a w hI hlast hr
  have hall : ∀ n i, i < n → i < ops.size → L.getD i false = true := by
   intro n
   induction n with
   | zero => intro i h; omega
   | succ n ih =>
    intro i h hi
    by_cases hin : i < n
    ·exact ih i hin hi
    ·have e : i = n := by omega
     subst e
     cases hL : L.getD i false
     ·exfalso
      have ho : ops[i]? = some ops[i] := Array.getElem?_eq_getElem hi
      obtain ⟨_, _, h3⟩ := monoOk_spec hok ho
      have : i ∈ Region.ready .any ops L := mem_ready.2 ⟨by
       have hs : i < L.size := by rw [hI.size]; exact hi
       rw [Array.getD_eq_getD_getElem?, Array.getElem?_eq_getElem hs] at hL ⊢
       exact hL, ops[i], ho, fun e he hb => by
       have hd : depB ops i e.on = true := by
        unfold depB
        rw [ho]
        exact Array.any_eq_true'.2 ⟨e, he, by simp [hb]⟩
       have hlt := h3 _ hd
       exact ih e.on hlt (by omega)⟩
      rw [hr] at this
      cases this
     ·rfl
  have := hall ops.size last (by omega) (by omega)
  rw [hlast] at this; cases this
 have hcl : ∀ (L : Array Bool) (a : Act) (w : World), MonoInv ops Φ a0 w0 L a w → (∀ j, depB ops last j = true → L.getD j false = true) → ∀ n i, last ≤ i + n → i < last → L.getD i false = true := by
  intro L a w hI hdl n
  induction n with
  | zero => intro i h hi; omega
  | succ n ih =>
   intro i h hi
   unfold coverB at hcov
   have h1 := List.all_eq_true.1 hcov i (List.mem_range.2 hi)
   obtain ⟨k, hk, hd⟩ := List.any_eq_true.1 h1
   have hk' : k < last + 1 := List.mem_range.1 hk
   by_cases hkl : k = last
   ·subst hkl; exact hdl i hd
   ·have hlt : i < k := by
     unfold depB at hd
     cases hok' : ops[k]? with
     | none => rw [hok'] at hd; cases hd
     | some ok =>
      obtain ⟨_, _, h3⟩ := monoOk_spec hok hok'
      exact h3 i (by unfold depB; exact hd)
    exact hI.closed k (ih k (by omega) (by omega)) i hd
 have hwait : ∀ k, last < k → k < ops.size → ∃ j, last ≤ j ∧ depB ops k j = true := by
  intro k h1 h2
  unfold lateB at hlate
  have := List.all_eq_true.1 hlate k (List.mem_range.2 h2)
  simp only [Bool.or_eq_true, decide_eq_true_eq] at this
  rcases this with h | h
  ·omega
  ·obtain ⟨j, hj, hd⟩ := List.any_eq_true.1 h
   simp only [Bool.and_eq_true, decide_eq_true_eq] at hd
   exact ⟨j, hd.1, hd.2⟩
 intro fuel
 induction fuel with
 | zero =>
  intro L a w hI hun hc
  have hlast := hun last (Nat.le_refl _)
  have : 0 < (List.range ops.size).countP (fun i => !L.getD i false) := List.countP_pos_iff.2 ⟨last, List.mem_range.2 (by omega), by simp only [hlast]; rfl⟩
  omega
 | succ fuel ih =>
  intro L a w hI hun hc
  have hlast := hun last (Nat.le_refl _)
  refine ⟨fun h => (hrdy L a w hI hlast h).elim, fun i hi => ?_⟩
  obtain ⟨h0, o, ho, hdeps⟩ := mem_ready.1 hi
  have hlt : i < ops.size := (Array.getElem?_eq_some_iff.1 ho).1
  have hls : i < L.size := by rw [hI.size]; exact hlt
  have h0' : L.getD i false = false := by
   rw [Array.getD_eq_getD_getElem?, Array.getElem?_eq_getElem hls] at h0 ⊢
   exact h0
  obtain ⟨hd, hl, hlex⟩ := monoOk_spec hok ho
  have hdl : ∀ j, depB ops i j = true → L.getD j false = true := by
   intro j hj
   unfold depB at hj
   rw [ho] at hj
   obtain ⟨e, he, hb⟩ := Array.any_eq_true'.1 hj
   simp only [Bool.and_eq_true, beq_iff_eq] at hb
   rw [← hb.2]; exact hdeps e he hb.1
  by_cases hil : i = last
  ·subst hil
   have hall := hcl L a w hI hdl i
   refine wpOp_mono ?_ (hend a w hI.ext (fun j o' d hj ho' hd' => hI.vals j o' d ho' hd' (hall j (by omega) hj)) (fun t ht => hI.rest t (fun j hj => hun j (ht j hj))) hI.defers hI.tsize)
   intro a' w' hq
   have hL : L.setIfInBounds i true = doneTo i ops.size := by
    apply Array.ext
    ·simp [doneTo, hI.size]
    ·intro k h1 h2
     have hk : k < ops.size := by simpa [doneTo] using h2
     simp only [doneTo, List.getElem_toArray, List.getElem_map, List.getElem_range]
     have hks : k < L.size := by rw [hI.size]; exact hk
     rw [Array.getElem_setIfInBounds (by exact hks)]
     by_cases hki : i = k
     ·simp [hki]
     ·rw [if_neg hki]
      have hg : L.getD k false = L[k] := by rw [Array.getD_eq_getD_getElem?, Array.getElem?_eq_getElem hks]; rfl
      by_cases hlt : k < i
      ·rw [← hg, hall k (by omega) hlt]
       simp; omega
      ·rw [← hg, hun k (by omega)]
       simp; omega
   rw [hL]
   refine hq fuel ?_
   have hcount : (List.range ops.size).countP (fun k => !L.getD k false) = ops.size - i := by
    have : (List.range ops.size).countP (fun k => !L.getD k false) = (List.range ops.size).countP (fun k => decide (i ≤ k)) := by
     apply List.countP_congr
     intro k hk
     have hk' := List.mem_range.1 hk
     by_cases hlt : k < i
     ·rw [hall k (by omega) hlt]; simp; omega
     ·rw [hun k (by omega)]; simp; omega
    rw [this]
    exact countP_range_le i ops.size (by omega)
   omega
  have hil2 : i < last := by
   rcases Nat.lt_or_ge last i with h | h
   ·obtain ⟨j, hj, hd'⟩ := hwait i h hlt
    have := hdl j hd'
    rw [hun j hj] at this
    cases this
   ·omega
  have hlt' : i < last := by omega
  have hgood : GoodAct ops Φ a0 i o a w := by
   intro t ht
   cases hw : wr ops t with
   | none => exact hI.rest t (fun j hj => by rw [hw] at hj; cases hj)
   | some j =>
    simp only []
    have hj := List.find?_some hw
    simp only [beq_iff_eq] at hj
    split
    ·rename_i hdep
     cases hoj : ops[j]? with
     | none => rw [hoj] at hj; cases hj
     | some oj =>
      rw [hoj] at hj
      exact hI.vals j oj t hoj hj (hdl j hdep)
    ·rename_i hdep
     refine hI.rest t (fun j' hj' => ?_)
     rw [hw] at hj'
     cases hj'
     rcases hl t ht j hw with h | h
     ·exact absurd h hdep
     ·cases hLj : L.getD j false
      ·rfl
      ·have := hI.closed j hLj i h
       rw [h0'] at this; cases this
  have hstep : ∀ v w', Below w.heap.size w w' → Φ i v w' → MonoInv ops Φ a0 w0 (L.setIfInBounds i true) (a.put o.dst v) w' := by
   intro v w' hb hv
   have hget : ∀ k, (L.setIfInBounds i true).getD k false = true ↔ (k = i ∨ L.getD k false = true) := by
    intro k
    by_cases hk : k = i
    ·subst hk
     simp [Array.getD_eq_getD_getElem?, hls]
    ·rw [getD_set_ne false (fun e => hk e.symm)]
     simp [hk]
   have hput : ∀ t, (a.put o.dst v).tmps.getD t undef = if o.dst = some t then v else a.tmps.getD t undef := by
    intro t
    cases hdst : o.dst with
    | none => simp [Act.put]
    | some d =>
     simp only [Act.put, Option.some.injEq]
     have hdsz : d < a.tmps.size := by rw [hI.tsize]; exact (hd d hdst).1
     by_cases h : d = t
     ·subst h
      simp [Array.getD_eq_getD_getElem?, hdsz]
     ·simp [Array.getD_eq_getD_getElem?, h]
   refine ⟨by simp [hI.size], hI.ext.trans (hb.mono hI.ext.size), ?_, ?_, ?_, ?_, ?_⟩
   ·intro k hk j hj
    rw [hget] at hk ⊢
    rcases hk with rfl | hk
    ·exact .inr (hdl j hj)
    ·exact .inr (hI.closed k hk j hj)
   ·intro k ok d hok' hdk hk
    rw [hget] at hk
    rw [hput]
    rcases hk with rfl | hk
    ·rw [ho] at hok'; cases hok'
     rw [if_pos hdk]; exact hv
    ·have hne : o.dst ≠ some d := by
      intro e
      have h1 := (hd d e).2
      have h2 := ((monoOk_spec hok hok').1 d hdk).2
      rw [h1] at h2
      cases h2
      rw [h0'] at hk; cases hk
     rw [if_neg hne]
     exact hst k _ _ _ (hI.vals k ok d hok' hdk hk) hb
   ·intro t ht
    rw [hput]
    have hne : o.dst ≠ some t := by
     intro e
     have := ht i (hd t e).2
     have h2 := (hget i).2 (.inl rfl)
     rw [this] at h2; cases h2
    rw [if_neg hne]
    refine hI.rest t (fun j hj => ?_)
    cases hLj : L.getD j false
    ·rfl
    ·have := ht j hj
     rw [(hget j).2 (.inr hLj)] at this; cases this
   ·cases o.dst <;> exact hI.defers
   ·rw [← hI.tsize]; cases o.dst <;> simp [Act.put]
  have hcount : (List.range ops.size).countP (fun k => !(L.setIfInBounds i true).getD k false) ≤ fuel := by
   have := countP_lt (l := List.range ops.size) (p := fun k => !L.getD k false) (q := fun k => !(L.setIfInBounds i true).getD k false)
    (fun k _ hk => by
     by_cases hki : k = i
     ·subst hki; simp [h0']
     ·rw [getD_set_ne false (fun e => hki e.symm)] at hk; exact hk)
    ⟨i, List.mem_range.2 hlt, by simp [h0'], by simp [Array.getD_eq_getD_getElem?, hls]⟩
   omega
  have hun' : ∀ k, last ≤ k → (L.setIfInBounds i true).getD k false = false := fun k hk => by rw [getD_set_ne false (by omega)]; exact hun k hk
  have hg := hop i o hlt' ho a w hI.ext hgood
  unfold wpOp
  rw [ho]
  simp only []
  split at hg
  ·rename_i hw
   rw [if_pos hw]
   refine .inl (Oper.wp_mono ?_ hg)
   rintro a' w' ⟨v, rfl, hb, hv⟩
   exact ih _ _ _ (hstep v w' hb hv) hun' hcount
  ·rename_i hw
   rw [if_neg hw]
   exact ih _ _ _ (hstep undef w (Below.refl _ _) hg) hun' hcount
theorem wp_region_cut {id : Nat} {a0 : Act} {w0 : World} (hm : P.follows .mixedOrders = true) (L : List (Value → World → Prop)) (plan : List (List (Tmp × Option Nat))) (D : List (Option Tmp)) (M : List Bool) (last : Nat) (ol : Oper) (hol : ops[last]? = some ol) 
  (hn : last < ops.size) (hcov : coverB ops last = true) (hlate : lateB ops last = true)
  (hok : monoOk ops a0.tmps.size = true) (hplan : planOf ops = plan) (hD : dstsOf ops = D) (hM : maskOf ops a0.tmps.size = M) (hst : AllStable L) (hop : MonoOps P ops Q L a0 w0 (ops.toList.take last) plan L)
  (hwant : ∀ f w, AllWords f w (D.take last) L → Region.wanted ol (yielded ops (mergeT M a0.tmps.toList 0 f).toArray) = true)
  (hend : ∀ f w, Below w0.heap.size w0 w → AllWords f w (D.take last) L → ol.wp P { tmps := (mergeT M a0.tmps.toList 0 f).toArray, defers := a0.defers } w (fun a' w' => ∀ fuel, ops.size ≤ fuel + last + 1 → wpAny P .any ops Q fuel (doneTo last ops.size) a' w') Q) :
  (Code.region id ops true).wp P Q a0 w0 := by
 refine wp_region_any hm (mono_any_cut (w0 := w0) (fun i => L.getD i (fun _ _ => True)) hok last hn hcov hlate (fun i => allStable_get hst i) ?_ ?_ ops.size _ a0 _ ⟨by simp, (Below.refl _ _).drew, ?_, ?_, fun _ _ => rfl, rfl, rfl⟩ ?_ ?_)
 ·intro i o hil ho a w hb hg
  have hlt : i < ops.size := (Array.getElem?_eq_some_iff.1 ho).1
  have hpl : plan[i]? = some ((o.looksAt ops).map fun t => (t, match wr ops t with
     | some j => if depB ops i j = true then some j else none
     | none => none)) := by
   rw [← hplan]
   unfold planOf
   rw [List.getElem?_map, List.getElem?_range hlt, Option.map_some, ho]
   rfl
  exact monoOps_get hop i o _ (by rw [List.getElem?_take, if_pos hil]; simpa using ho) hpl a w hb (planFacts_of rfl (o := o) _ hg)
 ·intro a w hb hv hr hd hs
  have hwd : AllWords (fun t => a.tmps.getD t undef) w (D.take last) L := by
   rw [← hD, dstsOf, ← List.map_take]
   exact allWords_of (fun i o d ho hdd => by
    rw [List.getElem?_take] at ho
    split at ho
    ·rename_i hil
     exact hv i o d hil (by simpa using ho) hdd
    ·cases ho)
  have h := hend (fun t => a.tmps.getD t undef) w hb hwd
  have hw := hwant (fun t => a.tmps.getD t undef) w hwd
  have e : mergeT M a0.tmps.toList 0 (fun t => a.tmps.getD t undef) = a.tmps.toList := by
   refine mergeT_eq _ _ _ _ _ (by rw [← hM]; simp [maskOf]) (by simpa using hs) ?_ ?_
   ·intro j hj _
    simp [Array.getD_eq_getD_getElem?, List.getD_eq_getElem?_getD]
   ·intro j hj hb
    rw [← hM] at hb
    have hj' : j < a0.tmps.size := by rw [← hs]; simpa using hj
    have hw : wr ops j = none := by
     unfold maskOf at hb
     simp [List.getD_eq_getElem?_getD, List.getElem?_map, List.getElem?_range hj'] at hb
     exact hb
    have := hr j (fun k hk => by rw [hw] at hk; cases hk)
    simpa [Array.getD_eq_getD_getElem?, List.getD_eq_getElem?_getD] using this
  rw [e, ← hd] at h
  unfold wpOp
  rw [hol]
  simp only []
  rw [e] at hw
  rw [if_pos (by simpa using hw)]
  exact .inl h
 ·intro k hk
  simp [Array.getD_eq_getD_getElem?] at hk
  rcases h : (Array.replicate ops.size false)[k]? with _ | b <;> simp [h] at hk
  subst hk
  obtain ⟨h1, h2⟩ := Array.getElem?_eq_some_iff.1 h
  simp at h2
 ·intro i o d ho hd hk
  exfalso
  simp [Array.getD_eq_getD_getElem?] at hk
  rcases h : (Array.replicate ops.size false)[i]? with _ | b <;> simp [h] at hk
  subst hk
  obtain ⟨h1, h2⟩ := Array.getElem?_eq_some_iff.1 h
  simp at h2
 ·intro k _
  rw [Array.getD_eq_getD_getElem?]
  by_cases hk : k < ops.size
  ·simp [hk]
  ·simp [hk]
 ·exact Nat.le_trans List.countP_le_length (by simp)
theorem wpAny_one {L : Array Bool} {i f : Nat} {o : Oper} {a : Act} {w : World} (hr : Region.ready .any ops L = [i]) (ho : ops[i]? = some o) (hw : Region.wanted o (yielded ops a.tmps) = true)
  (h : o.wp P a w (fun a' w' => wpAny P .any ops Q f (L.setIfInBounds i true) a' w') Q) : wpAny P .any ops Q (f + 1) L a w := by
 refine ⟨fun h0 => (by rw [hr] at h0; cases h0), fun j hj => ?_⟩
 rw [hr, List.mem_singleton] at hj
 subst hj
 unfold wpOp
 rw [ho]
 simp only []
 rw [if_pos (by simpa using hw)]
 exact .inl h
theorem wpAny_end {L : Array Bool} {f : Nat} {a : Act} {w : World} (hr : Region.ready .any ops L = []) (h : Q .normal a w) : wpAny P .any ops Q f L a w := wpAny_done hr h _
end
end Go.Proofs.YtamafdcnbcoegaaGreat
namespace Go.Proofs.YtamafdcnbcoegaaGreat
open Go.RowKit
def skSays (a : Mod.Sk) (l : List UInt8) : Int × Mod.Sk × List ByteArray :=
 if Wire.reads l = true then (0, skReply a (Wire.kindOf l) (Wire.epochOf l) (Wire.streamOf l).toNat (Wire.seqOf l).toNat (Wire.bodyOf l)) else (1, a, [])
structure FramesOut (B : Nat) (w : World) (lv : Value) (fs : List Value) (Fl : List ByteArray) (U : Nat → Prop) : Prop where
 len : fs.length = Fl.length
 row : w.ownsRow B 44 1 lv fs.length fs
 each : ∀ (j : Nat) (v : Value), fs[j]? = some v → w.ownsRow B 5 1 v ((Fl.map fun b => b.data.toList).getD j []).length (bv ((Fl.map fun b => b.data.toList).getD j []))
 apart : ∀ (i j : Nat) (u v : Value), fs[i]? = some u → fs[j]? = some v → i ≠ j → ∀ g, u.ownBlock = some g → v.ownBlock ≠ some g
 clear : ∀ k, (lv.ownBlock = some k ∨ Done fs fs.length k) → ¬ U k
structure SinkC where
 At : World → Nat → Mod.Sk → (Nat → Prop) → Prop
 lt : ∀ {w v a U}, At w v a U → ∀ k, U k → k < w.heap.size
 far : ∀ {w w' v a U E}, At w v a U → Far E w w' → (∀ k, U k → ¬ E k) → At w' v a U
 deliver : ∀ {w v a U} (bs : Value) (l : List UInt8), At w v a U → SkGood a → BytesAt w bs l → Calls Tryz.prog 27 #[ptrTo v, bs] w fun r w' =>
  ∃ lv fs U', r = .returned (.tuple #[lv, .int .i64 (skSays a l).1]) ∧ FramesOut w.heap.size w' lv fs (skSays a l).2.2 U' ∧ At w' v (skSays a l).2.1 U' ∧ Far U w w' ∧ ∀ k, U' k → U k ∨ w.heap.size ≤ k
 epoch : ∀ {w v a U}, At w v a U → Calls Tryz.prog 42 #[ptrTo v] w fun r w' => r = .returned (.int .i64 a.epoch) ∧ Below w.heap.size w w'
 log : ∀ {w v a U} (i : Int), At w v a U → SkGood a → Calls Tryz.prog 32 #[ptrTo v, .int .i64 i] w fun r w' =>
  ∃ lv, r = .returned lv ∧ w'.ownsRow w.heap.size 9 1 lv (if 0 ≤ i ∧ i < 3 then a.logs i.toNat else []).length (strs (if 0 ≤ i ∧ i < 3 then a.logs i.toNat else [])) ∧ Below w.heap.size w w'
 opened : ∀ {w} (bs : Value), BytesAt w bs (List.replicate 7808 0) → Calls Tryz.prog 38 #[bs] w fun r w' =>
  ∃ v U, r = .returned (.tuple #[ptrTo v, .int .i64 0]) ∧ At w' v { epoch := 0, logs := fun _ => [], held := [] } U ∧ Below w.heap.size w w' ∧ ∀ k, U k → w.heap.size ≤ k
end Go.Proofs.YtamafdcnbcoegaaGreat
namespace Go.Proofs.YtamafdcnbcoegaaGreat
open Go.RowKit
structure AgGood (N : Nat) (a : Mod.Ag) : Prop where
 ep : a.epoch ≤ 2147483647
 tk : a.ticks ≤ N
 sum : ∀ s, s < 3 → (a.fl s).base + (a.fl s).kept.length ≤ N
 bod : ∀ s, s < 3 → ∀ x ∈ (a.fl s).kept, x.1.size ≤ 20 ∧ x.2 ≤ N
theorem AgGood.mono {N M : Nat} {a : Mod.Ag} (G : AgGood N a) (h : N ≤ M) : AgGood M a :=
 ⟨G.ep, Nat.le_trans G.tk h, fun s hs => Nat.le_trans (G.sum s hs) h, fun s hs x hx => ⟨(G.bod s hs x hx).1, Nat.le_trans (G.bod s hs x hx).2 h⟩⟩
theorem agGood_submit {N : Nat} {a : Mod.Ag} (G : AgGood N a) (s : Nat) (b : ByteArray) (hb : b.size ≤ 20) : AgGood (N + 1) (a.submit s b) := by
 refine ⟨G.ep, Nat.le_succ_of_le G.tk, fun t ht => ?_, fun t ht x hx => ?_⟩
 ·have := G.sum t ht
  unfold Mod.Ag.submit Mod.upd
  simp only
  split
  ·rename_i e
   subst e
   simp; omega
  ·omega
 ·unfold Mod.Ag.submit Mod.upd at hx
  simp only at hx
  split at hx
  ·rename_i e
   subst e
   rw [List.mem_append, List.mem_singleton] at hx
   rcases hx with hx | rfl
   ·exact ⟨(G.bod t ht x hx).1, Nat.le_succ_of_le (G.bod t ht x hx).2⟩
   ·exact ⟨hb, Nat.zero_le _⟩
  ·exact ⟨(G.bod t ht x hx).1, Nat.le_succ_of_le (G.bod t ht x hx).2⟩
theorem sendTo_mem (epoch s : Nat) (f : Mod.Flow) (ticks : Nat) : ∀ i, ∀ y ∈ (Mod.sendTo epoch s f ticks i).1, ∃ x ∈ f.kept, y.1 = x.1 ∧ (y.2 = x.2 ∨ y.2 = ticks)
 | 0 => fun y hy => ⟨y, hy, rfl, .inl rfl⟩
 | i + 1 => by
  intro y hy
  have ih := sendTo_mem epoch s f ticks i
  rw [Mod.sendTo] at hy
  split at hy
  ·exact ih y hy
  ·rename_i x hx
   split at hy
   ·rcases List.mem_or_eq_of_mem_set hy with hy | rfl
    ·exact ih y hy
    ·exact ⟨x, List.mem_of_getElem? hx, rfl, .inr rfl⟩
   ·exact ih y hy
theorem agGood_tick {N : Nat} {a : Mod.Ag} (G : AgGood N a) : AgGood (N + 1) a.tick.1 := by
 have h0 : AgGood (N + 1) { a with ticks := a.ticks + 1 } := ⟨G.ep, Nat.succ_le_succ G.tk, fun s hs => Nat.le_succ_of_le (G.sum s hs), fun s hs x hx => ⟨(G.bod s hs x hx).1, Nat.le_succ_of_le (G.bod s hs x hx).2⟩⟩
 unfold Mod.Ag.tick
 split
 ·exact h0
 ·split
  ·exact h0
  ·refine ⟨G.ep, Nat.succ_le_succ G.tk, fun s hs => ?_, fun s hs y hy => ?_⟩
   ·have := G.sum s hs
    simp only [Mod.sendFl, if_pos hs, sendTo_len]
    omega
   ·simp only [Mod.sendFl, if_pos hs] at hy
    obtain ⟨x, hx, h1, h2⟩ := sendTo_mem _ _ _ _ _ y hy
    have h3 := G.bod s hs x hx
    refine ⟨h1 ▸ h3.1, ?_⟩
    have := G.tk
    rcases h2 with h2 | h2
    ·omega
    ·omega
theorem agGood_drop {N : Nat} {a : Mod.Ag} (G : AgGood N a) (n : Nat → Nat) (hn : ∀ s, s < 3 → n s ≤ (a.fl s).kept.length) : AgGood N (a.drop n) := by
 refine ⟨G.ep, G.tk, fun s hs => ?_, fun s hs x hx => ?_⟩
 ·have := G.sum s hs
  have := hn s hs
  simp only [Mod.Ag.drop, Mod.dropTo, if_pos hs, Mod.Flow.drop, List.length_drop]
  omega
 ·simp only [Mod.Ag.drop, Mod.dropTo, if_pos hs, Mod.Flow.drop] at hx
  exact G.bod s hs x (List.mem_of_mem_drop hx)
theorem agGood_deliver {N : Nat} {a : Mod.Ag} (G : AgGood N a) (k e st q : Int) (b : ByteArray) : AgGood N (a.deliver k e st q b) := by
 have GD := agGood_drop G (a.says k e st q b) (fun s _ => says_le a k e st q b s)
 unfold Mod.Ag.deliver
 split
 ·exact ⟨G.ep, G.tk, G.sum, G.bod⟩
 ·split
  ·exact G
  ·split
   ·exact ⟨G.ep, G.tk, G.sum, G.bod⟩
   ·split
    ·refine ⟨GD.ep, GD.tk, fun s hs => ?_, fun s hs x hx => ?_⟩
     ·have := GD.sum s hs
      simp only [Mod.fresh, if_pos hs, List.length_map]
      exact this
     ·simp only [Mod.fresh, if_pos hs] at hx
      obtain ⟨y, hy, rfl⟩ := List.mem_map.1 hx
      exact ⟨(GD.bod s hs y hy).1, Nat.zero_le _⟩
    ·split
     ·split
      ·exact G
      ·refine ⟨GD.ep, GD.tk, fun s hs => ?_, fun s hs x hx => ?_⟩
       ·have := GD.sum s hs
        simp only [Mod.upd]
        split
        ·rename_i e'
         subst e'
         exact this
        ·exact this
       ·simp only [Mod.upd] at hx
        split at hx
        ·rename_i e'
         subst e'
         exact GD.bod _ hs x hx
        ·exact GD.bod s hs x hx
     ·exact G
end Go.Proofs.YtamafdcnbcoegaaGreat
namespace Go.Proofs.YtamafdcnbcoegaaGreat
open Go.RowKit
def agSpools (a : Mod.Ag) (i : Int) : List ByteArray := if 0 ≤ i ∧ i < 3 then a.spool i.toNat else []
def agSays (a : Mod.Ag) (l : List UInt8) : Int × Mod.Ag :=
 if Wire.reads l = true then (0, a.deliver (Wire.kindOf l) (Wire.epochOf l) (Wire.streamOf l) (Wire.seqOf l) (Wire.bodyOf l)) else (1, a)
def agSubmits (a : Mod.Ag) (i : Int) (s : ByteArray) : Mod.Ag := if a.refuses i s.size = 0 then a.submit i.toNat s else a
structure AgentC (top : Nat) where
 At : World → Nat → Mod.Ag → (Nat → Prop) → Prop
 lt : ∀ {w v a U}, At w v a U → ∀ k, U k → k < w.heap.size
 far : ∀ {w w' v a U E}, At w v a U → Far E w w' → (∀ k, U k → ¬ E k) → At w' v a U
 submit : ∀ {w v a U N} (i : Int) (s : ByteArray), At w v a U → AgGood N a → N < top → Calls Tryz.prog 21 #[ptrTo v, .int .i64 i, .string s] w fun r w' =>
  ∃ U', r = .returned (.int .i64 (a.refuses i s.size)) ∧ At w' v (agSubmits a i s) U' ∧ Far U w w' ∧ ∀ k, U' k → U k ∨ w.heap.size ≤ k
 deliver : ∀ {w v a U N} (bs : Value) (l : List UInt8), At w v a U → AgGood N a → N < top → BytesAt w bs l → Calls Tryz.prog 28 #[ptrTo v, bs] w fun r w' =>
  ∃ U', r = .returned (.int .i64 (agSays a l).1) ∧ At w' v (agSays a l).2 U' ∧ Far U w w' ∧ ∀ k, U' k → U k ∨ w.heap.size ≤ k
 tick : ∀ {w v a U N}, At w v a U → AgGood N a → N < top → Calls Tryz.prog 24 #[ptrTo v] w fun r w' =>
  ∃ lv fs U', r = .returned lv ∧ FramesOut w.heap.size w' lv fs (a.tick.2.map fun l => ⟨l.toArray⟩) U' ∧ At w' v a.tick.1 U' ∧ Far U w w' ∧ ∀ k, U' k → U k ∨ w.heap.size ≤ k
 epoch : ∀ {w v a U}, At w v a U → Calls Tryz.prog 39 #[ptrTo v] w fun r w' => r = .returned (.int .i64 a.epoch) ∧ Below w.heap.size w w'
 spool : ∀ {w v a U} (i : Int), At w v a U → Calls Tryz.prog 26 #[ptrTo v, .int .i64 i] w fun r w' =>
  ∃ lv, r = .returned lv ∧ w'.ownsRow w.heap.size 9 1 lv (agSpools a i).length (strs (agSpools a i)) ∧ Below w.heap.size w w'
 opened : ∀ {w} (bs : Value), BytesAt w bs (List.replicate 1664 0) → Calls Tryz.prog 37 #[bs] w fun r w' =>
  ∃ v U, r = .returned (.tuple #[ptrTo v, .int .i64 0]) ∧ At w' v { epoch := 1, ticks := 0, welcome := false, fenced := false, fl := fun _ => { base := 0, kept := [], held := [] } } U ∧ Below w.heap.size w w' ∧ ∀ k, U k → w.heap.size ≤ k
section
variable {top N : Nat} {C : AgentC top} {w x : World} {q sv rp : Nat} {a : Mod.Ag} {r : RRest} {kv hk : Nat → Value} {U : Nat → Prop} {left : Int} {E : Nat → Prop}
end
end Go.Proofs.YtamafdcnbcoegaaGreat
namespace Go.Proofs.YtamafdcnbcoegaaGreat
open Go.RowKit
set_option maxHeartbeats 400000 in
theorem firstHeld_any (q : Nat) (hq : q ≤ 1000000000000) (w : World) : Calls Tryz.prog 202 #[.int .i64 q] w fun e w' => e = .returned (.int .i64 ((q : Int) + 2)) ∧ w' = w := by
 have hw : IntKind.i64.wrap ((q : Int) + 2) = (q : Int) + 2 := by rw [IntKind.wrap_i64]; omega
 go_enter Tryz.func202, Tryz.ntmps202
 go_wp2
 go_ret
 exact ⟨rfl, rfl⟩
theorem infoI : (Tryz.prog.info? 3).map (fun i => (i.zero, i.size, i.bytes)) = some (some (.int .i64 0), 1, 8) := by kernel_rfl
set_option maxRecDepth 100000 in
set_option maxHeartbeats 2000000 in
theorem frameHeld_any (q : Nat) (hq : q ≤ 1000000000) (b : ByteArray) (hp : 0 < b.size) (w : World) :
  Calls Tryz.prog 155 #[.int .i64 q, .string b] w fun e w' => ∃ v, e = .returned v ∧ w'.ownsRow w.heap.size 3 1 v (Mod.bitsOf q b[0].toNat 3).length (numCells (Mod.bitsOf q b[0].toNat 3)) ∧ Below w.heap.size w w' := by
 obtain ⟨i0, hi, hz0, hz1, hz2⟩ := info_parts2 infoI
 go_enter Tryz.func155, Tryz.ntmps155
 go_wp2
 go_loopw [5, 6, 7] (fun v5 _ i wr => ∃ j : Nat, j ≤ 3 ∧ i = .int .i64 j ∧ wr.ownsRow w.heap.size 3 1 v5 (Mod.bitsOf q b[0].toNat j).length (numCells (Mod.bitsOf q b[0].toNat j)) ∧ Below w.heap.size w wr) (fun _ _ i _ => 3 - (intOf i).toNat)
 case atStart => exact ⟨0, by omega, rfl, World.ownsRow_nil _ _ _ _, Below.refl _ _⟩
 case round =>
  obtain ⟨j, hj, rfl, ho, hb⟩ := hrel
  have HO := hide ho
  have HB := hide hb
  clear ho hb
  rcases (show j = 0 ∨ j = 1 ∨ j = 2 ∨ j = 3 by omega) with rfl | rfl | rfl | rfl
  ·have hlen := bitsOf_len q b[0].toNat 0
   have hbit : (bits BinOp.and IntKind.u8 (((b[0].toNat : Nat) : Int)) 1 == 1) = decide (b[0].toNat % 2 = 1) := bit0 ⟨b[0].toNat, b[0].toNat_lt⟩
   have hw : IntKind.i64.wrap ((q : Int) + 2 + 0) = (q : Int) + 2 + 0 := by rw [IntKind.wrap_i64]; omega
   have hq2 := fun y => firstHeld_any q (by omega) y
   by_cases hb1 : b[0].toNat % 2 = 1
   ·have HX := hide (show Mod.bitsOf q b[0].toNat (0 + 1) = Mod.bitsOf q b[0].toNat 0 ++ [q + 2 + 0] by simp [Mod.bitsOf, hb1])
    simp only [hb1, decide_true] at hbit
    generalize Mod.bitsOf q b[0].toNat 0 = bl at hlen HX HO
    have hsz := (unhide HB).size
    go_upto_region 7 with (first | (go_at_call 202; refine (hq2 _).mono ?_; rintro e y ⟨rfl, rfl⟩) | (at_builtin; refine wpList_append_own _ rfl (.tmp 16) (.tmp 21) 26 rfl w.heap.size 3 i0 (.int .i64 0) 1 8 Tryz.underlying26 hi hz0 hz1 hz2 rfl (by decide) u5 bl.length (numCells bl) rfl ((unhide HO).alloc _) ⟨y.heap.size, 0, none⟩ 1 1 [.int .i64 ((q : Int) + 2)] rfl rfl cells_new (by intro u hu; simp at hu; subst hu; rfl) (by unfold maxLen; omega) (by omega) (by simp; omega) ?_; intro v' w1 hown' hgrow _; have hb1' : Below w.heap.size w w1 := (unhide HB).trans (((Below.refl _ y).alloc hsz _).trans (below_grown_new (B := w.heap.size) hgrow (by simp; omega) (fun g hg => (World.ownsRow.lt (unhide HO) g hg).1))); replace hown' := hide hown'; replace hb1' := hide hb1'; clear hgrow))
    go_wp2
    go_roundw
    case rel => exact ⟨0 + 1, by omega, by go_num, by have := unhide hown'; rw [unhide HX, List.length_append, numCells_snoc]; simpa using this, unhide hb1'⟩
    case measure => simp [intOf]
   ·have HX := hide (show Mod.bitsOf q b[0].toNat (0 + 1) = Mod.bitsOf q b[0].toNat 0 by simp [Mod.bitsOf, hb1])
    simp only [hb1, decide_false] at hbit
    go_wp2
    exact ⟨⟨0 + 1, by omega, by go_num, by rw [unhide HX]; exact unhide HO, unhide HB⟩, by simp [intOf]⟩
  ·have hlen := bitsOf_len q b[0].toNat 1
   have hbit : (bits BinOp.and IntKind.u8 (((b[0].toNat : Nat) : Int) / 2) 1 == 1) = decide (b[0].toNat / 2 % 2 = 1) := bit1 ⟨b[0].toNat, b[0].toNat_lt⟩
   have hw : IntKind.i64.wrap ((q : Int) + 2 + 1) = (q : Int) + 2 + 1 := by rw [IntKind.wrap_i64]; omega
   have hq2 := fun y => firstHeld_any q (by omega) y
   by_cases hb1 : b[0].toNat / 2 % 2 = 1
   ·have HX := hide (show Mod.bitsOf q b[0].toNat (1 + 1) = Mod.bitsOf q b[0].toNat 1 ++ [q + 2 + 1] by simp [Mod.bitsOf, hb1])
    simp only [hb1, decide_true] at hbit
    generalize Mod.bitsOf q b[0].toNat 1 = bl at hlen HX HO
    have hsz := (unhide HB).size
    go_upto_region 7 with (first | (go_at_call 202; refine (hq2 _).mono ?_; rintro e y ⟨rfl, rfl⟩) | (at_builtin; refine wpList_append_own _ rfl (.tmp 16) (.tmp 21) 26 rfl w.heap.size 3 i0 (.int .i64 0) 1 8 Tryz.underlying26 hi hz0 hz1 hz2 rfl (by decide) u5 bl.length (numCells bl) rfl ((unhide HO).alloc _) ⟨y.heap.size, 0, none⟩ 1 1 [.int .i64 ((q : Int) + 2 + 1)] rfl rfl cells_new (by intro u hu; simp at hu; subst hu; rfl) (by unfold maxLen; omega) (by omega) (by simp; omega) ?_; intro v' w1 hown' hgrow _; have hb1' : Below w.heap.size w w1 := (unhide HB).trans (((Below.refl _ y).alloc hsz _).trans (below_grown_new (B := w.heap.size) hgrow (by simp; omega) (fun g hg => (World.ownsRow.lt (unhide HO) g hg).1))); replace hown' := hide hown'; replace hb1' := hide hb1'; clear hgrow))
    go_wp2
    go_roundw
    case rel => exact ⟨1 + 1, by omega, by go_num, by have := unhide hown'; rw [unhide HX, List.length_append, numCells_snoc]; simpa using this, unhide hb1'⟩
    case measure => simp [intOf]
   ·have HX := hide (show Mod.bitsOf q b[0].toNat (1 + 1) = Mod.bitsOf q b[0].toNat 1 by simp [Mod.bitsOf, hb1])
    simp only [hb1, decide_false] at hbit
    go_wp2
    exact ⟨⟨1 + 1, by omega, by go_num, by rw [unhide HX]; exact unhide HO, unhide HB⟩, by simp [intOf]⟩
  ·have hlen := bitsOf_len q b[0].toNat 2
   have hbit : (bits BinOp.and IntKind.u8 (((b[0].toNat : Nat) : Int) / 4) 1 == 1) = decide (b[0].toNat / 4 % 2 = 1) := bit2 ⟨b[0].toNat, b[0].toNat_lt⟩
   have hw : IntKind.i64.wrap ((q : Int) + 2 + 2) = (q : Int) + 2 + 2 := by rw [IntKind.wrap_i64]; omega
   have hq2 := fun y => firstHeld_any q (by omega) y
   by_cases hb1 : b[0].toNat / 4 % 2 = 1
   ·have HX := hide (show Mod.bitsOf q b[0].toNat (2 + 1) = Mod.bitsOf q b[0].toNat 2 ++ [q + 2 + 2] by simp [Mod.bitsOf, hb1])
    simp only [hb1, decide_true] at hbit
    generalize Mod.bitsOf q b[0].toNat 2 = bl at hlen HX HO
    have hsz := (unhide HB).size
    go_upto_region 7 with (first | (go_at_call 202; refine (hq2 _).mono ?_; rintro e y ⟨rfl, rfl⟩) | (at_builtin; refine wpList_append_own _ rfl (.tmp 16) (.tmp 21) 26 rfl w.heap.size 3 i0 (.int .i64 0) 1 8 Tryz.underlying26 hi hz0 hz1 hz2 rfl (by decide) u5 bl.length (numCells bl) rfl ((unhide HO).alloc _) ⟨y.heap.size, 0, none⟩ 1 1 [.int .i64 ((q : Int) + 2 + 2)] rfl rfl cells_new (by intro u hu; simp at hu; subst hu; rfl) (by unfold maxLen; omega) (by omega) (by simp; omega) ?_; intro v' w1 hown' hgrow _; have hb1' : Below w.heap.size w w1 := (unhide HB).trans (((Below.refl _ y).alloc hsz _).trans (below_grown_new (B := w.heap.size) hgrow (by simp; omega) (fun g hg => (World.ownsRow.lt (unhide HO) g hg).1))); replace hown' := hide hown'; replace hb1' := hide hb1'; clear hgrow))
    go_wp2
    go_roundw
    case rel => exact ⟨2 + 1, by omega, by go_num, by have := unhide hown'; rw [unhide HX, List.length_append, numCells_snoc]; simpa using this, unhide hb1'⟩
    case measure => simp [intOf]
   ·have HX := hide (show Mod.bitsOf q b[0].toNat (2 + 1) = Mod.bitsOf q b[0].toNat 2 by simp [Mod.bitsOf, hb1])
    simp only [hb1, decide_false] at hbit
    go_wp2
    exact ⟨⟨2 + 1, by omega, by go_num, by rw [unhide HX]; exact unhide HO, unhide HB⟩, by simp [intOf]⟩
  ·go_wp2
   go_ret
   exact ⟨_, rfl, unhide HO, unhide HB⟩
end Go.Proofs.YtamafdcnbcoegaaGreat
namespace Go.Proofs.YtamafdcnbcoegaaGreat
open Go.RowKit
def boxed2 (w : World) (p o : Nat) (m : Int) : World := (w.alloc (.cells #[.pointer (some ⟨p, o, none⟩)] 209)).alloc (.cells #[.int .i64 m] 3)
def iterA (b : Nat) : Value := .func (.func 189) #[] #[.pointer (some ⟨b, 0, none⟩), .pointer (some ⟨b + 1, 0, none⟩)]
set_option maxHeartbeats 400000 in
theorem firstA_any (p o : Nat) (m : Int) (w : World) :
  Calls Tryz.prog 137 #[.pointer (some ⟨p, o, none⟩), .int .i64 m] w fun e w' => e = .returned (iterA w.heap.size) ∧ w' = boxed2 w p o m := by
 go_enter Tryz.func137, Tryz.ntmps137
 go_wp2
 go_ret
 exact ⟨rfl, rfl⟩
set_option maxHeartbeats 400000 in
theorem allA_any {w : World} {p o : Nat} {arr : Array Value} {t : TypeId} {nv mv : Value} {l : List (Nat × Value)} (hb : w.heap[p]? = some (.cells arr t (0, 0))) (h0 : arr[o]? = some nv) (S : ShelfIs w nv mv l) :
  Calls Tryz.prog 97 #[.pointer (some ⟨p, o, none⟩)] w fun e w' => e = .returned (iterA w.heap.size) ∧ w' = boxed2 w p o l.length := by
 have H := hide (lenA_any hb h0 S)
 clear S hb h0
 go_enter Tryz.func97, Tryz.ntmps97
 go_wp2_with (first | (go_at_call 143; refine (unhide H).mono ?_; rintro e w' ⟨rfl, rfl⟩) | (go_at_call 137; refine (firstA_any _ _ _ _).mono ?_; rintro e w' ⟨rfl, rfl⟩))
 go_ret
 exact ⟨rfl, rfl⟩
end Go.Proofs.YtamafdcnbcoegaaGreat
namespace Go.Proofs.YtamafdcnbcoegaaGreat
open Go.RowKit
attribute [local go_sem] Oper.semAt_some
structure IterAt (W : World) (b p o : Nat) (m : Nat) (nv mv : Value) (l : List (Nat × Value)) : Prop where
 c1 : W.cell? ⟨b, 0, none⟩ = some (.pointer (some ⟨p, o, none⟩))
 c2 : W.cell? ⟨b + 1, 0, none⟩ = some (.int .i64 m)
 s0 : W.cell? ⟨p, o, none⟩ = some nv
 s1 : W.cell? ⟨p, o + 1, none⟩ = some mv
 sh : ShelfIs W nv mv l
theorem look_at {l : List (Nat × Value)} (hs : (l.map (·.1)).Pairwise (· < ·)) {k : Nat} (hk : k < l.length) : look l (l[k].1 : Int) = some l[k].2 := by
 induction l generalizing k with
 | nil => simp at hk
 | cons x r ih =>
  rw [List.map_cons, List.pairwise_cons] at hs
  obtain ⟨h0, hs⟩ := hs
  cases k with
  | zero => rw [look_cons, List.getElem_cons_zero, if_pos rfl]
  | succ k =>
   have hk' : k < r.length := by simpa using hk
   rw [look_cons, List.getElem_cons_succ, if_neg, ih hs hk']
   have := h0 r[k].1 (List.mem_map.2 ⟨r[k], List.getElem_mem hk', rfl⟩)
   omega
set_option maxRecDepth 100000 in
set_option maxHeartbeats 2000000 in
theorem iterA_in (n lp b p o m : Nat) (nv mv : Value) (l : List (Nat × Value)) (A : AreA l) (J : Nat → World → Prop) (Jx : World → Prop)
  (hJI : ∀ i W, J i W → IterAt W b p o m nv mv l) (hJd : ∀ i W k, J i W → J i (W.drewN k))
  (hY : ∀ i W (h : i < l.length), i < m → J i W → YieldAt Fence.wide (n - 1) Tryz.prog lp #[.int .i64 (l[i].1 : Nat), l[i].2] W fun e W' => (e = .returned (.bool true) ∧ J (i + 1) W') ∨ (e = .returned (.bool false) ∧ Jx W'))
  (W : World) (h0 : J 0 W) :
  CallsIn Fence.wide n Tryz.prog 189 #[.func (.yield lp) #[] #[], .pointer (some ⟨b, 0, none⟩), .pointer (some ⟨b + 1, 0, none⟩)] W fun e W' => (∃ v, e = .returned v) ∧ (J (min m l.length) W' ∨ Jx W') := by
 have R := hJI 0 W h0
 obtain ⟨c1, c2, s0, s1, S⟩ := R
 have hlen := S.len
 have hll : (l.map (·.1)).length = l.length := List.length_map _
 obtain ⟨ce, hce⟩ : ∃ ce, ce = min m l.length := ⟨_, rfl⟩
 rw [← hce]
 have hce1 : ce ≤ m := by omega
 have hce2 : ce ≤ l.length := by omega
 have hmin : min (m : Int) (l.length : Int) = ce := by omega
 refine callsIn_of_wp Tryz.func189 rfl trivial ?_ rfl
 refine wpIn_wide.2 ?_
 simp only [Tryz.ntmps189, List.size_toArray, List.length_cons, List.length_nil, Nat.reduceAdd, Nat.reduceSub, Array.replicate_succ, Array.replicate_zero, List.push_toArray, List.append_toArray, List.nil_append, List.cons_append]
 rcases S.nums.cases with ⟨hnv, hlz⟩ | ⟨g, cap, cur, hnv, hh, hn, hc, hz, htk⟩
 ·subst hnv
  obtain rfl : l = [] := by simpa using hlz
  obtain rfl : ce = 0 := by simpa using hce2
  have hmin0 : min (m : Int) 0 = 0 := by omega
  clear S hll hmin hce hce1 hce2 hlz
  go_wp2
  go_quiet (fail)
  go_wp2
  go_loopw [5, 19] (fun _ i wr => i = .int .i64 0 ∧ J 0 wr) (fun _ _ _ => 0)
  case atStart => exact ⟨rfl, hJd 0 W _ h0⟩
  case round =>
   obtain ⟨rfl, hJ⟩ := hrel
   go_wp2
   refine bodyPost_end (results_none rfl _ _ _) rfl ?_
   exact ⟨⟨_, rfl⟩, .inl hJ⟩
 ·rw [hll] at hnv hn
  subst hnv
  clear S htk hll
  replace hce := hide hce
  go_wp2
  go_quiet (fail)
  go_wp2
  go_loopw [5, 19] (fun _ i wr => ∃ k : Nat, k ≤ ce ∧ i = .int .i64 k ∧ J k wr) (fun _ i _ => l.length - (intOf i).toNat)
  case atStart => exact ⟨0, by omega, rfl, hJd 0 W _ h0⟩
  case round =>
   obtain ⟨k, hk, rfl, hJ⟩ := hrel
   by_cases hlt : k < ce
   ·have hkl : k < l.length := by omega
    obtain ⟨c1, c2, s0, s1, S⟩ := hJI k wr hJ
    obtain ⟨x1, x2, hx⟩ := A l[k] (List.getElem_mem hkl)
    have cn : wr.cell? ⟨g, k, none⟩ = some (.int .i64 (l[k].1 : Int)) := by
     rw [S.nums.cell' (by simpa using hkl)]
     simp [List.getD_eq_getElem?_getD, hkl]
    have hrun := (run_lookup_i (P := Tryz.prog) (w := wr) (t := 137) Tryz.underlying137 Tryz.underlying3 (zero_A wr) S.map (l[k].1 : Int)).2
    rw [look_at S.sorted hkl, hx] at hrun
    have hY1 := hY k wr hkl (by omega) hJ
    rw [hx] at hY1
    simp only [Option.getD_some, recA] at hrun hY1
    obtain ⟨fn, tmps, assign, body, hy, hR⟩ := hY1
    clear S hx
    generalize l[k].1 = xn at *
    go_upto_region 3 with fail
    refine (wpIn_wide (n := n)).1 ?_
    gi_wp2
    refine ⟨fun h => by simp [Fence.wide] at h, hR.mono ?_⟩
    rintro e W3 (⟨rfl, hJ3⟩ | ⟨rfl, hJx3⟩)
    ·gi_wp2
     go_wp2
     go_roundw
     case rel => exact ⟨k + 1, by omega, by go_num, hJ3⟩
     case measure => simp [intOf]; omega
    ·gi_wp2
     go_wp2
     refine bodyPost_ret (results_none rfl _ _ _) rfl ?_
     exact ⟨⟨_, rfl⟩, .inr hJx3⟩
   ·obtain rfl : k = ce := by omega
    go_wp2
    refine bodyPost_end (results_none rfl _ _ _) rfl ?_
    exact ⟨⟨_, rfl⟩, .inl hJ⟩
end Go.Proofs.YtamafdcnbcoegaaGreat
namespace Go.Proofs.YtamafdcnbcoegaaGreat
open Go.RowKit
structure Same2 (D : Nat) (W W' : World) : Prop where
 os : W'.os = W.os
 tape : W'.tape = W.tape
 output : W'.output = W.output
 size : W'.heap.size = W.heap.size
 rest : ∀ k, k ≠ D → k ≠ D + 1 → W'.heap[k]? = W.heap[k]?
theorem same2_put (D : Nat) (W : World) (o : Obj) : Same2 D W (W.putObj (D + 1) o) :=
 ⟨rfl, rfl, rfl, World.putObj_size, fun _ _ h => World.putObj_heap_other h⟩
theorem same2_drew (D : Nat) (W : World) (n : Nat) : Same2 D W (W.drewN n) := ⟨rfl, rfl, rfl, rfl, fun _ _ _ => rfl⟩
def roundEnd (D : Nat) (I : World → Prop) (W : World) : Exit → Act → World → Prop
 | .normal, _, W' => W'.heap[D]? = W.heap[D]? ∧ W'.heap[D + 1]? = W.heap[D + 1]? ∧ I W'
 | _, _, _ => False
theorem range_first {g : Operand} {ps : Array Tmp} {assign body : Code} {Q : Exit → Act → World → Prop} {a : Act} {w : World} (n b p o m : Nat) (nv mv : Value) (l : List (Nat × Value)) (A : AreA l)
  (hg : a.eval g = iterA b) (hps : ps.size = 2) (I : Nat → World → Prop) (hI : ∀ i W W', I i W → Same2 w.heap.size W W' → I i W') (hIt : ∀ i W, I i W → IterAt W b p o m nv mv l)
  (h0 : ∀ W, Below w.heap.size w W → W.heap.size = w.heap.size + 2 → I 0 W)
  (hround : ∀ i (hi : i < l.length) W, i < m → I i W → w.heap.size + 2 ≤ W.heap.size →
   assign.wpIn (Fence.wide.inRound (w.heap.size + 1)) (n - 1 - 1) Tryz.prog (Exit.then (fun a₁ W₁ => (W₁.heap[w.heap.size]? = W.heap[w.heap.size]? ∧ W₁.heap[w.heap.size + 1]? = W.heap[w.heap.size + 1]?) ∧
     ∀ W₂, Same2 w.heap.size W₁ W₂ → body.wpIn (Fence.wide.inRound (w.heap.size + 1)) (n - 1 - 1) Tryz.prog (roundEnd w.heap.size (I (i + 1)) W₂) a₁ W₂) (fun _ _ _ => False))
    { tmps := (ps.zip #[.int .i64 (l[i].1 : Nat), l[i].2]).foldl (fun t (p, v) => t.setIfInBounds p v) a.tmps, defers := [] } W)
  (hsz : ∀ i W, I i W → w.heap.size + 2 ≤ W.heap.size)
  (hdone : ∀ W, I (min m l.length) W → W.heap[w.heap.size]? = some (.deferred (some [])) → Q .normal { a with defers := { target := .collected w.heap.size, args := #[] } :: a.defers } W) :
  (Code.rangeFunc g ps assign body).wpIn Fence.wide n Tryz.prog Q a w := by
 refine wpIn_rangeFunc ?_
 intro fn hfn
 obtain ⟨rec, hrec⟩ : ∃ rec : LoopState → Loop, rec = fun st => { state := st, pending := none, fn, tmps := a.tmps, params := ps, assign, body, defers := w.heap.size } := ⟨_, rfl⟩
 obtain ⟨W1, hW1⟩ : ∃ W1, (w.alloc (.deferred (some []))).alloc (.loop (rec .ready)) = W1 := ⟨_, rfl⟩
 have hL1 : W1.heap[w.heap.size + 1]? = some (.loop (rec .ready)) := by
  rw [← hW1]
  have := World.alloc_heap_new (w.alloc (.deferred (some []))) (.loop (rec .ready))
  rwa [World.size_alloc] at this
 have hK1 : W1.heap[w.heap.size]? = some (.deferred (some [])) := by
  rw [← hW1]
  exact (Below.heap_alloc _ _ _ (by simp)).trans (World.alloc_heap_new w _)
 have hB1 : Below w.heap.size w W1 := by
  rw [← hW1]
  exact ((Below.refl _ w).alloc (Nat.le_refl _) _).alloc (by simp) _
 have hS1 : W1.heap.size = w.heap.size + 2 := by rw [← hW1]; simp
 have eg : ∀ args w, (callFunc 189 args).run Tryz.prog w = .ok (.enter 189 args) w := enters_of Tryz.func189 (by kernel_rfl) rfl
 refine ⟨w.heap.size + 1, [{ target := .collected w.heap.size, args := #[] }], W1, { target := .fn (.func 189) #[.pointer (some ⟨b, 0, none⟩), .pointer (some ⟨b + 1, 0, none⟩)], args := #[.func (.yield (w.heap.size + 1)) #[] #[]] }, W1, 189,
  #[.func (.yield (w.heap.size + 1)) #[] #[], .pointer (some ⟨b, 0, none⟩), .pointer (some ⟨b + 1, 0, none⟩)], W1, ?_, ?_, ?_, ?_, fun h => by simp [Fence.wide] at h, ?_⟩
 ·rw [← hW1, hrec]; exact run_enterLoop_outer _ _ _ _ _
 ·simp only [resolve, hg]
  simp [go_sem, iterA]
 ·intro f' _; trivial
 ·simp [invoke, go_sem, eg]
 ·refine (iterA_in (n - 1) (w.heap.size + 1) b p o m nv mv l A
   (fun i W => I i W ∧ W.heap[w.heap.size + 1]? = some (.loop (rec .ready)) ∧ W.heap[w.heap.size]? = some (.deferred (some []))) (fun _ => False)
   (fun i W h => hIt i W h.1) (fun i W k h => ⟨hI i W _ h.1 (same2_drew _ W k), h.2.1, h.2.2⟩) ?_ W1 ⟨h0 W1 hB1 hS1, hL1, hK1⟩).mono ?_
  ·rintro i W hi him ⟨hi0, hl, hk⟩
   have hlt : w.heap.size + 1 < W.heap.size := (Array.getElem?_eq_some_iff.1 hl).1
   have hy := run_yield (P := Tryz.prog) (args := #[.int .i64 (l[i].1 : Nat), l[i].2]) hl (by rw [hrec]; simpa using hps.symm)
   rw [hrec] at hy
   refine ⟨fn, _, assign, body, hy, roundIn_of_wpIn hfn (wpIn_mono (hround i hi W him hi0 (hsz i W hi0)) ?_)⟩
   rintro e a₁ W₁ he
   cases e with
   | normal =>
    obtain ⟨⟨e1, e2⟩, hbody⟩ := he
    have hl1 : W₁.heap[w.heap.size + 1]? = some (.loop (rec .ready)) := e2.trans hl
    have hk1 : W₁.heap[w.heap.size]? = some (.deferred (some [])) := e1.trans hk
    have hlt1 : w.heap.size + 1 < W₁.heap.size := (Array.getElem?_eq_some_iff.1 hl1).1
    refine ⟨_, run_beginRound hl1 (by rw [hrec]), wpIn_mono (hbody _ (same2_put _ W₁ _)) ?_⟩
    rintro e2 a₂ W₃ hp
    cases e2 with
    | normal =>
     obtain ⟨f1, f2, f3⟩ := hp
     have hl3 : W₃.heap[w.heap.size + 1]? = some (.loop { rec .ready with state := .busy }) := f2.trans (World.putObj_heap_same hlt1)
     have hk3 : W₃.heap[w.heap.size]? = some (.deferred (some [])) := (f1.trans (World.putObj_heap_other (by omega))).trans hk1
     refine ⟨_, _, run_endRound none hl3, .inl ⟨rfl, hI _ _ _ f3 (same2_put _ W₃ _), ?_, ?_⟩⟩
     ·rw [World.putObj_heap_same (Array.getElem?_eq_some_iff.1 hl3).1, hrec]
      rfl
     ·exact (World.putObj_heap_other (by omega)).trans hk3
    | ret => exact hp.elim
    | exit id => exact hp.elim
    | goto t => exact hp.elim
    | panic c => exact hp.elim
    | outgrown => exact hp.elim
   | ret => exact he.elim
   | exit id => exact he.elim
   | goto t => exact he.elim
   | panic c => exact he.elim
   | outgrown => exact he.elim
  ·rintro e W' ⟨⟨v, rfl⟩, ⟨hi, hl, hk⟩ | h⟩
   ·have := run_endLoop (P := Tryz.prog) hl (by rw [hrec]; simp)
    rw [hrec] at this
    exact ⟨none, _, this, hdone _ (hI _ _ _ hi (same2_put _ W' _)) ((World.putObj_heap_other (by omega)).trans hk)⟩
   ·exact h.elim
end Go.Proofs.YtamafdcnbcoegaaGreat
namespace Go.Proofs.YtamafdcnbcoegaaGreat
open Go.RowKit
def recU  : Value := .agg #[]
def zeroU : Value := .agg #[]
theorem zero_U (w : World) : (zeroValue 225).run Tryz.prog w = .ok zeroU w := Tryz.zeroValue225 w
def AreU (l : List (Nat × Value)) : Prop := ∀ x ∈ l, x.2 = recU 
theorem areU_look {l : List (Nat × Value)} (h : AreU l) (k : Int) : (look l k = some (recU )) ∨ look l k = none := by
 cases hv : look l k with
 | none => exact .inr rfl
 | some v =>
  obtain ⟨x, hx, _, rfl⟩ := look_mem hv
  have e := h x hx
  exact .inl (by rw [e])
set_option maxHeartbeats 400000 in
theorem hasU_any {w : World} {p o : Nat} {arr : Array Value} {t : TypeId} {nv mv : Value} {l : List (Nat × Value)} (hb : w.heap[p]? = some (.cells arr t (0, 0))) (h1 : arr[o + 1]? = some mv) (S : ShelfIs w nv mv l) (A : AreU l) (n : Int) :
  Calls Tryz.prog 190 #[.pointer (some ⟨p, o, none⟩), .int .i64 n] w fun e w' => e = .returned (.bool (look l n).isSome) ∧ Below w.heap.size w w' := by
 have c1 : w.cell? ⟨p, o + 1, none⟩ = some mv := (blk_cell hb).trans h1
 have hrun := (run_lookup_i (P := Tryz.prog) (w := w) (t := 143) Tryz.underlying143 Tryz.underlying3 (zero_U w) S.map n).1
 clear S hb h1
 rcases areU_look A n with ⟨h⟩ | h
 all_goals
  rw [h] at hrun ⊢
  simp only [Option.getD_some, Option.getD_none, Option.isSome_some, Option.isSome_none, recU, zeroU] at hrun ⊢
  clear h A
  go_enter Tryz.func190, Tryz.ntmps190
  go_wp2
  go_ret
  refine ⟨rfl, ?_⟩
  exact (Below.refl _ _).alloc (Nat.le_refl _) _
set_option maxRecDepth 100000 in
set_option maxHeartbeats 1000000 in
theorem putU_any {w : World} {p o : Nat} {t : TypeId} {arr : Array Value} {nv mv : Value} {l : List (Nat × Value)} (S : ShAt w p o t arr nv mv l) (hl : l.length < 1000) (n : Nat)  :
  Calls Tryz.prog 156 #[.pointer (some ⟨p, o, none⟩), .int .i64 n, recU ] w fun e w' => e = .returned (.tuple #[]) ∧ ShStep w w' p o t arr nv mv (putL l n (recU )) := by
 obtain ⟨hbW, h0, h1, S, ht⟩ := S
 obtain ⟨mv0, hmv0⟩ : ∃ m, m = mv := ⟨_, rfl⟩
 rw [← hmv0]
 have hmv0 := hide hmv0
 have c0 : w.cell? ⟨p, o, none⟩ = some nv := (blk_cell hbW).trans h0
 have c1 : w.cell? ⟨p, o + 1, none⟩ = some mv := (blk_cell hbW).trans h1
 unfold recU
 have hp := lt_of_block hbW
 go_enter Tryz.func156, Tryz.ntmps156
 go_upto_region 1 with fail
 refine wp_world (fun x => x.heap[p]? = some (.cells arr t (0, 0)) ∧ x.heap[w.heap.size]? = some (.cells #[] 225 (0, 0)) ∧ ShelfIs x nv mv l ∧ Far (fun _ => False) w x ∧ w.heap.size < x.heap.size) ?_ ?_
 ·have hf : Far (fun _ => False) w (w.alloc (.cells #[] 225)) := far_below ((Below.refl _ _).alloc (Nat.le_refl _) _)
  exact ⟨hf.blk hbW id, heap_alloc_new w _, S.far hf (fun _ _ h => h), hf, by simp⟩
 clear c0 c1 S
 rintro x ⟨hb, hbox, S, hf, hz⟩
 have c0 : x.cell? ⟨p, o, none⟩ = some nv := (blk_cell hb).trans h0
 have c1 : x.cell? ⟨p, o + 1, none⟩ = some mv := (blk_cell hb).trans h1
 have hfr : x.frozen? ⟨p, o + 1, none⟩ = false := by simp [World.frozen?, hb]
 have hmm := @run_makeMap Tryz.prog
 have eqN : ∀ y : World, (binOp .eql 143 (.map none) (.map none)).run Tryz.prog y = .ok (.bool true) y := fun y => by kernel_rfl
 have eqS : ∀ (y : World) (m : Nat), (binOp .eql 143 (.map (some m)) (.map none)).run Tryz.prog y = .ok (.bool false) y := fun y m => by kernel_rfl
 have pM : (x.alloc (.map #[] 0)).heap[p]? = some (.cells arr t (0, 0)) := (Below.heap_alloc x _ p (lt_of_block hb)).trans hb
 have cM : (x.alloc (.map #[] 0)).cell? ⟨p, o + 1, none⟩ = some mv := (blk_cell pM).trans h1
 have fM : (x.alloc (.map #[] 0)).frozen? ⟨p, o + 1, none⟩ = false := by simp [World.frozen?, pM]
 rcases S.map with ⟨rfl, hm⟩ | ⟨mb, rfl, hm⟩
 all_goals
  go_upto_region 3 with fail
  refine wp_world (fun y => ∃ mb, y.heap[p]? = some (.cells (arr.setIfInBounds (o + 1) (.map (some mb))) t (0, 0)) ∧ y.heap[w.heap.size]? = some (.cells #[] 225 (0, 0)) ∧ NumsAt y nv (l.map (·.1)) ∧ MapAt y mb (look l) ∧
   Far (fun k => k = p) w y ∧ w.heap.size < y.heap.size ∧ (mapBlock mv0 = some mb ∨ w.heap.size ≤ mb)) ?_ ?_
 ·refine ⟨x.heap.size, blk_set pM, (blk_set_ne (by omega)).trans ((Below.heap_alloc x _ _ hz).trans hbox), ?_, ?_, ?_, ?_, .inr (Nat.le_of_lt hz)⟩
  ·exact S.nums.keep (fun g hg => (blk_set_ne (fun e => S.ne hb ht (.inl (by rw [← e]; exact hg)))).trans (Below.heap_alloc x _ g (World.ownsRow.lt S.nums g hg).2))
  ·rw [hm]
   exact (mapAt_new x).keep (blk_set_ne (by have := lt_of_block hb; omega))
  ·exact ((hf.mono (fun _ _ h => h.elim)).trans (far_below ((Below.refl _ x).alloc (Nat.le_refl _) _)) (fun _ _ h => h)).trans (far_set _ p (o + 1) _) (fun _ _ h => h)
  ·simp; omega
 rotate_left
 ·refine ⟨mb, by rw [set_same h1]; exact hb, hbox, S.nums, hm, hf.mono (fun _ _ h => h.elim), hz, .inl (by rw [unhide hmv0]; rfl)⟩
 all_goals
  have hs := hide S.sorted
  clear c0 c1 pM cM fM hfr hbox S hm hb hz hmm eqN eqS hf hp
  rintro y ⟨mb', hb, hbox, N, M, hfY, hz, hloc⟩
  have h0s : o < arr.size := (Array.getElem?_eq_some_iff.1 h0).1
  have h1s : o + 1 < arr.size := (Array.getElem?_eq_some_iff.1 h1).1
  have a0 : (arr.setIfInBounds (o + 1) (.map (some mb')))[o]? = some nv := by rw [Array.getElem?_setIfInBounds_ne (by omega)]; exact h0
  have a1 : (arr.setIfInBounds (o + 1) (.map (some mb')))[o + 1]? = some (.map (some mb')) := by simp [h1s]
  have c0 : y.cell? ⟨p, o, none⟩ = some nv := (blk_cell hb).trans a0
  have hk := keys_putL (v := recU ) (n := n) (unhide hs)
  have hsr := search_any N (unhide hs) (by simp; omega) n
  have hcl : (l.map (·.1)).countP (· < n) ≤ (l.map (·.1)).length := List.countP_le_length
  have hnl : (l.map (·.1)).length < 1000 := by simpa using hl
  generalize (l.map (·.1)).countP (· < n) = k at hk hsr hcl
  generalize (l.map (·.1)).contains n = c at hk hsr
  generalize l.map (·.1) = ns at hk hsr hcl N hnl
  replace hk := hide hk
  replace hsr := hide hsr
  cases c
  ·go_upto_region 4 with (go_at_call 132; refine (unhide hsr).mono ?_; rintro e y1 ⟨rfl, q, rfl⟩)
   go_upto_region 6 with fail
   refine (insert_any (w := (y.drewN q).alloc (.cells #[.int .i64 n] 3)) (ns := ns) (N.keep (fun g hg => Below.heap_alloc (y.drewN q) _ g (World.ownsRow.lt N g hg).2)) (by omega) k n y.heap.size hcl (heap_alloc_new (y.drewN q) _) (fun e => by have := (World.ownsRow.lt N _ e).2; omega)).mono ?_
   rintro e z ⟨nv', rfl, hN', hF', hL'⟩
   have hbz := hF'.blk ((Below.heap_alloc (y.drewN q) _ p (lt_of_block hb)).trans hb) (fun e => (RowO.of_own N).ne hb (fun e => ht e.symm) e)
   have hxz := hF'.blk ((Below.heap_alloc (y.drewN q) _ _ hz).trans hbox) (fun e => (RowO.of_own N).ne hbox (by decide) e)
   have cz := (blk_cell hbz).trans a0
   have fz : z.frozen? ⟨p, o, none⟩ = false := by simp [World.frozen?, hbz]
   obtain ⟨ns', hns'⟩ : ∃ x, x = ns.take k ++ n :: ns.drop k := ⟨_, rfl⟩
   rw [← hns'] at hN'
   obtain ⟨g', cap', rfl⟩ := own_shape hN' (by rw [hns']; simp only [List.length_append, List.length_cons]; omega)
   replace hns' := hide hns'
   go_upto_region 6 with fail
   refine wp_world (fun z => ∃ nv', z.heap[p]? = some (.cells ((arr.setIfInBounds o nv').setIfInBounds (o + 1) (.map (some mb'))) t (0, 0)) ∧ z.heap[w.heap.size]? = some (.cells #[] 225 (0, 0)) ∧ NumsAt z nv' ((putL l n (recU )).map (·.1)) ∧ MapAt z mb' (look l) ∧
    Far (fun k => k = p ∨ nv.ownBlock = some k) w z ∧ Loc w nv nv') ?_ ?_
   ·have hne : nv.ownBlock ≠ some mb' := N.notMap M
    have hpn : ∀ g, (Value.slice (some ⟨g', 0, none⟩) ns'.length cap').ownBlock = some g → g ≠ p := fun g hg e => (RowO.of_own hN').ne hbz (fun e => ht e.symm) (by rw [hg, e])
    have hk' := unhide hk
    simp only [Bool.false_eq_true, if_false] at hk'
    have hfal : Far (fun _ => False) y ((y.drewN q).alloc (.cells #[.int .i64 n] 3)) := (far_drewN (fun _ => False) y q).trans (far_below ((Below.refl _ _).alloc (Nat.le_refl _) _)) (fun _ _ h => h)
    have hfz : Far (fun b => b = p ∨ nv.ownBlock = some b) w z := (hfY.mono (fun _ _ h => .inl h)).trans ((hfal.mono (fun _ _ h => h.elim)).trans hF' (fun _ _ h => h)) (fun _ _ h => .inr h)
    refine ⟨_, ?_, (blk_set_ne (by have := lt_of_block hbW; omega)).trans hxz, ?_, ?_, hfz.trans (far_set z p o _) (fun _ _ h => .inl h), loc_less hL' (by simp; omega)⟩
    ·rw [set_comm _ _ (show o ≠ o + 1 by omega)]
     exact blk_set hbz
    ·rw [hk', ← unhide hns']
     exact hN'.keep (fun g hg => blk_set_ne (hpn g hg))
    ·exact M.keep ((blk_set_ne (fun e => M.not_cells (by rw [e]; exact hb))).trans ((hF'.rest _ (by have := M.lt; simp; omega) hne).trans (hfal.rest _ M.lt id)))
   ·skip
    rintro z ⟨nv', hb, hbox, N', M, hf, hl'⟩
    obtain ⟨ob, hU, hM⟩ := run_update_i (P := Tryz.prog) (w := z) (t := 143) Tryz.underlying143 Tryz.underlying3 M n (recU )
    have hU' := hU z.drew rfl
    unfold recU at hU'
    have c1 : z.cell? ⟨p, o + 1, none⟩ = some (.map (some mb')) := (blk_cell hb).trans (by simp [h1s])
    go_region
    refine bodyPost_end (results_none rfl _ _ _) rfl ⟨rfl, ?_⟩
    exact put_end (v := recU ) (W := { z.drew with heap := z.drew.heap.setIfInBounds mb' ob }) h0s h1s hb ht N' M hf hl' hloc hM ((far_drewN _ z 1).trans (far_block mb' ob) (fun _ _ h => h)) (unhide hs) hl
  ·go_upto_region 4 with (go_at_call 132; refine (unhide hsr).mono ?_; rintro e y1 ⟨rfl, q, rfl⟩)
   go_upto_region 6 with fail
   refine wp_world (fun z => ∃ nv', z.heap[p]? = some (.cells ((arr.setIfInBounds o nv').setIfInBounds (o + 1) (.map (some mb'))) t (0, 0)) ∧ z.heap[w.heap.size]? = some (.cells #[] 225 (0, 0)) ∧ NumsAt z nv' ((putL l n (recU )).map (·.1)) ∧ MapAt z mb' (look l) ∧
    Far (fun k => k = p ∨ nv.ownBlock = some k) w z ∧ Loc w nv nv') ?_ ?_
   ·have hk' := unhide hk
    simp only [if_true] at hk'
    refine ⟨nv, ?_, hbox, by rw [hk']; exact N, M, (hfY.mono (fun _ _ h => .inl h)).trans (far_drewN _ y q) (fun _ _ h => h), .inr (.inl rfl)⟩
    rw [set_same h0]
    exact hb
   ·skip
    rintro z ⟨nv', hb, hbox, N', M, hf, hl'⟩
    obtain ⟨ob, hU, hM⟩ := run_update_i (P := Tryz.prog) (w := z) (t := 143) Tryz.underlying143 Tryz.underlying3 M n (recU )
    have hU' := hU z.drew rfl
    unfold recU at hU'
    have c1 : z.cell? ⟨p, o + 1, none⟩ = some (.map (some mb')) := (blk_cell hb).trans (by simp [h1s])
    go_region
    refine bodyPost_end (results_none rfl _ _ _) rfl ⟨rfl, ?_⟩
    exact put_end (v := recU ) (W := { z.drew with heap := z.drew.heap.setIfInBounds mb' ob }) h0s h1s hb ht N' M hf hl' hloc hM ((far_drewN _ z 1).trans (far_block mb' ob) (fun _ _ h => h)) (unhide hs) hl
end Go.Proofs.YtamafdcnbcoegaaGreat
namespace Go.Proofs.YtamafdcnbcoegaaGreat
open Go.RowKit
set_option maxRecDepth 100000 in
set_option maxHeartbeats 1000000 in
theorem clearU_any {w : World} {p o : Nat} {t : TypeId} {arr : Array Value} {nv mv : Value} {l : List (Nat × Value)} (S : ShAt w p o t arr nv mv l) :
  Calls Tryz.prog 154 #[.pointer (some ⟨p, o, none⟩)] w fun e w' => e = .returned (.tuple #[]) ∧ ShStep w w' p o t arr nv mv [] := by
 obtain ⟨hbW, h0, h1, S, ht⟩ := S
 have h0s : o < arr.size := (Array.getElem?_eq_some_iff.1 h0).1
 have h1s : o + 1 < arr.size := (Array.getElem?_eq_some_iff.1 h1).1
 obtain ⟨mv0, hmv0⟩ : ∃ m, m = mv := ⟨_, rfl⟩
 rw [← hmv0]
 replace hmv0 := hide hmv0
 have c1 : w.cell? ⟨p, o + 1, none⟩ = some mv := (blk_cell hbW).trans h1
 have e0 := S.nums.cases
 have hm : (mv = .map none ∧ ∀ ty, (Builtin.clear_ #[143] ty #[.map none]).run Tryz.prog w = .ok (.tuple #[]) w) ∨
   ∃ b o, mv = .map (some b) ∧ b ≠ p ∧ nv.ownBlock ≠ some b ∧ (∀ ty, (Builtin.clear_ #[143] ty #[.map (some b)]).run Tryz.prog w = .ok (.tuple #[]) { w with heap := w.heap.setIfInBounds b o }) ∧ MapAt { w with heap := w.heap.setIfInBounds b o } b (fun _ => none) := by
  rcases S.map with ⟨rfl, hm⟩ | ⟨mb, rfl, hm⟩
  ·exact .inl ⟨rfl, fun ty => run_clear_n Tryz.underlying143⟩
  ·obtain ⟨ob, hU, hM⟩ := run_clear_m (P := Tryz.prog) (w := w) (t := 143) Tryz.underlying143 hm
   exact .inr ⟨mb, ob, rfl, fun e => hm.not_cells (by rw [e]; exact hbW), S.nums.notMap hm, fun ty => hU ty w rfl, hM⟩
 rcases hm with ⟨rfl, hrun⟩ | ⟨mb, ob, rfl, hmp, hmn, hrun, hM⟩
 all_goals
  go_enter Tryz.func154, Tryz.ntmps154
  go_upto_region 1 with fail
  refine wp_world (fun x => x.heap[p]? = some (.cells arr t (0, 0)) ∧ NumsAt x nv (l.map (·.1)) ∧ MapV x mv0 (look []) ∧ Far (fun k => k = p ∨ ShU nv mv0 k) w x) ?_ ?_
 ·exact ⟨hbW, S.nums, by rw [unhide hmv0]; exact .inl ⟨rfl, look_nil⟩, Far.refl _ _⟩
 rotate_left
 ·have hf := far_block (w := w) mb ob
  refine ⟨hf.blk hbW (fun e => hmp e.symm), S.nums.keep (fun g hg => hf.rest g (World.ownsRow.lt S.nums g hg).2 (fun e => hmn (by rw [hg, e]))), by rw [unhide hmv0]; exact .inr ⟨mb, rfl, by rw [look_nil]; exact hM⟩, hf.mono (fun k _ e => .inr (.inr (by rw [unhide hmv0, e]; rfl)))⟩
 all_goals
  clear S
  rintro x ⟨hb, N, M, hf⟩
  have c0 : x.cell? ⟨p, o, none⟩ = some nv := (blk_cell hb).trans h0
  have f0 : x.frozen? ⟨p, o, none⟩ = false := by simp [World.frozen?, hb]
  rcases e0 with ⟨rfl, _⟩ | ⟨g, cap, cur, rfl, hh, hn, hc, hz, htk⟩
  ·go_wp2
   refine bodyPost_end (results_none rfl _ _ _) rfl ⟨rfl, ?_⟩
   refine ⟨⟨_, mv0, ⟨?_, ?_, ?_, ⟨numsAt_nil _, M.keep (fun b hb' => blk_set_ne (fun e => ?_)), by simp, by simp⟩, ht⟩, .inr (.inl rfl), .inl rfl⟩, hf.trans (far_set x p o _) (fun _ _ h => .inl h)⟩
   ·have := blk_set (j := o) (v := .slice none 0 0) hb
    rw [set_same (i := o + 1)]
    ·exact this
    ·rw [Array.getElem?_setIfInBounds_ne (by omega), h1, unhide hmv0]
   ·rw [Array.getElem?_setIfInBounds_ne (by omega)]; simp [h0s]
   ·simp [h1s]
   ·rcases M with ⟨h, _⟩ | ⟨b', h, hM'⟩
    ·rw [h] at hb'; cases hb'
    ·rw [h] at hb'; cases hb'; exact hM'.not_cells (by rw [e]; exact hb)
  ·go_wp2
   refine bodyPost_end (results_none rfl _ _ _) rfl ⟨rfl, ?_⟩
   rcases N.cases with ⟨h, _⟩ | ⟨g', cap', cur', h, hh', hn', hc', hz', htk'⟩
   ·cases h
   ·injection h with h _ h3
    injection h with h
    injection h with h
    subst h h3
    have hgp : g ≠ p := fun e => by
     subst e
     rw [hh'] at hb
     injection hb with hb
     injection hb with _ hb _
     exact ht hb.symm
    refine ⟨⟨_, mv0, ⟨?_, ?_, ?_, ⟨numsAt_mk (ns := []) ((blk_set_ne hgp).trans hh') (Nat.zero_le _) hc hz' rfl, M.keep (fun b hb' => blk_set_ne (fun e => ?_)), by simp, by simp⟩, ht⟩, .inr (.inl rfl), .inl rfl⟩, hf.trans (far_set x p o _) (fun _ _ h => .inl h)⟩
    ·rw [set_same (i := o + 1)]
     ·exact blk_set (j := o) hb
     ·rw [Array.getElem?_setIfInBounds_ne (by omega), h1, unhide hmv0]
    ·rw [Array.getElem?_setIfInBounds_ne (by omega)]; simp [h0s]
    ·simp [h1s]
    ·rcases M with ⟨h, _⟩ | ⟨b', h, hM'⟩
     ·rw [h] at hb'; cases hb'
     ·rw [h] at hb'; cases hb'; exact hM'.not_cells (by rw [e]; exact hb)
end Go.Proofs.YtamafdcnbcoegaaGreat
namespace Go.Proofs.YtamafdcnbcoegaaGreat
open Go.RowKit
def recI (m : Nat) : Value := .int .i64 m
def zeroI : Value := .int .i64 0
theorem zero_I (w : World) : (zeroValue 3).run Tryz.prog w = .ok zeroI w := Tryz.zeroValue3 w
def AreI (l : List (Nat × Value)) : Prop := ∀ x ∈ l, ∃ m, x.2 = recI m
theorem areI_look {l : List (Nat × Value)} (h : AreI l) (k : Int) : (∃ m, look l k = some (recI m)) ∨ look l k = none := by
 cases hv : look l k with
 | none => exact .inr rfl
 | some v =>
  obtain ⟨x, hx, _, rfl⟩ := look_mem hv
  obtain ⟨m, e⟩ := h x hx
  exact .inl ⟨m, by rw [e]⟩
set_option maxRecDepth 100000 in
set_option maxHeartbeats 1000000 in
theorem putI_any {w : World} {p o : Nat} {t : TypeId} {arr : Array Value} {nv mv : Value} {l : List (Nat × Value)} (S : ShAt w p o t arr nv mv l) (hl : l.length < 1000) (n : Nat) (m : Nat) :
  Calls Tryz.prog 139 #[.pointer (some ⟨p, o, none⟩), .int .i64 n, recI m] w fun e w' => e = .returned (.tuple #[]) ∧ ShStep w w' p o t arr nv mv (putL l n (recI m)) := by
 obtain ⟨hbW, h0, h1, S, ht⟩ := S
 obtain ⟨mv0, hmv0⟩ : ∃ m, m = mv := ⟨_, rfl⟩
 rw [← hmv0]
 have hmv0 := hide hmv0
 have c0 : w.cell? ⟨p, o, none⟩ = some nv := (blk_cell hbW).trans h0
 have c1 : w.cell? ⟨p, o + 1, none⟩ = some mv := (blk_cell hbW).trans h1
 unfold recI
 have hp := lt_of_block hbW
 go_enter Tryz.func139, Tryz.ntmps139
 refine wp_world (fun x => x.heap[p]? = some (.cells arr t (0, 0)) ∧ ShelfIs x nv mv l ∧ Far (fun _ => False) w x ∧ w.heap.size ≤ x.heap.size) ?_ ?_
 ·exact ⟨hbW, S, Far.refl _ w, Nat.le_refl _⟩
 clear c0 c1 S
 rintro x ⟨hb, S, hf, hz⟩
 have c0 : x.cell? ⟨p, o, none⟩ = some nv := (blk_cell hb).trans h0
 have c1 : x.cell? ⟨p, o + 1, none⟩ = some mv := (blk_cell hb).trans h1
 have hfr : x.frozen? ⟨p, o + 1, none⟩ = false := by simp [World.frozen?, hb]
 have hmm := @run_makeMap Tryz.prog
 have eqN : ∀ y : World, (binOp .eql 140 (.map none) (.map none)).run Tryz.prog y = .ok (.bool true) y := fun y => by kernel_rfl
 have eqS : ∀ (y : World) (m : Nat), (binOp .eql 140 (.map (some m)) (.map none)).run Tryz.prog y = .ok (.bool false) y := fun y m => by kernel_rfl
 have pM : (x.alloc (.map #[] 0)).heap[p]? = some (.cells arr t (0, 0)) := (Below.heap_alloc x _ p (lt_of_block hb)).trans hb
 have cM : (x.alloc (.map #[] 0)).cell? ⟨p, o + 1, none⟩ = some mv := (blk_cell pM).trans h1
 have fM : (x.alloc (.map #[] 0)).frozen? ⟨p, o + 1, none⟩ = false := by simp [World.frozen?, pM]
 rcases S.map with ⟨rfl, hm⟩ | ⟨mb, rfl, hm⟩
 all_goals
  go_upto_region 2 with fail
  refine wp_world (fun y => ∃ mb, y.heap[p]? = some (.cells (arr.setIfInBounds (o + 1) (.map (some mb))) t (0, 0)) ∧ NumsAt y nv (l.map (·.1)) ∧ MapAt y mb (look l) ∧
   Far (fun k => k = p) w y ∧ w.heap.size ≤ y.heap.size ∧ (mapBlock mv0 = some mb ∨ w.heap.size ≤ mb)) ?_ ?_
 ·refine ⟨x.heap.size, blk_set pM, ?_, ?_, ?_, ?_, .inr hz⟩
  ·exact S.nums.keep (fun g hg => (blk_set_ne (fun e => S.ne hb ht (.inl (by rw [← e]; exact hg)))).trans (Below.heap_alloc x _ g (World.ownsRow.lt S.nums g hg).2))
  ·rw [hm]
   exact (mapAt_new x).keep (blk_set_ne (by have := lt_of_block hb; omega))
  ·exact ((hf.mono (fun _ _ h => h.elim)).trans (far_below ((Below.refl _ x).alloc (Nat.le_refl _) _)) (fun _ _ h => h)).trans (far_set _ p (o + 1) _) (fun _ _ h => h)
  ·simp; omega
 rotate_left
 ·refine ⟨mb, by rw [set_same h1]; exact hb, S.nums, hm, hf.mono (fun _ _ h => h.elim), hz, .inl (by rw [unhide hmv0]; rfl)⟩
 all_goals
  have hs := hide S.sorted
  clear c0 c1 pM cM fM hfr S hm hb hz hmm eqN eqS hf hp
  rintro y ⟨mb', hb, N, M, hfY, hz, hloc⟩
  have h0s : o < arr.size := (Array.getElem?_eq_some_iff.1 h0).1
  have h1s : o + 1 < arr.size := (Array.getElem?_eq_some_iff.1 h1).1
  have a0 : (arr.setIfInBounds (o + 1) (.map (some mb')))[o]? = some nv := by rw [Array.getElem?_setIfInBounds_ne (by omega)]; exact h0
  have a1 : (arr.setIfInBounds (o + 1) (.map (some mb')))[o + 1]? = some (.map (some mb')) := by simp [h1s]
  have c0 : y.cell? ⟨p, o, none⟩ = some nv := (blk_cell hb).trans a0
  have hk := keys_putL (v := recI m) (n := n) (unhide hs)
  have hsr := search_any N (unhide hs) (by simp; omega) n
  have hcl : (l.map (·.1)).countP (· < n) ≤ (l.map (·.1)).length := List.countP_le_length
  have hnl : (l.map (·.1)).length < 1000 := by simpa using hl
  generalize (l.map (·.1)).countP (· < n) = k at hk hsr hcl
  generalize (l.map (·.1)).contains n = c at hk hsr
  generalize l.map (·.1) = ns at hk hsr hcl N hnl
  replace hk := hide hk
  replace hsr := hide hsr
  cases c
  ·go_upto_region 3 with (go_at_call 132; refine (unhide hsr).mono ?_; rintro e y1 ⟨rfl, q, rfl⟩)
   go_upto_region 5 with fail
   refine (insert_any (w := (y.drewN q).alloc (.cells #[.int .i64 n] 3)) (ns := ns) (N.keep (fun g hg => Below.heap_alloc (y.drewN q) _ g (World.ownsRow.lt N g hg).2)) (by omega) k n y.heap.size hcl (heap_alloc_new (y.drewN q) _) (fun e => by have := (World.ownsRow.lt N _ e).2; omega)).mono ?_
   rintro e z ⟨nv', rfl, hN', hF', hL'⟩
   have hbz := hF'.blk ((Below.heap_alloc (y.drewN q) _ p (lt_of_block hb)).trans hb) (fun e => (RowO.of_own N).ne hb (fun e => ht e.symm) e)
   have cz := (blk_cell hbz).trans a0
   have fz : z.frozen? ⟨p, o, none⟩ = false := by simp [World.frozen?, hbz]
   obtain ⟨ns', hns'⟩ : ∃ x, x = ns.take k ++ n :: ns.drop k := ⟨_, rfl⟩
   rw [← hns'] at hN'
   obtain ⟨g', cap', rfl⟩ := own_shape hN' (by rw [hns']; simp only [List.length_append, List.length_cons]; omega)
   replace hns' := hide hns'
   go_upto_region 5 with fail
   refine wp_world (fun z => ∃ nv', z.heap[p]? = some (.cells ((arr.setIfInBounds o nv').setIfInBounds (o + 1) (.map (some mb'))) t (0, 0)) ∧ NumsAt z nv' ((putL l n (recI m)).map (·.1)) ∧ MapAt z mb' (look l) ∧
    Far (fun k => k = p ∨ nv.ownBlock = some k) w z ∧ Loc w nv nv') ?_ ?_
   ·have hne : nv.ownBlock ≠ some mb' := N.notMap M
    have hpn : ∀ g, (Value.slice (some ⟨g', 0, none⟩) ns'.length cap').ownBlock = some g → g ≠ p := fun g hg e => (RowO.of_own hN').ne hbz (fun e => ht e.symm) (by rw [hg, e])
    have hk' := unhide hk
    simp only [Bool.false_eq_true, if_false] at hk'
    have hfal : Far (fun _ => False) y ((y.drewN q).alloc (.cells #[.int .i64 n] 3)) := (far_drewN (fun _ => False) y q).trans (far_below ((Below.refl _ _).alloc (Nat.le_refl _) _)) (fun _ _ h => h)
    have hfz : Far (fun b => b = p ∨ nv.ownBlock = some b) w z := (hfY.mono (fun _ _ h => .inl h)).trans ((hfal.mono (fun _ _ h => h.elim)).trans hF' (fun _ _ h => h)) (fun _ _ h => .inr h)
    refine ⟨_, ?_, ?_, ?_, hfz.trans (far_set z p o _) (fun _ _ h => .inl h), loc_less hL' (by simp; omega)⟩
    ·rw [set_comm _ _ (show o ≠ o + 1 by omega)]
     exact blk_set hbz
    ·rw [hk', ← unhide hns']
     exact hN'.keep (fun g hg => blk_set_ne (hpn g hg))
    ·exact M.keep ((blk_set_ne (fun e => M.not_cells (by rw [e]; exact hb))).trans ((hF'.rest _ (by have := M.lt; simp; omega) hne).trans (hfal.rest _ M.lt id)))
   ·skip
    rintro z ⟨nv', hb, N', M, hf, hl'⟩
    obtain ⟨ob, hU, hM⟩ := run_update_i (P := Tryz.prog) (w := z) (t := 140) Tryz.underlying140 Tryz.underlying3 M n (recI m)
    have hU' := hU z rfl
    unfold recI at hU'
    have c1 : z.cell? ⟨p, o + 1, none⟩ = some (.map (some mb')) := (blk_cell hb).trans (by simp [h1s])
    go_wp2
    refine bodyPost_end (results_none rfl _ _ _) rfl ⟨rfl, ?_⟩
    exact put_end (v := recI m) (W := { z with heap := z.heap.setIfInBounds mb' ob }) h0s h1s hb ht N' M hf hl' hloc hM (far_block mb' ob) (unhide hs) hl
  ·go_upto_region 3 with (go_at_call 132; refine (unhide hsr).mono ?_; rintro e y1 ⟨rfl, q, rfl⟩)
   go_upto_region 5 with fail
   refine wp_world (fun z => ∃ nv', z.heap[p]? = some (.cells ((arr.setIfInBounds o nv').setIfInBounds (o + 1) (.map (some mb'))) t (0, 0)) ∧ NumsAt z nv' ((putL l n (recI m)).map (·.1)) ∧ MapAt z mb' (look l) ∧
    Far (fun k => k = p ∨ nv.ownBlock = some k) w z ∧ Loc w nv nv') ?_ ?_
   ·have hk' := unhide hk
    simp only [if_true] at hk'
    refine ⟨nv, ?_, by rw [hk']; exact N, M, (hfY.mono (fun _ _ h => .inl h)).trans (far_drewN _ y q) (fun _ _ h => h), .inr (.inl rfl)⟩
    rw [set_same h0]
    exact hb
   ·skip
    rintro z ⟨nv', hb, N', M, hf, hl'⟩
    obtain ⟨ob, hU, hM⟩ := run_update_i (P := Tryz.prog) (w := z) (t := 140) Tryz.underlying140 Tryz.underlying3 M n (recI m)
    have hU' := hU z rfl
    unfold recI at hU'
    have c1 : z.cell? ⟨p, o + 1, none⟩ = some (.map (some mb')) := (blk_cell hb).trans (by simp [h1s])
    go_wp2
    refine bodyPost_end (results_none rfl _ _ _) rfl ⟨rfl, ?_⟩
    exact put_end (v := recI m) (W := { z with heap := z.heap.setIfInBounds mb' ob }) h0s h1s hb ht N' M hf hl' hloc hM (far_block mb' ob) (unhide hs) hl
end Go.Proofs.YtamafdcnbcoegaaGreat
namespace Go.Proofs.YtamafdcnbcoegaaGreat
open Go.RowKit
set_option maxRecDepth 100000 in
set_option maxHeartbeats 1000000 in
theorem clearI_any {w : World} {p o : Nat} {t : TypeId} {arr : Array Value} {nv mv : Value} {l : List (Nat × Value)} (S : ShAt w p o t arr nv mv l) :
  Calls Tryz.prog 153 #[.pointer (some ⟨p, o, none⟩)] w fun e w' => e = .returned (.tuple #[]) ∧ ShStep w w' p o t arr nv mv [] := by
 obtain ⟨hbW, h0, h1, S, ht⟩ := S
 have h0s : o < arr.size := (Array.getElem?_eq_some_iff.1 h0).1
 have h1s : o + 1 < arr.size := (Array.getElem?_eq_some_iff.1 h1).1
 obtain ⟨mv0, hmv0⟩ : ∃ m, m = mv := ⟨_, rfl⟩
 rw [← hmv0]
 replace hmv0 := hide hmv0
 have c1 : w.cell? ⟨p, o + 1, none⟩ = some mv := (blk_cell hbW).trans h1
 have e0 := S.nums.cases
 have hm : (mv = .map none ∧ ∀ ty, (Builtin.clear_ #[140] ty #[.map none]).run Tryz.prog w = .ok (.tuple #[]) w) ∨
   ∃ b o, mv = .map (some b) ∧ b ≠ p ∧ nv.ownBlock ≠ some b ∧ (∀ ty, (Builtin.clear_ #[140] ty #[.map (some b)]).run Tryz.prog w = .ok (.tuple #[]) { w with heap := w.heap.setIfInBounds b o }) ∧ MapAt { w with heap := w.heap.setIfInBounds b o } b (fun _ => none) := by
  rcases S.map with ⟨rfl, hm⟩ | ⟨mb, rfl, hm⟩
  ·exact .inl ⟨rfl, fun ty => run_clear_n Tryz.underlying140⟩
  ·obtain ⟨ob, hU, hM⟩ := run_clear_m (P := Tryz.prog) (w := w) (t := 140) Tryz.underlying140 hm
   exact .inr ⟨mb, ob, rfl, fun e => hm.not_cells (by rw [e]; exact hbW), S.nums.notMap hm, fun ty => hU ty w rfl, hM⟩
 rcases hm with ⟨rfl, hrun⟩ | ⟨mb, ob, rfl, hmp, hmn, hrun, hM⟩
 all_goals
  go_enter Tryz.func153, Tryz.ntmps153
  go_upto_region 1 with fail
  refine wp_world (fun x => x.heap[p]? = some (.cells arr t (0, 0)) ∧ NumsAt x nv (l.map (·.1)) ∧ MapV x mv0 (look []) ∧ Far (fun k => k = p ∨ ShU nv mv0 k) w x) ?_ ?_
 ·exact ⟨hbW, S.nums, by rw [unhide hmv0]; exact .inl ⟨rfl, look_nil⟩, Far.refl _ _⟩
 rotate_left
 ·have hf := far_block (w := w) mb ob
  refine ⟨hf.blk hbW (fun e => hmp e.symm), S.nums.keep (fun g hg => hf.rest g (World.ownsRow.lt S.nums g hg).2 (fun e => hmn (by rw [hg, e]))), by rw [unhide hmv0]; exact .inr ⟨mb, rfl, by rw [look_nil]; exact hM⟩, hf.mono (fun k _ e => .inr (.inr (by rw [unhide hmv0, e]; rfl)))⟩
 all_goals
  clear S
  rintro x ⟨hb, N, M, hf⟩
  have c0 : x.cell? ⟨p, o, none⟩ = some nv := (blk_cell hb).trans h0
  have f0 : x.frozen? ⟨p, o, none⟩ = false := by simp [World.frozen?, hb]
  rcases e0 with ⟨rfl, _⟩ | ⟨g, cap, cur, rfl, hh, hn, hc, hz, htk⟩
  ·go_wp2
   refine bodyPost_end (results_none rfl _ _ _) rfl ⟨rfl, ?_⟩
   refine ⟨⟨_, mv0, ⟨?_, ?_, ?_, ⟨numsAt_nil _, M.keep (fun b hb' => blk_set_ne (fun e => ?_)), by simp, by simp⟩, ht⟩, .inr (.inl rfl), .inl rfl⟩, hf.trans (far_set x p o _) (fun _ _ h => .inl h)⟩
   ·have := blk_set (j := o) (v := .slice none 0 0) hb
    rw [set_same (i := o + 1)]
    ·exact this
    ·rw [Array.getElem?_setIfInBounds_ne (by omega), h1, unhide hmv0]
   ·rw [Array.getElem?_setIfInBounds_ne (by omega)]; simp [h0s]
   ·simp [h1s]
   ·rcases M with ⟨h, _⟩ | ⟨b', h, hM'⟩
    ·rw [h] at hb'; cases hb'
    ·rw [h] at hb'; cases hb'; exact hM'.not_cells (by rw [e]; exact hb)
  ·go_wp2
   refine bodyPost_end (results_none rfl _ _ _) rfl ⟨rfl, ?_⟩
   rcases N.cases with ⟨h, _⟩ | ⟨g', cap', cur', h, hh', hn', hc', hz', htk'⟩
   ·cases h
   ·injection h with h _ h3
    injection h with h
    injection h with h
    subst h h3
    have hgp : g ≠ p := fun e => by
     subst e
     rw [hh'] at hb
     injection hb with hb
     injection hb with _ hb _
     exact ht hb.symm
    refine ⟨⟨_, mv0, ⟨?_, ?_, ?_, ⟨numsAt_mk (ns := []) ((blk_set_ne hgp).trans hh') (Nat.zero_le _) hc hz' rfl, M.keep (fun b hb' => blk_set_ne (fun e => ?_)), by simp, by simp⟩, ht⟩, .inr (.inl rfl), .inl rfl⟩, hf.trans (far_set x p o _) (fun _ _ h => .inl h)⟩
    ·rw [set_same (i := o + 1)]
     ·exact blk_set (j := o) hb
     ·rw [Array.getElem?_setIfInBounds_ne (by omega), h1, unhide hmv0]
    ·rw [Array.getElem?_setIfInBounds_ne (by omega)]; simp [h0s]
    ·simp [h1s]
    ·rcases M with ⟨h, _⟩ | ⟨b', h, hM'⟩
     ·rw [h] at hb'; cases hb'
     ·rw [h] at hb'; cases hb'; exact hM'.not_cells (by rw [e]; exact hb)
set_option maxHeartbeats 400000 in
theorem getI_any {w : World} {p o : Nat} {arr : Array Value} {t : TypeId} {nv mv : Value} {l : List (Nat × Value)} (hb : w.heap[p]? = some (.cells arr t (0, 0))) (h1 : arr[o + 1]? = some mv) (S : ShelfIs w nv mv l) (A : AreI l) (n : Int) :
  Calls Tryz.prog 191 #[.pointer (some ⟨p, o, none⟩), .int .i64 n] w fun e w' => e = .returned (.tuple #[(look l n).getD zeroI, .bool (look l n).isSome]) ∧ w' = w := by
 have c1 : w.cell? ⟨p, o + 1, none⟩ = some mv := (blk_cell hb).trans h1
 have hrun := (run_lookup_i (P := Tryz.prog) (w := w) (t := 140) Tryz.underlying140 Tryz.underlying3 (zero_I w) S.map n).1
 clear S hb h1
 rcases areI_look A n with ⟨m, h⟩ | h
 all_goals
  rw [h] at hrun ⊢
  simp only [Option.getD_some, Option.getD_none, Option.isSome_some, Option.isSome_none, recI, zeroI] at hrun ⊢
  clear h A
  go_enter Tryz.func191, Tryz.ntmps191
  go_wp2
  go_ret2
  exact ⟨rfl, rfl⟩
end Go.Proofs.YtamafdcnbcoegaaGreat
namespace Go.Proofs.YtamafdcnbcoegaaGreat
open Go.RowKit
theorem infoRI : (Tryz.prog.info? 3).map (fun i => (i.zero, i.size, i.bytes)) = some (some (.int .i64 0), 1, 8) := by kernel_rfl
set_option maxRecDepth 100000 in
set_option maxHeartbeats 2000000 in
theorem takeUpToI_any {w : World} {p o : Nat} {t : TypeId} {arr : Array Value} {nv mv : Value} {l : List (Nat × Value)} (S : ShAt w p o t arr nv mv l) (A : AreI l) (n : Nat) :
  Calls Tryz.prog 201 #[.pointer (some ⟨p, o, none⟩), .int .i64 n] w fun e w' => ∃ v, e = .returned v ∧
   w'.ownsRow w.heap.size 3 1 v (cutAt l n) (flat (l.take (cutAt l n))) ∧ ShTook w w' p o t arr nv mv (l.drop (cutAt l n)) := by
 obtain ⟨hbW, h0, h1, S, ht⟩ := S
 have h0s : o < arr.size := (Array.getElem?_eq_some_iff.1 h0).1
 have h1s : o + 1 < arr.size := (Array.getElem?_eq_some_iff.1 h1).1
 have c0 : w.cell? ⟨p, o, none⟩ = some nv := (blk_cell hbW).trans h0
 have hlen := S.len
 have hsr := search_any S.nums S.sorted (by simp; omega) n
 have hcut := cut_eq (n := n) S.sorted
 have hcl := cut_le l n
 have hk0 : (l.map (·.1)).countP (· < n) ≤ l.length := by have := List.countP_le_length (p := (· < n)) (l := l.map (·.1)); simpa using this
 obtain ⟨i0, hi, hz0, hz1, hz2⟩ := info_parts2 infoRI
 generalize cutAt l n = ce at *
 generalize (l.map (·.1)).countP (· < n) = k0 at *
 generalize (l.map (·.1)).contains n = c at *
 have hkl : (l.map (·.1)).length = l.length := List.length_map _
 have SS := hide S
 have HL := hide hkl
 replace hsr := hide hsr
 rcases S.nums.cases with ⟨hnv, hlz⟩ | ⟨g, cap, cur, hnv, hh, hn, hc, hz, htk⟩
 ·subst hnv
  obtain rfl : l = [] := by simpa using hlz
  obtain rfl : ce = 0 := by simpa using hcl
  obtain rfl : k0 = 0 := by simpa using hk0
  have hc : c = false := by cases c <;> simp_all
  subst hc
  have hde := fun y : World => delete_any (numsAt_nil y) 0 0 (by omega) (by simp)
  simp only [show ((0 : Nat) : Int) = 0 from rfl, List.take_nil, List.drop_nil, List.nil_append] at hde
  have HDE := fun y => hide (hde y)
  clear S hkl hde hcut hk0 hcl hlz
  simp only [show ((0 : Nat) : Int) = 0 from rfl] at hsr
  go_enter Tryz.func201, Tryz.ntmps201
  go_upto_region 5 with (go_at_call 132; refine (unhide hsr).mono ?_; rintro e y ⟨rfl, q, rfl⟩)
  go_wp2
  go_loopw [5, 9, 29] (fun v5 _ i wr => v5 = .slice none 0 0 ∧ i = .int .i64 0 ∧ wr = w.drewN q) (fun _ _ i _ => 0)
  case atStart => exact ⟨rfl, rfl, rfl⟩
  case round =>
   obtain ⟨rfl, rfl, rfl⟩ := hrel
   go_upto_region 12 with fail
   refine (unhide (HDE _)).mono ?_
   rintro e z ⟨nv', rfl, N', hF', hown⟩
   obtain rfl : nv' = .slice none 0 0 := by
    rcases N'.cases with ⟨h, _⟩ | ⟨g', cap', cur', rfl, _⟩
    ·exact h
    ·cases hown
   have hfz : Far (fun _ => False) w z := (far_drewN (fun _ => False) w q).trans (hF'.mono (fun _ _ h => by cases h)) (fun _ _ h => h)
   have hbz := hfz.blk hbW id
   have cz := (blk_cell hbz).trans h0
   have fz : z.frozen? ⟨p, o, none⟩ = false := by simp [World.frozen?, hbz]
   replace N' := hide N'
   replace hfz := hide hfz
   clear hF' hown
   go_wp2
   go_ret
   have S0 := unhide SS
   have hE : z.setCell ⟨p, o, none⟩ (.slice none 0 0) = z.setCell ⟨p, o, none⟩ (.slice none 0 0) := rfl
   refine ⟨_, rfl, World.ownsRow_nil _ _ _ _, ⟨_, ⟨blk_set hbz, by simp [h0s], by rw [Array.getElem?_setIfInBounds_ne (by omega)]; exact h1, ⟨numsAt_nil _, (S0.far (unhide hfz) (fun _ _ h => h)).map.keep (fun b hb' => blk_set_ne (fun e => ?_)), by simp, by simp⟩, ht⟩, rfl⟩, ((unhide hfz).mono (fun _ _ h => h.elim)).trans (far_set z p o _) (fun _ _ h => .inl h)⟩
   exact S0.ne hbW ht (.inr (by rw [hb', e]))
 ·rw [hkl] at hnv hn
  subst hnv
  have N0 := hide S.nums
  cases c
  all_goals
   simp only [if_true, if_false, Bool.false_eq_true, Nat.add_zero] at hcut
   clear S htk hkl
   try (rw [hcut] at hsr)
   have hcI : ((k0 : Int) + 1 = (ce : Int)) = ((k0 : Int) + 1 = (ce : Int)) := rfl
   try (have hcI : (k0 : Int) + 1 = ce := by omega)
   replace hcut := hide hcut
   go_enter Tryz.func201, Tryz.ntmps201
   go_upto_region 5 with (go_at_call 132; refine (unhide hsr).mono ?_; rintro e y ⟨rfl, q, rfl⟩)
  all_goals
   go_wp2
   go_loopw [5, 9, 29] (fun v5 _ i wr => ∃ k : Nat, k ≤ ce ∧ i = .int .i64 k ∧ wr.ownsRow w.heap.size 3 1 v5 k (flat (l.take k)) ∧ wr.heap[p]? = some (.cells arr t (0, 0)) ∧ NumsAt wr (.slice (some ⟨g, 0, none⟩) l.length cap) (l.map (·.1)) ∧ MapV wr mv (look (l.drop k)) ∧ Far (fun b => mapBlock mv = some b) w wr) (fun _ _ i _ => l.length - (intOf i).toNat)
   case atStart => exact ⟨0, by omega, rfl, World.ownsRow_nil _ _ _ _, hbW, (unhide SS).nums, by rw [List.drop_zero]; exact (unhide SS).map, far_drewN _ w q⟩
   case round =>
    obtain ⟨k, hk, rfl, ho, hb, N, M, hf⟩ := hrel
    by_cases hlt : k < ce
    ·have hkl : k < l.length := by omega
     obtain ⟨m, hx⟩ := A l[k] (List.getElem_mem hkl)
     have hdr : l.drop k = l[k] :: l.drop (k + 1) := List.drop_eq_getElem_cons hkl
     have hlk : look (l.drop k) (l[k].1 : Int) = some l[k].2 := by rw [hdr, look_cons, if_pos rfl]
     have hsorted := (unhide SS).sorted
     have hgt : ∀ y ∈ l.drop (k + 1), l[k].1 < y.1 := fun y hy => by
      have h1 : ((l.drop k).map (·.1)).Pairwise (· < ·) := by rw [List.map_drop]; exact hsorted.drop
      rw [hdr, List.map_cons, List.pairwise_cons] at h1
      exact h1.1 y.1 (List.mem_map.2 ⟨y, hy, rfl⟩)
     have hdel := del_look hgt
     rw [← hdr] at hdel
     have htake : flat (l.take (k + 1)) = flat (l.take k) ++ vcells l[k].2 := by rw [← flat_snoc, List.take_add_one, List.getElem?_eq_getElem hkl]; rfl
     have c0 := (blk_cell hb).trans h0
     have c1 := (blk_cell hb).trans h1
     have cn : wr.cell? ⟨g, k, none⟩ = some (.int .i64 (l[k].1 : Int)) := by
      rw [N.cell' (by simpa using hkl)]
      simp [List.getD_eq_getElem?_getD, hkl]
     rcases M with ⟨rfl, hM⟩ | ⟨mb, rfl, hM⟩
     ·rw [hM] at hlk; cases hlk
     have hrun := (run_lookup_i (P := Tryz.prog) (w := wr) (t := 140) Tryz.underlying140 Tryz.underlying3 (zero_I wr) (.inr ⟨mb, rfl, hM⟩) (l[k].1 : Int)).2
     rw [hlk, hx] at hrun
     rw [hx] at htake
     simp only [Option.getD_some, recI] at hrun
     have HT := hide htake
     have HD := hide hdel
     have HO := hide ho
     have HN := hide N
     have HM := hide hM
     have HF := hide hf
     have HX := hide hx
     clear ho N hM hf htake hdel hlk hx hdr hgt hsorted
     generalize hxn : l[k].1 = xn at *
     replace hxn := hide hxn
     have hsz := (unhide HF).size
     have hmb : mb < w.heap.size := (unhide SS).map.lt mb rfl
     have hpw := lt_of_block hbW
     have hk5 := fun g' (hg' : u5.ownBlock = some g') => World.ownsRow.lt (unhide HO) g' hg'
     go_upto_region 9 with (at_builtin; refine wpList_append_own _ rfl (.tmp 33) (.tmp 40) 26 rfl w.heap.size 3 i0 (.int .i64 0) 1 8 Tryz.underlying26 hi hz0 hz1 hz2 rfl (by decide) u5 k (flat (l.take k)) rfl ((unhide HO).alloc _) ⟨wr.heap.size, 0, none⟩ 1 1 (vcells (recI m)) rfl rfl cells_new (by intro u hu; simp [vcells, recI] at hu; first | (rcases hu with rfl | rfl <;> rfl) | (subst hu; rfl)) (by unfold maxLen; omega) (by omega) (by simp; omega) ?_; intro v' w1 hown' hgrow _; have hb1 : Below w.heap.size wr w1 := ((Below.refl _ wr).alloc hsz _).trans (below_grown_new (B := w.heap.size) hgrow (by simp; omega) (fun g' hg' => (hk5 g' hg').1)); obtain ⟨ob, hU, hM1⟩ := run_delete_i (P := Tryz.prog) (w := w1) (t := 140) (K' := 3) Tryz.underlying140 Tryz.underlying3 ((unhide HM).keep (hb1.block mb hmb)) xn; have hU2 := fun ty => hU ty w1 rfl; have hp1 := (hb1.block p hpw).trans hb; have c1' := (blk_cell hp1).trans h1; replace hown' := hide hown'; replace hM1 := hide hM1; replace hb1 := hide hb1; clear hgrow hU)
     go_wp2
     have hpm : p ≠ mb := fun e => (unhide HM).not_cells (by rw [← e]; exact hb)
     have hnm := (unhide HN).notMap (unhide HM)
     have hg := (World.ownsRow.lt (unhide HN) g rfl).2
     have hgw : g < w.heap.size := lt_of_block hh
     have hW := far_block (w := w1) mb ob
     have hN1 := (unhide HN).keep (w' := { w1 with heap := w1.heap.setIfInBounds mb ob }) (fun g' hg' => by
      cases hg'
      exact (hW.rest g (Nat.lt_of_lt_of_le hgw (Nat.le_trans hsz (unhide hb1).size)) (fun e => hnm (by rw [e]; rfl))).trans ((unhide hb1).block g hgw))
     have ho1 := ownsRow_keep2 (w' := { w1 with heap := w1.heap.setIfInBounds mb ob }) (unhide hown') (fun g' hg' => hW.rest g' (World.ownsRow.lt (unhide hown') g' hg').2 (fun e => by have := (World.ownsRow.lt (unhide hown') g' hg').1; omega))
     refine ⟨⟨k + 1, by omega, by go_num, by rw [unhide HT]; exact ho1, (hW.rest p (lt_of_block hp1) hpm).trans hp1, hN1, .inr ⟨mb, rfl, by rw [← unhide HD]; exact unhide hM1⟩,
      ((unhide HF).behind (unhide hb1)).trans hW (fun _ _ h => by rw [h]; rfl)⟩, by simp [intOf]; omega⟩
    ·obtain rfl : k = ce := by omega
     have HO := hide ho
     have HN := hide N
     have HM := hide M
     have HF := hide hf
     have hll : (l.map (·.1)).length = l.length := List.length_map _
     have hgp : g ≠ p := fun e => (RowO.of_own N).ne hb (fun e => ht e.symm) (by rw [← e]; rfl)
     have c0 := (blk_cell hb).trans h0
     have hde := delete_any N 0 k (by omega) (by omega)
     rw [show ((0 : Nat) : Int) = 0 from rfl, List.take_zero, List.nil_append, ← List.map_drop] at hde
     replace hde := hide hde
     clear ho N M hf hll
     go_upto_region 12 with fail
     refine (unhide hde).mono ?_
     rintro e z ⟨nv', rfl, N', hF', hown⟩
     have hbz := hF'.blk hb (fun e => hgp (by cases e; rfl))
     have cz := (blk_cell hbz).trans h0
     have fz : z.frozen? ⟨p, o, none⟩ = false := by simp [World.frozen?, hbz]
     have hlk : (List.map (fun x => x.1) (List.drop k l)).length = l.length - k := by simp
     have hsh := (RowO.of_own N').shape
     rw [hlk] at hsh
     obtain ⟨ad', cap', rfl, _⟩ := hsh
     replace hlk := hide hlk
     replace N' := hide N'
     replace hown := hide hown
     replace hF' := hide hF'
     go_wp2
     go_ret
     have S0 := unhide SS
     have hfar : Far (fun b => b = p ∨ ShU (.slice (some ⟨g, 0, none⟩) l.length cap) mv b) w z := ((unhide HF).mono (fun _ _ h => .inr (.inr h))).trans (unhide hF') (fun _ _ h => .inr (.inl h))
     have hkeep : ∀ b, b ≠ p → (z.setCell ⟨p, o, none⟩ (.slice ad' (l.length - k) cap')).heap[b]? = z.heap[b]? := fun b hb => blk_set_ne hb
     have hmz : ∀ b, mapBlock mv = some b → b ≠ p ∧ z.heap[b]? = wr.heap[b]? := fun b hb' => by
      rcases unhide HM with ⟨h, _⟩ | ⟨b', h, hM'⟩
      ·rw [h] at hb'; cases hb'
      ·rw [h] at hb'; cases hb'
       exact ⟨fun e => hM'.not_cells (by rw [e]; exact hb), (unhide hF').rest b hM'.lt (fun e => (unhide HN).notMap hM' e)⟩
     refine ⟨_, rfl, ownsRow_keep2 (unhide HO) (fun g' hg' => ?_), ⟨_, ⟨blk_set hbz, by simp [h0s], by rw [Array.getElem?_setIfInBounds_ne (by omega)]; exact h1, ⟨(unhide N').keep (fun g' hg' => hkeep g' ?_), (unhide HM).keep (fun b hb' => (hkeep b (hmz b hb').1).trans (hmz b hb').2), by rw [List.map_drop]; exact S0.sorted.drop, by rw [List.length_drop]; omega⟩, ht⟩, unhide hown⟩, hfar.trans (far_set z p o _) (fun _ _ h => .inl h)⟩
     ·have hg5 := World.ownsRow.lt (unhide HO) g' hg'
      have hpw := lt_of_block hbW
      have hgw := lt_of_block hh
      exact (hkeep g' (by omega)).trans ((unhide hF').rest g' hg5.2 (fun e => by have e2 : g = g' := Option.some.inj e; omega))
     ·rw [unhide hown] at hg'
      cases hg'
      exact hgp
end Go.Proofs.YtamafdcnbcoegaaGreat
