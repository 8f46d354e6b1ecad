/-
  Part 2 of a proof: Mono, R1, R3, H1, H2, H3, H4, H6, H10, X1, D2, D3, D5, D4, MonoFoot.
-/
import Derived.Below
import Derived.Orders
import Derived.Laws.ResultCell
import Derived.Deep.RegionHeld3
import Derived.Laws.CopyOwn
import Derived.DeepKeys
import Derived.Laws.StructEq
import Derived.Test.YtamafdcnbcoegabGreatAn1
namespace Go.Proofs.YtamafdcnbcoegabGreat
open Go.RowKit
theorem hao (w:World) (o:Obj) {r:Nat} (h:r < w.heap.size):(w.alloc o).heap[r]? = w.heap[r]?:=by
  show (w.heap.push o)[r]? = _
  rw [Array.getElem?_push_lt h,Array.getElem?_eq_getElem h]
def wr (ops:Array Oper) (t:Tmp):Option Nat:=(List.range ops.size).find? fun j => ((ops[j]?).bind (·.dst)) == some t
def depB (ops:Array Oper) (i j:Nat):Bool:=match ops[i]? with
 | some o => o.after.any fun e => Region.binds .any e && e.on == j
 | none => false
def monoOk (ops:Array Oper) (size:Nat):Bool :=
 Region.noSelect ops && (List.range ops.size).all fun i => match ops[i]? with
  | none => false
  | some o => (match o.dst with
    | none => true
    | some d => decide (d < size) && wr ops d == some i)
   && ((o.looksAt ops).all fun t => match wr ops t with
    | none => true
    | some j => depB ops i j || depB ops j i)
   && o.after.all fun e => !Region.binds .any e || decide (e.on < i)
theorem countP_lt {α:Type} {p q:α→Bool}:∀ {l:List α},(∀ x ∈ l,q x=true→p x=true)→(∃ x ∈ l,p x=true∧q x=false)→l.countP q < l.countP p
 | [],_,⟨_,h,_⟩ => by cases h
 | y :: l,h,⟨x,hx,h1,h2⟩ => by
  have hle:l.countP q ≤ l.countP p:=List.countP_mono_left (fun z hz => h z (List.mem_cons_of_mem _ hz))
  rcases List.mem_cons.1 hx with rfl | hx
  ·rw [List.countP_cons_of_pos h1,List.countP_cons_of_neg (by simp [h2])];omega
  ·have ih:=countP_lt (fun z hz => h z (List.mem_cons_of_mem _ hz)) ⟨x,hx,h1,h2⟩
   by_cases hq:q y=true
   ·rw [List.countP_cons_of_pos hq,List.countP_cons_of_pos (h y (List.mem_cons_self ..) hq)];omega
   ·rw [List.countP_cons_of_neg hq]
    have:List.countP p (y :: l)=l.countP p+if p y=true then 1 else 0:=by rw [List.countP_cons]
    rw [this];split <;> omega
section
variable {P:Program} {ops:Array Oper} {Q:Exit→Act→World→Prop}
def GoodAct (ops:Array Oper) (Φ:Nat→Value→World→Prop) (a0:Act) (i:Nat) (o:Oper) (a:Act) (w:World):Prop :=
 ∀ t ∈ o.looksAt ops,match wr ops t with
  | some j => if depB ops i j=true then Φ j (a.tmps.getD t undef) w else a.tmps.getD t undef=a0.tmps.getD t undef
  | none => a.tmps.getD t undef=a0.tmps.getD t undef
structure MonoInv (ops:Array Oper) (Φ:Nat→Value→World→Prop) (a0:Act) (w0:World) (L:Array Bool) (a:Act) (w:World):Prop where
 size:L.size=ops.size
 ext:Below w0.heap.size w0 w
 closed:∀ k,L.getD k false=true→∀ j,depB ops k j=true→L.getD j false=true
 vals:∀ i o d,ops[i]? = some o→o.dst=some d→L.getD i false=true→Φ i (a.tmps.getD d undef) w
 rest:∀ t,(∀ j,wr ops t=some j→L.getD j false=false)→a.tmps.getD t undef=a0.tmps.getD t undef
 defers:a.defers=a0.defers
 tsize:a.tmps.size=a0.tmps.size
theorem monoOk_spec {size:Nat} (h:monoOk ops size=true) {i:Nat} {o:Oper} (ho:ops[i]? = some o) :
  (∀ d,o.dst=some d→d < size∧wr ops d=some i)∧(∀ t ∈ o.looksAt ops,∀ j,wr ops t=some j→depB ops i j=true ∨ depB ops j i=true)∧(∀ j,depB ops i j=true→j < i):=by
 unfold monoOk at h
 rw [Bool.and_eq_true] at h
 have hi:i < ops.size:=(Array.getElem?_eq_some_iff.1 ho).1
 have h1:=List.all_eq_true.1 h.2 i (List.mem_range.2 hi)
 simp only [ho,Bool.and_eq_true] at h1
 obtain ⟨⟨h1,h2⟩,h3⟩:=h1
 refine ⟨fun d hd => ?_,fun t ht j hj => ?_,fun j hj => ?_⟩
 ·rw [hd] at h1
  simp only [Bool.and_eq_true,decide_eq_true_eq,beq_iff_eq] at h1
  exact h1
 ·have:=List.all_eq_true.1 h2 t ht
  rw [hj] at this
  simpa using this
 ·unfold depB at hj
  rw [ho] at hj
  obtain ⟨e,he,hb⟩:=Array.any_eq_true'.1 hj
  simp only [Bool.and_eq_true,beq_iff_eq] at hb
  have:=Array.all_eq_true_iff_forall_mem.1 h3 e he
  simp [hb.1] at this
  omega
theorem mono_any {a0:Act} {w0:World} (Φ:Nat→Value→World→Prop) (hok:monoOk ops a0.tmps.size=true)
  (hst:∀ i v w w',Φ i v w→Below w.heap.size w w' → Φ i v w')
  (hop:∀ i o,ops[i]? = some o→∀ a w,Below w0.heap.size w0 w→GoodAct ops Φ a0 i o a w →
   if Region.wanted o (yielded ops a.tmps)=true then o.wp P a w (fun a' w' => ∃ v,a' = a.put o.dst v∧Below w.heap.size w w' ∧ Φ i v w') Q else Φ i undef w)
  (hend:∀ a w,Below w0.heap.size w0 w→(∀ i o d,ops[i]? = some o→o.dst=some d→Φ i (a.tmps.getD d undef) w)→(∀ t,wr ops t=none→a.tmps.getD t undef=a0.tmps.getD t undef)→a.defers=a0.defers→a.tmps.size=a0.tmps.size→Q .normal a w) :
  ∀ (fuel:Nat) (L:Array Bool) (a:Act) (w:World),MonoInv ops Φ a0 w0 L a w→(List.range ops.size).countP (fun i => !L.getD i false) ≤ fuel→wpAny P .any ops Q fuel L a w:=by
 have hrdy:∀ (L:Array Bool) (a:Act) (w:World),MonoInv ops Φ a0 w0 L a w→Region.ready .any ops L = [] → Q .normal a w:=by
  intro L a w hI hr
  have hall:∀ n i,i < n→i < ops.size→L.getD i false=true:=by
   intro n
   induction n with
   | zero => intro i h;omega
   | succ n ih =>
    intro i h hi
    by_cases hin:i < n
    ·exact ih i hin hi
    ·have e:i=n:=by omega
     subst e
     cases hL:L.getD i false
     ·exfalso
      have ho:ops[i]? = some ops[i]:=Array.getElem?_eq_getElem hi
      obtain ⟨_,_,h3⟩:=monoOk_spec hok ho
      have:i ∈ Region.ready .any ops L:=mem_ready.2 ⟨by
       have hs:i < L.size:=by rw [hI.size];exact hi
       rw [Array.getD_eq_getD_getElem?,Array.getElem?_eq_getElem hs] at hL ⊢
       exact hL,ops[i],ho,fun e he hb => by
       have hd:depB ops i e.on=true:=by
        unfold depB
        rw [ho]
        exact Array.any_eq_true'.2 ⟨e,he,by simp [hb]⟩
       have hlt:=h3 _ hd
       exact ih e.on hlt (by omega)⟩
      rw [hr] at this
      cases this
     ·rfl
  refine hend a w hI.ext (fun i o d ho hd => hI.vals i o d ho hd (hall ops.size i (Array.getElem?_eq_some_iff.1 ho).1 (Array.getElem?_eq_some_iff.1 ho).1)) (fun t ht => hI.rest t (fun j hj => by rw [ht] at hj;cases hj)) hI.defers hI.tsize
 intro fuel
 induction fuel with
 | zero =>
  intro L a w hI hc
  have hr:Region.ready .any ops L = []:=by
   apply List.eq_nil_iff_forall_not_mem.2
   intro i hi
   obtain ⟨h0,o,ho,_⟩:=mem_ready.1 hi
   have hlt:i < ops.size:=(Array.getElem?_eq_some_iff.1 ho).1
   have h0':L.getD i false=false:=by
    have hs:i < L.size:=by rw [hI.size];exact hlt
    rw [Array.getD_eq_getD_getElem?,Array.getElem?_eq_getElem hs] at h0 ⊢
    exact h0
   have:0 < (List.range ops.size).countP (fun i => !L.getD i false):=List.countP_pos_iff.2 ⟨i,List.mem_range.2 hlt,by simp [h0']⟩
   omega
  exact ⟨hr,hrdy L a w hI hr⟩
 | succ fuel ih =>
  intro L a w hI hc
  refine ⟨hrdy L a w hI,fun i hi => ?_⟩
  obtain ⟨h0,o,ho,hdeps⟩:=mem_ready.1 hi
  have hlt:i < ops.size:=(Array.getElem?_eq_some_iff.1 ho).1
  have hls:i < L.size:=by rw [hI.size];exact hlt
  have h0':L.getD i false=false:=by
   rw [Array.getD_eq_getD_getElem?,Array.getElem?_eq_getElem hls] at h0 ⊢
   exact h0
  obtain ⟨hd,hl,hlex⟩:=monoOk_spec hok ho
  have hdl:∀ j,depB ops i j=true→L.getD j false=true:=by
   intro j hj
   unfold depB at hj
   rw [ho] at hj
   obtain ⟨e,he,hb⟩:=Array.any_eq_true'.1 hj
   simp only [Bool.and_eq_true,beq_iff_eq] at hb
   rw [← hb.2];exact hdeps e he hb.1
  have hgood:GoodAct ops Φ a0 i o a w:=by
   intro t ht
   cases hw:wr ops t with
   | none => exact hI.rest t (fun j hj => by rw [hw] at hj;cases hj)
   | some j =>
    simp only []
    have hj:=List.find?_some hw
    simp only [beq_iff_eq] at hj
    split
    ·rename_i hdep
     cases hoj:ops[j]? with
     | none => rw [hoj] at hj;cases hj
     | some oj =>
      rw [hoj] at hj
      exact hI.vals j oj t hoj hj (hdl j hdep)
    ·rename_i hdep
     refine hI.rest t (fun j' hj' => ?_)
     rw [hw] at hj'
     cases hj'
     rcases hl t ht j hw with h | h
     ·exact absurd h hdep
     ·cases hLj:L.getD j false
      ·rfl
      ·have:=hI.closed j hLj i h
       rw [h0'] at this;cases this
  have hstep:∀ v w',Below w.heap.size w w' → Φ i v w' → MonoInv ops Φ a0 w0 (L.setIfInBounds i true) (a.put o.dst v) w':=by
   intro v w' hb hv
   have hget:∀ k,(L.setIfInBounds i true).getD k false=true ↔ (k=i ∨ L.getD k false=true):=by
    intro k
    by_cases hk:k=i
    ·subst hk
     simp [Array.getD_eq_getD_getElem?,hls]
    ·rw [getD_set_ne false (fun e => hk e.symm)]
     simp [hk]
   have hput:∀ t,(a.put o.dst v).tmps.getD t undef=if o.dst=some t then v else a.tmps.getD t undef:=by
    intro t
    cases hdst:o.dst with
    | none => simp [Act.put]
    | some d =>
     simp only [Act.put,Option.some.injEq]
     have hdsz:d < a.tmps.size:=by rw [hI.tsize];exact (hd d hdst).1
     by_cases h:d=t
     ·subst h
      simp [Array.getD_eq_getD_getElem?,hdsz]
     ·simp [Array.getD_eq_getD_getElem?,h]
   refine ⟨by simp [hI.size],hI.ext.trans (hb.mono hI.ext.size),?_,?_,?_,?_,?_⟩
   ·intro k hk j hj
    rw [hget] at hk ⊢
    rcases hk with rfl | hk
    ·exact .inr (hdl j hj)
    ·exact .inr (hI.closed k hk j hj)
   ·intro k ok d hok' hdk hk
    rw [hget] at hk
    rw [hput]
    rcases hk with rfl | hk
    ·rw [ho] at hok';cases hok'
     rw [if_pos hdk];exact hv
    ·have hne:o.dst ≠ some d:=by
      intro e
      have h1:=(hd d e).2
      have h2:=((monoOk_spec hok hok').1 d hdk).2
      rw [h1] at h2
      cases h2
      rw [h0'] at hk;cases hk
     rw [if_neg hne]
     exact hst k _ _ _ (hI.vals k ok d hok' hdk hk) hb
   ·intro t ht
    rw [hput]
    have hne:o.dst ≠ some t:=by
     intro e
     have:=ht i (hd t e).2
     have h2:=(hget i).2 (.inl rfl)
     rw [this] at h2;cases h2
    rw [if_neg hne]
    refine hI.rest t (fun j hj => ?_)
    cases hLj:L.getD j false
    ·rfl
    ·have:=ht j hj
     rw [(hget j).2 (.inr hLj)] at this;cases this
   ·cases o.dst <;> exact hI.defers
   ·rw [← hI.tsize];cases o.dst <;> simp [Act.put]
  have hcount:(List.range ops.size).countP (fun k => !(L.setIfInBounds i true).getD k false) ≤ fuel:=by
   have:=countP_lt (l:=List.range ops.size) (p:=fun k => !L.getD k false) (q:=fun k => !(L.setIfInBounds i true).getD k false)
    (fun k _ hk => by
     by_cases hki:k=i
     ·subst hki;simp [h0']
     ·rw [getD_set_ne false (fun e => hki e.symm)] at hk;exact hk)
    ⟨i,List.mem_range.2 hlt,by simp [h0'],by simp [Array.getD_eq_getD_getElem?,hls]⟩
   omega
  have hg:=hop i o ho a w hI.ext hgood
  unfold wpOp
  rw [ho]
  simp only []
  split at hg
  ·rename_i hw
   rw [if_pos hw]
   refine .inl (Oper.wp_mono ?_ hg)
   rintro a' w' ⟨v,rfl,hb,hv⟩
   exact ih _ _ _ (hstep v w' hb hv) hcount
  ·rename_i hw
   rw [if_neg hw]
   exact ih _ _ _ (hstep undef w (Below.refl _ _) hg) hcount
def coverB (ops:Array Oper) (last:Nat):Bool:=(List.range last).all fun i => (List.range (last+1)).any fun k => depB ops k i
theorem mono_any_last {a0:Act} {w0:World} (Φ:Nat→Value→World→Prop) (hok:monoOk ops a0.tmps.size=true) (last:Nat) (hn:ops.size=last+1) (hcov:coverB ops last=true)
  (hst:∀ i v w w',Φ i v w→Below w.heap.size w w' → Φ i v w')
  (hop:∀ i o,i < last→ops[i]? = some o→∀ a w,Below w0.heap.size w0 w→GoodAct ops Φ a0 i o a w →
   if Region.wanted o (yielded ops a.tmps)=true then o.wp P a w (fun a' w' => ∃ v,a' = a.put o.dst v∧Below w.heap.size w w' ∧ Φ i v w') Q else Φ i undef w)
  (hend:∀ a w,Below w0.heap.size w0 w→(∀ i o d,i < last→ops[i]? = some o→o.dst=some d→Φ i (a.tmps.getD d undef) w)→(∀ t,(∀ j,wr ops t=some j→j=last)→a.tmps.getD t undef=a0.tmps.getD t undef)→a.defers=a0.defers→a.tmps.size=a0.tmps.size→wpOp P ops Q last (Q .normal) a w) :
  ∀ (fuel:Nat) (L:Array Bool) (a:Act) (w:World),MonoInv ops Φ a0 w0 L a w→L.getD last false=false→(List.range ops.size).countP (fun i => !L.getD i false) ≤ fuel→wpAny P .any ops Q fuel L a w:=by
 have hrdy:∀ (L:Array Bool) (a:Act) (w:World),MonoInv ops Φ a0 w0 L a w→L.getD last false=false→Region.ready .any ops L = [] → False:=by
  intro L a w hI hlast hr
  have hall:∀ n i,i < n→i < ops.size→L.getD i false=true:=by
   intro n
   induction n with
   | zero => intro i h;omega
   | succ n ih =>
    intro i h hi
    by_cases hin:i < n
    ·exact ih i hin hi
    ·have e:i=n:=by omega
     subst e
     cases hL:L.getD i false
     ·exfalso
      have ho:ops[i]? = some ops[i]:=Array.getElem?_eq_getElem hi
      obtain ⟨_,_,h3⟩:=monoOk_spec hok ho
      have:i ∈ Region.ready .any ops L:=mem_ready.2 ⟨by
       have hs:i < L.size:=by rw [hI.size];exact hi
       rw [Array.getD_eq_getD_getElem?,Array.getElem?_eq_getElem hs] at hL ⊢
       exact hL,ops[i],ho,fun e he hb => by
       have hd:depB ops i e.on=true:=by
        unfold depB
        rw [ho]
        exact Array.any_eq_true'.2 ⟨e,he,by simp [hb]⟩
       have hlt:=h3 _ hd
       exact ih e.on hlt (by omega)⟩
      rw [hr] at this
      cases this
     ·rfl
  have:=hall ops.size last (by omega) (by omega)
  rw [hlast] at this;cases this
 have hcl:∀ (L:Array Bool) (a:Act) (w:World),MonoInv ops Φ a0 w0 L a w→(∀ j,depB ops last j=true→L.getD j false=true)→∀ n i,last ≤ i+n→i < last→L.getD i false=true:=by
  intro L a w hI hdl n
  induction n with
  | zero => intro i h hi;omega
  | succ n ih =>
   intro i h hi
   unfold coverB at hcov
   have h1:=List.all_eq_true.1 hcov i (List.mem_range.2 hi)
   obtain ⟨k,hk,hd⟩:=List.any_eq_true.1 h1
   have hk':k < last+1:=List.mem_range.1 hk
   by_cases hkl:k=last
   ·subst hkl;exact hdl i hd
   ·have hlt:i < k:=by
     unfold depB at hd
     cases hok':ops[k]? with
     | none => rw [hok'] at hd;cases hd
     | some ok =>
      obtain ⟨_,_,h3⟩:=monoOk_spec hok hok'
      exact h3 i (by unfold depB;exact hd)
    exact hI.closed k (ih k (by omega) (by omega)) i hd
 intro fuel
 induction fuel with
 | zero =>
  intro L a w hI hlast hc
  have:0 < (List.range ops.size).countP (fun i => !L.getD i false):=List.countP_pos_iff.2 ⟨last,List.mem_range.2 (by omega),by simp only [hlast];rfl⟩
  omega
 | succ fuel ih =>
  intro L a w hI hlast hc
  refine ⟨fun h => (hrdy L a w hI hlast h).elim,fun i hi => ?_⟩
  obtain ⟨h0,o,ho,hdeps⟩:=mem_ready.1 hi
  have hlt:i < ops.size:=(Array.getElem?_eq_some_iff.1 ho).1
  have hls:i < L.size:=by rw [hI.size];exact hlt
  have h0':L.getD i false=false:=by
   rw [Array.getD_eq_getD_getElem?,Array.getElem?_eq_getElem hls] at h0 ⊢
   exact h0
  obtain ⟨hd,hl,hlex⟩:=monoOk_spec hok ho
  have hdl:∀ j,depB ops i j=true→L.getD j false=true:=by
   intro j hj
   unfold depB at hj
   rw [ho] at hj
   obtain ⟨e,he,hb⟩:=Array.any_eq_true'.1 hj
   simp only [Bool.and_eq_true,beq_iff_eq] at hb
   rw [← hb.2];exact hdeps e he hb.1
  by_cases hil:i=last
  ·subst hil
   have hall:=hcl L a w hI hdl i
   refine wpOp_mono ?_ (hend a w hI.ext (fun j o' d hj ho' hd' => hI.vals j o' d ho' hd' (hall j (by omega) hj)) (fun t ht => hI.rest t (fun j hj => by rw [ht j hj];exact hlast)) hI.defers hI.tsize)
   intro a' w' hq
   refine wpAny_done ?_ hq _
   apply List.eq_nil_iff_forall_not_mem.2
   intro j hj
   obtain ⟨hj0,oj,hoj,_⟩:=mem_ready.1 hj
   have hjlt:j < ops.size:=(Array.getElem?_eq_some_iff.1 hoj).1
   have hls':j < L.size:=by rw [hI.size];exact hjlt
   have hj1:(L.setIfInBounds i true).getD j false=false:=by
    rw [Array.getD_eq_getD_getElem?,Array.getElem?_eq_getElem (by simpa using hls')] at hj0 ⊢
    exact hj0
   by_cases hji:j=i
   ·subst hji
    simp [Array.getD_eq_getD_getElem?,hls] at hj1
   ·rw [getD_set_ne false (fun e => hji e.symm),hall j (by omega) (by omega)] at hj1
    cases hj1
  have hlt':i < last:=by omega
  have hgood:GoodAct ops Φ a0 i o a w:=by
   intro t ht
   cases hw:wr ops t with
   | none => exact hI.rest t (fun j hj => by rw [hw] at hj;cases hj)
   | some j =>
    simp only []
    have hj:=List.find?_some hw
    simp only [beq_iff_eq] at hj
    split
    ·rename_i hdep
     cases hoj:ops[j]? with
     | none => rw [hoj] at hj;cases hj
     | some oj =>
      rw [hoj] at hj
      exact hI.vals j oj t hoj hj (hdl j hdep)
    ·rename_i hdep
     refine hI.rest t (fun j' hj' => ?_)
     rw [hw] at hj'
     cases hj'
     rcases hl t ht j hw with h | h
     ·exact absurd h hdep
     ·cases hLj:L.getD j false
      ·rfl
      ·have:=hI.closed j hLj i h
       rw [h0'] at this;cases this
  have hstep:∀ v w',Below w.heap.size w w' → Φ i v w' → MonoInv ops Φ a0 w0 (L.setIfInBounds i true) (a.put o.dst v) w':=by
   intro v w' hb hv
   have hget:∀ k,(L.setIfInBounds i true).getD k false=true ↔ (k=i ∨ L.getD k false=true):=by
    intro k
    by_cases hk:k=i
    ·subst hk
     simp [Array.getD_eq_getD_getElem?,hls]
    ·rw [getD_set_ne false (fun e => hk e.symm)]
     simp [hk]
   have hput:∀ t,(a.put o.dst v).tmps.getD t undef=if o.dst=some t then v else a.tmps.getD t undef:=by
    intro t
    cases hdst:o.dst with
    | none => simp [Act.put]
    | some d =>
     simp only [Act.put,Option.some.injEq]
     have hdsz:d < a.tmps.size:=by rw [hI.tsize];exact (hd d hdst).1
     by_cases h:d=t
     ·subst h
      simp [Array.getD_eq_getD_getElem?,hdsz]
     ·simp [Array.getD_eq_getD_getElem?,h]
   refine ⟨by simp [hI.size],hI.ext.trans (hb.mono hI.ext.size),?_,?_,?_,?_,?_⟩
   ·intro k hk j hj
    rw [hget] at hk ⊢
    rcases hk with rfl | hk
    ·exact .inr (hdl j hj)
    ·exact .inr (hI.closed k hk j hj)
   ·intro k ok d hok' hdk hk
    rw [hget] at hk
    rw [hput]
    rcases hk with rfl | hk
    ·rw [ho] at hok';cases hok'
     rw [if_pos hdk];exact hv
    ·have hne:o.dst ≠ some d:=by
      intro e
      have h1:=(hd d e).2
      have h2:=((monoOk_spec hok hok').1 d hdk).2
      rw [h1] at h2
      cases h2
      rw [h0'] at hk;cases hk
     rw [if_neg hne]
     exact hst k _ _ _ (hI.vals k ok d hok' hdk hk) hb
   ·intro t ht
    rw [hput]
    have hne:o.dst ≠ some t:=by
     intro e
     have:=ht i (hd t e).2
     have h2:=(hget i).2 (.inl rfl)
     rw [this] at h2;cases h2
    rw [if_neg hne]
    refine hI.rest t (fun j hj => ?_)
    cases hLj:L.getD j false
    ·rfl
    ·have:=ht j hj
     rw [(hget j).2 (.inr hLj)] at this;cases this
   ·cases o.dst <;> exact hI.defers
   ·rw [← hI.tsize];cases o.dst <;> simp [Act.put]
  have hcount:(List.range ops.size).countP (fun k => !(L.setIfInBounds i true).getD k false) ≤ fuel:=by
   have:=countP_lt (l:=List.range ops.size) (p:=fun k => !L.getD k false) (q:=fun k => !(L.setIfInBounds i true).getD k false)
    (fun k _ hk => by
     by_cases hki:k=i
     ·subst hki;simp [h0']
     ·rw [getD_set_ne false (fun e => hki e.symm)] at hk;exact hk)
    ⟨i,List.mem_range.2 hlt,by simp [h0'],by simp [Array.getD_eq_getD_getElem?,hls]⟩
   omega
  have hlast':(L.setIfInBounds i true).getD last false=false:=by rw [getD_set_ne false hil];exact hlast
  have hg:=hop i o hlt' ho a w hI.ext hgood
  unfold wpOp
  rw [ho]
  simp only []
  split at hg
  ·rename_i hw
   rw [if_pos hw]
   refine .inl (Oper.wp_mono ?_ hg)
   rintro a' w' ⟨v,rfl,hb,hv⟩
   exact ih _ _ _ (hstep v w' hb hv) hlast' hcount
  ·rename_i hw
   rw [if_neg hw]
   exact ih _ _ _ (hstep undef w (Below.refl _ _) hg) hlast' hcount
theorem wp_region_mono {id:Nat} {a0:Act} {w0:World} (hm:P.follows .mixedOrders=true) (Φ:Nat→Value→World→Prop) (hok:monoOk ops a0.tmps.size=true)
  (hst:∀ i v w w',Φ i v w→Below w.heap.size w w' → Φ i v w')
  (hop:∀ i o,ops[i]? = some o→∀ a w,Below w0.heap.size w0 w→GoodAct ops Φ a0 i o a w →
   if Region.wanted o (yielded ops a.tmps)=true then o.wp P a w (fun a' w' => ∃ v,a' = a.put o.dst v∧Below w.heap.size w w' ∧ Φ i v w') Q else Φ i undef w)
  (hend:∀ a w,Below w0.heap.size w0 w→(∀ i o d,ops[i]? = some o→o.dst=some d→Φ i (a.tmps.getD d undef) w)→(∀ t,wr ops t=none→a.tmps.getD t undef=a0.tmps.getD t undef)→a.defers=a0.defers→a.tmps.size=a0.tmps.size→Q .normal a w) :
  (Code.region id ops true).wp P Q a0 w0:=by
 refine wp_region_any hm (mono_any (w0:=w0) Φ hok hst hop hend ops.size _ a0 _ ⟨by simp,(Below.refl _ _).drew,?_,?_,fun _ _ => rfl,rfl,rfl⟩ ?_)
 ·intro k hk
  simp [Array.getD_eq_getD_getElem?] at hk
  rcases h:(Array.replicate ops.size false)[k]? with _ | b <;> simp [h] at hk
  subst hk
  have:=Array.getElem?_eq_some_iff.1 h
  obtain ⟨h1,h2⟩:=this
  simp at h2
 ·intro i o d ho hd hk
  exfalso
  simp [Array.getD_eq_getD_getElem?] at hk
  rcases h:(Array.replicate ops.size false)[i]? with _ | b <;> simp [h] at hk
  subst hk
  have:=Array.getElem?_eq_some_iff.1 h
  obtain ⟨h1,h2⟩:=this
  simp at h2
 ·exact Nat.le_trans List.countP_le_length (by simp)
def planOf (ops:Array Oper):List (List (Tmp × Option Nat)) :=
 (List.range ops.size).map fun i => match ops[i]? with
  | some o => (o.looksAt ops).map fun t => (t,match wr ops t with
    | some j => if depB ops i j=true then some j else none
    | none => none)
  | none => []
def PlanFacts (L:List (Value→World→Prop)) (a0 a:Act) (w:World):List (Tmp × Option Nat)→Prop
 | [] => True
 | (t,some j) :: r => L.getD j (fun _ _ => True) (a.tmps.getD t undef) w∧PlanFacts L a0 a w r
 | (t,none) :: r => a.tmps.getD t undef=a0.tmps.getD t undef∧PlanFacts L a0 a w r
def MonoOps (P:Program) (ops:Array Oper) (Q:Exit→Act→World→Prop) (L:List (Value→World→Prop)) (a0:Act) (w0:World):List Oper→List (List (Tmp × Option Nat))→List (Value→World→Prop)→Prop
 | o :: os,pl :: pls,φ :: φs => (∀ a w,Below w0.heap.size w0 w→PlanFacts L a0 a w pl →
   if Region.wanted o (yielded ops a.tmps)=true then o.wp P a w (fun a' w' => ∃ v,a' = a.put o.dst v∧Below w.heap.size w w' ∧ φ v w') Q else φ undef w)∧MonoOps P ops Q L a0 w0 os pls φs
 | [],_,_ => True
 | _,_,_ => False
def Stable (φ:Value→World→Prop):Prop:=∀ v w w',φ v w→Below w.heap.size w w' → φ v w'
theorem stable_eq (c:Value):Stable (fun v _ => v=c):=fun _ _ _ h _ => h
theorem stable_true:Stable (fun _ _ => True):=fun _ _ _ _ _ => trivial
def AllStable:List (Value→World→Prop)→Prop
 | [] => True
 | φ :: r => Stable φ∧AllStable r
theorem allStable_get {L:List (Value→World→Prop)} (h:AllStable L) (i:Nat):Stable (L.getD i (fun _ _ => True)):=by
 induction L generalizing i with
 | nil => exact stable_true
 | cons φ r ih =>
  cases i with
  | zero => exact h.1
  | succ i => exact ih h.2 i
theorem planFacts_of {Φ:Nat→Value→World→Prop} {L:List (Value→World→Prop)} (hΦ:Φ=fun i => L.getD i (fun _ _ => True)) {a0 a:Act} {w:World} {i:Nat} {o:Oper} :
  ∀ (l:List Tmp),(∀ t ∈ l,match wr ops t with
   | some j => if depB ops i j=true then Φ j (a.tmps.getD t undef) w else a.tmps.getD t undef=a0.tmps.getD t undef
   | none => a.tmps.getD t undef=a0.tmps.getD t undef) →
  PlanFacts L a0 a w (l.map fun t => (t,match wr ops t with
    | some j => if depB ops i j=true then some j else none
    | none => none))
 | [],_ => trivial
 | t :: l,h => by
  have h1:=h t (List.mem_cons_self ..)
  have h2:=planFacts_of hΦ (o:=o) l (fun t ht => h t (List.mem_cons_of_mem _ ht))
  simp only [List.map_cons]
  cases hw:wr ops t with
  | none => rw [hw] at h1;exact ⟨h1,h2⟩
  | some j =>
   rw [hw] at h1
   simp only [] at h1 ⊢
   split
   ·rename_i hd
    rw [if_pos hd,hΦ] at h1
    exact ⟨h1,h2⟩
   ·rename_i hd
    rw [if_neg hd] at h1
    exact ⟨h1,h2⟩
theorem monoOps_get {L:List (Value→World→Prop)} {a0:Act} {w0:World}:∀ {os:List Oper} {pls:List (List (Tmp × Option Nat))} {φs:List (Value→World→Prop)},MonoOps P ops Q L a0 w0 os pls φs →
  ∀ (i:Nat) o pl,os[i]? = some o→pls[i]? = some pl→∀ a w,Below w0.heap.size w0 w→PlanFacts L a0 a w pl →
   if Region.wanted o (yielded ops a.tmps)=true then o.wp P a w (fun a' w' => ∃ v,a' = a.put o.dst v∧Below w.heap.size w w' ∧ φs.getD i (fun _ _ => True) v w') Q else φs.getD i (fun _ _ => True) undef w
 | [],_,_,_,i,o,pl,ho,_ => by simp at ho
 | o :: os,[],_,h,_,_,_,_,_ => h.elim
 | o :: os,pl :: pls,[],h,_,_,_,_,_ => h.elim
 | o :: os,pl :: pls,φ :: φs,h,0,o',pl',ho,hp => by
  simp at ho hp;subst ho;subst hp
  exact h.1
 | o :: os,pl :: pls,φ :: φs,h,i+1,o',pl',ho,hp => monoOps_get h.2 i o' pl' (by simpa using ho) (by simpa using hp)
theorem wp_region_words {id:Nat} {a0:Act} {w0:World} (hm:P.follows .mixedOrders=true) (L:List (Value→World→Prop)) (plan:List (List (Tmp × Option Nat))) (hok:monoOk ops a0.tmps.size=true)
  (hplan:planOf ops=plan) (hst:AllStable L) (hop:MonoOps P ops Q L a0 w0 ops.toList plan L)
  (hend:∀ a w,Below w0.heap.size w0 w→(∀ i o d,ops[i]? = some o→o.dst=some d→L.getD i (fun _ _ => True) (a.tmps.getD d undef) w)→(∀ t,wr ops t=none→a.tmps.getD t undef=a0.tmps.getD t undef)→a.defers=a0.defers→a.tmps.size=a0.tmps.size→Q .normal a w) :
  (Code.region id ops true).wp P Q a0 w0:=by
 refine wp_region_mono hm (fun i => L.getD i (fun _ _ => True)) hok (fun i => allStable_get hst i) ?_ hend
 intro i o ho a w hb hg
 have hlt:i < ops.size:=(Array.getElem?_eq_some_iff.1 ho).1
 have hpl:plan[i]? = some ((o.looksAt ops).map fun t => (t,match wr ops t with
    | some j => if depB ops i j=true then some j else none
    | none => none)):=by
  rw [← hplan]
  unfold planOf
  rw [List.getElem?_map,List.getElem?_range hlt,Option.map_some,ho]
 exact monoOps_get hop i o _ (by simpa using ho) hpl a w hb (planFacts_of rfl (o:=o) _ hg)
def maskOf (ops:Array Oper) (n:Nat):List Bool:=(List.range n).map fun t => (wr ops t).isSome
def dstsOf (ops:Array Oper):List (Option Tmp):=ops.toList.map (·.dst)
def mergeT:List Bool→List Value→Nat→(Nat→Value)→List Value
 | true :: bs,_ :: vs,i,f => f i :: mergeT bs vs (i+1) f
 | false :: bs,v :: vs,i,f => v :: mergeT bs vs (i+1) f
 | _,vs,_,_ => vs
def AllWords (f:Nat→Value) (w:World):List (Option Tmp)→List (Value→World→Prop)→Prop
 | some d :: ds,φ :: φs => φ (f d) w∧AllWords f w ds φs
 | none :: ds,_ :: φs => AllWords f w ds φs
 | _,_ => True
theorem mergeT_eq (f:Nat→Value):∀ (bs:List Bool) (vs ts:List Value) (i:Nat),bs.length=vs.length→ts.length=vs.length →
  (∀ j,j < ts.length→bs.getD j false=true→ts.getD j undef=f (i+j))→(∀ j,j < ts.length→bs.getD j false=false→ts.getD j undef=vs.getD j undef)→mergeT bs vs i f=ts
 | [],[],[],_,_,_,_,_ => rfl
 | [],[],_ :: _,_,_,h,_,_ => by simp at h
 | _ :: _,[],_,_,h,_,_,_ => by simp at h
 | [],_ :: _,_,_,h,_,_,_ => by simp at h
 | _ :: _,_ :: _,[],_,_,h,_,_ => by simp at h
 | b :: bs,v :: vs,t :: ts,i,h1,h2,h3,h4 => by
  have ih:=mergeT_eq f bs vs ts (i+1) (by simpa using h1) (by simpa using h2)
   (fun j hj hb => by have:=h3 (j+1) (by simpa using hj) (by simpa using hb);simpa [Nat.add_assoc,Nat.add_comm 1 j] using this)
   (fun j hj hb => by have:=h4 (j+1) (by simpa using hj) (by simpa using hb);simpa using this)
  cases b
  ·have:=h4 0 (by simp) rfl
   simp at this
   simp [mergeT,ih,this]
  ·have:=h3 0 (by simp) rfl
   simp at this
   simp [mergeT,ih,this]
theorem allWords_of {f:Nat→Value} {w:World}:∀ {os:List Oper} {L:List (Value→World→Prop)},(∀ i o d,os[i]? = some o→o.dst=some d→L.getD i (fun _ _ => True) (f d) w)→AllWords f w (os.map (·.dst)) L
 | [],_,_ => by simp [AllWords]
 | o :: os,[],_ => by cases h:o.dst <;> simp [AllWords,h]
 | o :: os,φ :: φs,h => by
  have ih:=allWords_of (os:=os) (L:=φs) (fun i o' d ho hd => h (i+1) o' d (by simpa using ho) hd)
  cases hd:o.dst with
  | none => simpa [AllWords,hd] using ih
  | some d => simpa [AllWords,hd] using ⟨h 0 o d rfl hd,ih⟩
theorem wp_region_frame {id:Nat} {a0:Act} {w0:World} (hm:P.follows .mixedOrders=true) (L:List (Value→World→Prop)) (plan:List (List (Tmp × Option Nat))) (D:List (Option Tmp)) (M:List Bool)
  (hok:monoOk ops a0.tmps.size=true) (hplan:planOf ops=plan) (hD:dstsOf ops=D) (hM:maskOf ops a0.tmps.size=M) (hst:AllStable L) (hop:MonoOps P ops Q L a0 w0 ops.toList plan L)
  (hend:∀ f w,Below w0.heap.size w0 w→AllWords f w D L→Q .normal { tmps:=(mergeT M a0.tmps.toList 0 f).toArray,defers:=a0.defers } w) :
  (Code.region id ops true).wp P Q a0 w0:=by
 refine wp_region_words hm L plan hok hplan hst hop ?_
 intro a w hb hv hr hd hs
 have h:=hend (fun t => a.tmps.getD t undef) w hb (by rw [← hD];exact allWords_of (fun i o d ho hdd => hv i o d (by simpa using ho) hdd))
 have e:mergeT M a0.tmps.toList 0 (fun t => a.tmps.getD t undef)=a.tmps.toList:=by
  refine mergeT_eq _ _ _ _ _ (by rw [← hM];simp [maskOf]) (by simpa using hs) ?_ ?_
  ·intro j hj _
   simp [Array.getD_eq_getD_getElem?,List.getD_eq_getElem?_getD]
  ·intro j hj hb
   rw [← hM] at hb
   have hj':j < a0.tmps.size:=by rw [← hs];simpa using hj
   have hw:wr ops j=none:=by
    unfold maskOf at hb
    simp [List.getD_eq_getElem?_getD,List.getElem?_map,List.getElem?_range hj'] at hb
    exact hb
   have:=hr j hw
   simpa [Array.getD_eq_getD_getElem?,List.getD_eq_getElem?_getD] using this
 rw [e,← hd] at h
 exact h
theorem wp_region_last {id:Nat} {a0:Act} {w0:World} (hm:P.follows .mixedOrders=true) (L:List (Value→World→Prop)) (plan:List (List (Tmp × Option Nat))) (D:List (Option Tmp)) (M:List Bool) (last:Nat) (ol:Oper) (hol:ops[last]? = some ol) (hgd:ol.guard=none)
  (hn:ops.size=last+1) (hcov:coverB ops last=true)
  (hok:monoOk ops a0.tmps.size=true) (hplan:planOf ops=plan) (hD:dstsOf ops=D) (hM:maskOf ops a0.tmps.size=M) (hst:AllStable L) (hop:MonoOps P ops Q L a0 w0 (ops.toList.take last) plan L)
  (hend:∀ f w,Below w0.heap.size w0 w→AllWords f w (D.take last) L→ol.wp P { tmps:=(mergeT M a0.tmps.toList 0 f).toArray,defers:=a0.defers } w (Q .normal) Q) :
  (Code.region id ops true).wp P Q a0 w0:=by
 refine wp_region_any hm (mono_any_last (w0:=w0) (fun i => L.getD i (fun _ _ => True)) hok last hn hcov (fun i => allStable_get hst i) ?_ ?_ ops.size _ a0 _ ⟨by simp,(Below.refl _ _).drew,?_,?_,fun _ _ => rfl,rfl,rfl⟩ ?_ ?_)
 ·intro i o hil ho a w hb hg
  have hlt:i < ops.size:=(Array.getElem?_eq_some_iff.1 ho).1
  have hpl:plan[i]? = some ((o.looksAt ops).map fun t => (t,match wr ops t with
     | some j => if depB ops i j=true then some j else none
     | none => none)):=by
   rw [← hplan]
   unfold planOf
   rw [List.getElem?_map,List.getElem?_range hlt,Option.map_some,ho]
  exact monoOps_get hop i o _ (by rw [List.getElem?_take,if_pos hil];simpa using ho) hpl a w hb (planFacts_of rfl (o:=o) _ hg)
 ·intro a w hb hv hr hd hs
  have h:=hend (fun t => a.tmps.getD t undef) w hb (by
   rw [← hD,dstsOf,← List.map_take]
   exact allWords_of (fun i o d ho hdd => by
    rw [List.getElem?_take] at ho
    split at ho
    ·rename_i hil
     exact hv i o d hil (by simpa using ho) hdd
    ·cases ho))
  have e:mergeT M a0.tmps.toList 0 (fun t => a.tmps.getD t undef)=a.tmps.toList:=by
   refine mergeT_eq _ _ _ _ _ (by rw [← hM];simp [maskOf]) (by simpa using hs) ?_ ?_
   ·intro j hj _
    simp [Array.getD_eq_getD_getElem?,List.getD_eq_getElem?_getD]
   ·intro j hj hb
    rw [← hM] at hb
    have hj':j < a0.tmps.size:=by rw [← hs];simpa using hj
    have hw:wr ops j=none:=by
     unfold maskOf at hb
     simp [List.getD_eq_getElem?_getD,List.getElem?_map,List.getElem?_range hj'] at hb
     exact hb
    have:=hr j (fun k hk => by rw [hw] at hk;cases hk)
    simpa [Array.getD_eq_getD_getElem?,List.getD_eq_getElem?_getD] using this
  rw [e,← hd] at h
  unfold wpOp
  rw [hol]
  simp only []
  rw [if_pos (by simp [Region.wanted,hgd])]
  exact .inl h
 ·intro k hk
  simp [Array.getD_eq_getD_getElem?] at hk
  rcases h:(Array.replicate ops.size false)[k]? with _ | b <;> simp [h] at hk
  subst hk
  obtain ⟨h1,h2⟩:=Array.getElem?_eq_some_iff.1 h
  simp at h2
 ·intro i o d ho hd hk
  exfalso
  simp [Array.getD_eq_getD_getElem?] at hk
  rcases h:(Array.replicate ops.size false)[i]? with _ | b <;> simp [h] at hk
  subst hk
  obtain ⟨h1,h2⟩:=Array.getElem?_eq_some_iff.1 h
  simp at h2
 ·simp [Array.getD_eq_getD_getElem?,hn]
 ·exact Nat.le_trans List.countP_le_length (by simp)
end
end Go.Proofs.YtamafdcnbcoegabGreat
namespace Go.Proofs.YtamafdcnbcoegabGreat
open Go.RowKit
def le4S (n:Int):ByteArray:=⟨#[UInt8.ofNat (n.toNat % 256),UInt8.ofNat (n.toNat / 256 % 256),UInt8.ofNat (n.toNat / 65536 % 256),UInt8.ofNat (n.toNat / 16777216 % 256)]⟩
theorem le4S_data (n:Int):(le4S n).data.toList=Wire.le4 n:=rfl
theorem le4S_size (x:Int):(le4S x).size=4:=rfl
end Go.Proofs.YtamafdcnbcoegabGreat
namespace Go.Proofs.YtamafdcnbcoegabGreat
open Go.RowKit
theorem toList_data (S:ByteArray):S.toList=S.data.toList:=ByteArray.toList_eq S
end Go.Proofs.YtamafdcnbcoegabGreat
namespace Go.Proofs.YtamafdcnbcoegabGreat
open Go.RowKit
theorem ownsRow_keep {w w':World} {B:Nat} {e:TypeId} {v:Value} {n:Nat} {xs:List Value} (h:w.ownsRow B e 1 v n xs) (hk:∀ g,v.ownBlock=some g→w'.heap[g]? = w.heap[g]?):w'.ownsRow B e 1 v n xs:=by
 obtain ⟨h1,h2⟩:=h
 refine ⟨h1,?_⟩
 rcases h2 with h2 | ⟨g,cap,cur,rfl,hb,hh,r⟩
 ·exact .inl h2
 ·exact .inr ⟨g,cap,cur,rfl,hb,by rw [hk g rfl];exact hh,r⟩
structure App (w w':World) (v v':Value):Prop where
 grown:w.grownBy w' v.ownBlock
 where_:v'.ownBlock=v.ownBlock ∨ (w.grownBy w' none∧∃ g,v'.ownBlock=some g∧w.heap.size ≤ g)
theorem run_app_one {P:Program} (w:World) (t ty e:TypeId) (i:TypeInfo) (z:Value) (bytes:Nat) (ht:P.underlying t=some (.slice e)) (hi:P.info? e=some i) (hz:i.zero=some z) (hsize:i.size=1) (hby:i.bytes=bytes) (hzs:z.cells.size=1)
  (v:Value) (xs:List Value) (hown:w.ownsRow 0 e 1 v xs.length xs) (ad:Addr) (u:Value) (hu:w.cell? ad=some u) (h1:u.oneCell' = true) (hb:(xs.length+1) * bytes ≤ 140737488355328) (hl:xs.length+1 ≤ 140737488355328) :
  ∃ v' w',(Builtin.append_ #[t,t] ty #[v,.slice (some ad) 1 1]).run P w = .ok v' w' ∧ w'.ownsRow 0 e 1 v' (xs ++ [u]).length (xs ++ [u])∧w'.ownsRow 0 e 1 v xs.length xs∧App w w' v v':=by
 have hnews:∀ j x,[u][j]? = some x→w.cell? (ad.add j)=some x:=by
  intro j x hj
  match j,hj with
  | 0,hj => simp at hj;subst hj;simpa [Addr.add] using hu
 have h63:xs.length+1 ≤ maxLen:=by unfold maxLen;omega
 have hown0:=hown
 obtain ⟨ho1,ho2⟩:=hown
 rcases ho2 with ⟨rfl,h0⟩ | ⟨g,cap,cur,rfl,hbg,hg,hnc,hcm,hcs,htake⟩
 ·have hx:xs = []:=List.eq_nil_of_length_eq_zero h0
  subst hx
  have hr:=run_append_nil (P:=P) w t ty e i z ht hi hz ad 1 1 [u] (by simp [hsize]) hnews (by omega) (by omega) (by rw [hby];simp at hb;omega)
  have hge:=grownCap_ge w 1 0 e
  refine ⟨_,_,hr,⟨by simp,.inr ⟨w.heap.size,grownCap w 1 0 e,_,rfl,by omega,heap_alloc_new w.drew _,by simpa using hge,grownCap_le_maxLen w 1 0 e (by unfold maxLen;omega),?_,?_⟩⟩,World.ownsRow_nil _ _ _ _,⟨⟨rfl,rfl,rfl,by simp,fun k hk _ => Below.heap_alloc w.drew _ k hk⟩,.inr ⟨⟨rfl,rfl,rfl,by simp,fun k hk _ => Below.heap_alloc w.drew _ k hk⟩,w.heap.size,rfl,by omega⟩⟩⟩
  ·simp [size_zeroCells,hzs];omega
  ·simp
 ·by_cases hroom:xs.length+1 ≤ cap
  ·obtain ⟨w',hr,hown',hgr⟩:=run_append_fits (P:=P) w 0 t ty e i 1 ht hi hsize g xs.length cap xs hown0 ad 1 1 [u] (by simp) hnews (by intro x hx;simp at hx;subst hx;exact h1) hroom
   refine ⟨_,w',hr,by simpa using hown',?_,⟨hgr,.inl rfl⟩⟩
   obtain ⟨_,hq⟩:=hown'
   rcases hq with ⟨hq,_⟩ | ⟨g',cap',cur',e1,hb',hg',hn',hc',hs',ht'⟩
   ·cases hq
   ·injection e1 with e1 _ e3
    injection e1 with e1
    injection e1 with e1
    subst e1 e3
    refine ⟨ho1,.inr ⟨g,cap,cur',rfl,by omega,hg',hnc,hc',hs',?_⟩⟩
    have:=congrArg (List.take xs.length) ht'
    rw [List.take_take] at this
    simpa [Nat.min_eq_left] using this
  ·have holds:∀ j x,xs[j]? = some x→w.cell? ((⟨g,0,none⟩:Addr).add j)=some x:=World.ownsRow.cells hown0 rfl
   have hr:=run_append_grow (P:=P) w t ty e i z ht hi hz ⟨g,0,none⟩ xs.length cap xs (by simp [hsize]) holds ad 1 1 [u] (by simp [hsize]) hnews (by omega) (by omega) (by rw [hby];exact growslice_fits (by omega) (by omega))
   have hge:=grownCap_ge w (xs.length+1) cap e
   refine ⟨_,_,hr,⟨by simp,.inr ⟨w.heap.size,grownCap w (xs.length+1) cap e,_,by simp,by omega,heap_alloc_new w.drew _,by simpa using hge,grownCap_le_maxLen w (xs.length+1) cap e h63,?_,?_⟩⟩,?_,⟨⟨rfl,rfl,rfl,by simp,fun k hk _ => Below.heap_alloc w.drew _ k hk⟩,.inr ⟨⟨rfl,rfl,rfl,by simp,fun k hk _ => Below.heap_alloc w.drew _ k hk⟩,w.heap.size,rfl,by omega⟩⟩⟩
   ·simp [size_zeroCells,hzs];omega
   ·simp only [Array.toList_append,List.append_assoc]
    rw [← List.append_assoc,Nat.mul_one]
    exact List.take_left
   ·have hlt:g < w.heap.size:=lt_of_block hg
    exact ownsRow_keep hown0 (fun g' hg' => by cases hg';exact Below.heap_alloc w.drew _ g hlt)
end Go.Proofs.YtamafdcnbcoegabGreat
namespace Go.Proofs.YtamafdcnbcoegabGreat
open Go.RowKit
theorem blk_cell {w:World} {p i:Nat} {c:Array Value} {e:TypeId} {fr:Nat × Nat} (h:w.heap[p]? = some (.cells c e fr)):w.cell? ⟨p,i,none⟩=c[i]?:=by simp [World.cell?,h]
theorem blk_free {w:World} {p i:Nat} {c:Array Value} {e:TypeId} (h:w.heap[p]? = some (.cells c e (0,0))):w.frozen? ⟨p,i,none⟩=false:=by simp [World.frozen?,h]
end Go.Proofs.YtamafdcnbcoegabGreat
namespace Go.Proofs.YtamafdcnbcoegabGreat
open Go.RowKit
def ptrTo (p:Nat):Value:=.pointer (some ⟨p,0,none⟩)
end Go.Proofs.YtamafdcnbcoegabGreat
namespace Go.Proofs.YtamafdcnbcoegabGreat
open Go.RowKit
theorem wp_app1 {o:Oper} {a:Act} {K:Act→World→Prop} {Q:Exit→Act→World→Prop} {w:World} (s x:Operand) (t:TypeId) (ho:o.op = .call { callee:=.builtin .append,args:=#[s,x],argTypes:=#[t,t] })
  (e:TypeId) (z:Value) (bytes:Nat) (ht:Tryz.prog.underlying t=some (.slice e)) (hinfo:(Tryz.prog.info? e).map (fun i => (i.zero,i.size,i.bytes))=some (some z,1,bytes)) (hzs:z.cells.size=1)
  (v:Value) (xs:List Value) (hown:w.ownsRow 0 e 1 v xs.length xs) (hs:a.eval s=v) (ad:Addr) (u:Value) (hx:a.eval x = .slice (some ad) 1 1) (hu:w.cell? ad=some u) (h1:u.oneCell' = true)
  (hb:(xs.length+1) * bytes ≤ 140737488355328) (hl:xs.length+1 ≤ 140737488355328)
  (h:∀ v' w',w'.ownsRow 0 e 1 v' (xs ++ [u]).length (xs ++ [u])→w'.ownsRow 0 e 1 v xs.length xs→App w w' v v' → K (a.put o.dst v') w'):o.wp Tryz.prog a w K Q:=by
 obtain ⟨i0,hi,hz0,hz1,hz2⟩:=info_parts hinfo
 obtain ⟨v',w',hr,h2,h3,h4⟩:=run_app_one (P:=Tryz.prog) w t o.type e i0 z bytes ht hi hz0 hz1 hz2 hzs v xs hown ad u hu h1 hb hl
 unfold Oper.wp execOp
 simp only [ho,resolve,invoke,builtin,Sem.run_bind,Sem.run_pure,Result.andThen_ok,List.map_toArray,List.map_cons,List.map_nil,hs,hx,hr]
 exact h v' w' h2 h3 h4
theorem wpList_app1 {ops:Array Oper} {rest:List Oper} {o:Oper} {a:Act} {Q:Exit→Act→World→Prop} {w:World} (hgd:o.guard=none) (s x:Operand) (t:TypeId) (ho:o.op = .call { callee:=.builtin .append,args:=#[s,x],argTypes:=#[t,t] })
  (e:TypeId) (z:Value) (bytes:Nat) (ht:Tryz.prog.underlying t=some (.slice e)) (hinfo:(Tryz.prog.info? e).map (fun i => (i.zero,i.size,i.bytes))=some (some z,1,bytes)) (hzs:z.cells.size=1)
  (v:Value) (xs:List Value) (hown:w.ownsRow 0 e 1 v xs.length xs) (hs:a.eval s=v) (ad:Addr) (u:Value) (hx:a.eval x = .slice (some ad) 1 1) (hu:w.cell? ad=some u) (h1:u.oneCell' = true)
  (hb:(xs.length+1) * bytes ≤ 140737488355328) (hl:xs.length+1 ≤ 140737488355328)
  (h:∀ v' w',w'.ownsRow 0 e 1 v' (xs ++ [u]).length (xs ++ [u])→w'.ownsRow 0 e 1 v xs.length xs→App w w' v v' → wpList Tryz.prog ops Q rest (a.put o.dst v') w'):wpList Tryz.prog ops Q (o :: rest) a w :=
 wpList_plain hgd fun _ hK => wp_app1 s x t ho e z bytes ht hinfo hzs v xs hown hs ad u hx hu h1 hb hl fun v' w' h2 h3 h4 => hK _ _ (h v' w' h2 h3 h4)
theorem own_ne {w:World} {e e':TypeId} {v:Value} {n p:Nat} {xs:List Value} {c:Array Value} {fr:Nat × Nat} (h:w.ownsRow 0 e 1 v n xs) (hb:w.heap[p]? = some (.cells c e' fr)) (hne:e ≠ e'):v.ownBlock ≠ some p:=by
 intro hp
 obtain ⟨_,h2⟩:=h
 rcases h2 with ⟨rfl,_⟩ | ⟨g,cap,cur,rfl,_,hh,_⟩
 ·cases hp
 ·cases hp
  rw [hh] at hb
  injection hb with hb
  injection hb with _ hb _
  exact hne hb
theorem own_shape {w:World} {e:TypeId} {v:Value} {n:Nat} {xs:List Value} (h:w.ownsRow 0 e 1 v n xs) (hn:0 < n):∃ g cap,v = .slice (some ⟨g,0,none⟩) n cap:=by
 obtain ⟨_,h2⟩:=h
 rcases h2 with ⟨_,h2⟩ | ⟨g,cap,cur,e,_⟩
 ·omega
 ·exact ⟨g,cap,e⟩
theorem blk_set {w:World} {q j:Nat} {c:Array Value} {e:TypeId} {fr:Nat × Nat} {v:Value} (h:w.heap[q]? = some (.cells c e fr)):(w.setCell ⟨q,j,none⟩ v).heap[q]? = some (.cells (c.setIfInBounds j v) e fr):=by
 simp [World.setCell,Array.getElem?_modify,h]
theorem blk_set_ne {w:World} {q j k:Nat} {v:Value} (h:k ≠ q):(w.setCell ⟨q,j,none⟩ v).heap[k]? = w.heap[k]?:=Below.heap_setCell w ⟨q,j,none⟩ v k h
def Loc (w:World) (v v2:Value):Prop:=v2.ownBlock=none ∨ v2.ownBlock=v.ownBlock ∨ ∃ g,v2.ownBlock=some g∧w.heap.size ≤ g
theorem loc_app {w Y W:World} {v v1:Value} (hs:w.heap.size ≤ Y.heap.size) (ha:App Y W v v1):Loc w v v1:=by
 rcases ha.where_ with h | ⟨_,g,h,hg⟩
 ·exact .inr (.inl h)
 ·exact .inr (.inr ⟨g,h,Nat.le_trans hs hg⟩)
end Go.Proofs.YtamafdcnbcoegabGreat
namespace Go.Proofs.YtamafdcnbcoegabGreat
open Go.RowKit
theorem own_ty {w:World} {e e':TypeId} {v v':Value} {n n' b:Nat} {xs xs':List Value} (h:w.ownsRow 0 e 1 v n xs) (h':w.ownsRow 0 e' 1 v' n' xs') (hne:e ≠ e') (hb:v.ownBlock=some b):v'.ownBlock ≠ some b:=by
 obtain ⟨_,h2⟩:=h
 rcases h2 with ⟨rfl,_⟩ | ⟨g,cap,cur,rfl,_,hh,_⟩
 ·cases hb
 ·cases hb
  exact own_ne h' hh (fun e => hne e.symm)
section
variable {w X:World} {p q:Nat} {cp cq:Array Value} {tv bv' fv tv2 bv2 fv2:Value} {ts fs ts2 fs2:List Value} {l l2:List UInt8}
end
end Go.Proofs.YtamafdcnbcoegabGreat
namespace Go.Proofs.YtamafdcnbcoegabGreat
open Go.RowKit
structure Far (E:Nat→Prop) (w x:World):Prop where
 os:x.os=w.os
 tape:x.tape=w.tape
 output:x.output=w.output
 size:w.heap.size ≤ x.heap.size
 rest:∀ k,k < w.heap.size→¬ E k→x.heap[k]? = w.heap[k]?
theorem Far.refl (E:Nat→Prop) (w:World):Far E w w:=⟨rfl,rfl,rfl,Nat.le_refl _,fun _ _ _ => rfl⟩
theorem Far.trans {E E':Nat→Prop} {w x y:World} (h:Far E w x) (h':Far E' x y) (hE:∀ k,k < w.heap.size→E' k→E k):Far E w y :=
 ⟨h'.os.trans h.os,h'.tape.trans h.tape,h'.output.trans h.output,Nat.le_trans h.size h'.size,fun k hk he => (h'.rest k (Nat.lt_of_lt_of_le hk h.size) (fun e => he (hE k hk e))).trans (h.rest k hk he)⟩
theorem Far.mono {E E':Nat→Prop} {w x:World} (h:Far E w x) (hE:∀ k,k < w.heap.size→E k→E' k):Far E' w x :=
 ⟨h.os,h.tape,h.output,h.size,fun k hk he => h.rest k hk (fun e => he (hE k hk e))⟩
theorem Far.below {E:Nat→Prop} {w x:World} (h:Far E w x) {B:Nat} (hB:B ≤ w.heap.size) (hE:∀ k,k < B→¬ E k):Below B w x :=
 ⟨h.os,h.tape,h.output,h.size,fun k hk => h.rest k (Nat.lt_of_lt_of_le hk hB) (hE k hk)⟩
theorem far_below {E:Nat→Prop} {w x:World} (h:Below w.heap.size w x):Far E w x:=⟨h.os,h.tape,h.output,h.size,fun k hk _ => h.block k hk⟩
theorem far_grown {w x:World} {row:Option Nat} (h:w.grownBy x row):Far (fun k => row=some k) w x:=⟨h.os,h.tape,h.output,h.size,fun k hk he => h.block k hk (fun e => he e.symm)⟩
theorem far_set (w:World) (q j:Nat) (v:Value):Far (fun k => k=q) w (w.setCell ⟨q,j,none⟩ v):=⟨rfl,rfl,rfl,by rw [World.size_setCell];exact Nat.le_refl _,fun k _ he => blk_set_ne he⟩
theorem Far.blk {E:Nat→Prop} {w x:World} (h:Far E w x) {k:Nat} {o:Obj} (hk:w.heap[k]? = some o) (hE:¬ E k):x.heap[k]? = some o:=(h.rest k (lt_of_block hk) hE).trans hk
end Go.Proofs.YtamafdcnbcoegabGreat
namespace Go.Proofs.YtamafdcnbcoegabGreat
open Go.RowKit
def RowO (w:World) (e:TypeId) (size:Nat) (v:Value) (n:Nat) (xs:List Value):Prop :=
 xs.length=n * size∧((v = .slice none 0 0∧n=0) ∨
  ∃ g o cap cur,v = .slice (some ⟨g,o,none⟩) n cap∧w.heap[g]? = some (.cells cur e (0,0))∧n ≤ cap∧cap ≤ maxLen∧o+cap * size ≤ cur.size∧(cur.toList.drop o).take (n * size)=xs)
theorem rowO_nil (w:World) (e:TypeId) (size:Nat):RowO w e size (.slice none 0 0) 0 []:=⟨by simp,.inl ⟨rfl,rfl⟩⟩
theorem RowO.of_own {w:World} {e:TypeId} {size n:Nat} {v:Value} {xs:List Value} (h:w.ownsRow 0 e size v n xs):RowO w e size v n xs:=by
 obtain ⟨h1,h2⟩:=h
 refine ⟨h1,?_⟩
 rcases h2 with h2 | ⟨g,cap,cur,rfl,_,hh,hn,hc,hs,ht⟩
 ·exact .inl h2
 ·exact .inr ⟨g,0,cap,cur,rfl,hh,hn,hc,by omega,by simpa using ht⟩
theorem RowO.keep {w w':World} {e:TypeId} {size n:Nat} {v:Value} {xs:List Value} (h:RowO w e size v n xs) (hk:∀ g,v.ownBlock=some g→w'.heap[g]? = w.heap[g]?):RowO w' e size v n xs:=by
 obtain ⟨h1,h2⟩:=h
 refine ⟨h1,?_⟩
 rcases h2 with h2 | ⟨g,o,cap,cur,rfl,hh,r⟩
 ·exact .inl h2
 ·exact .inr ⟨g,o,cap,cur,rfl,by rw [hk g rfl];exact hh,r⟩
theorem RowO.lt {w:World} {e:TypeId} {size n:Nat} {v:Value} {xs:List Value} (h:RowO w e size v n xs):∀ g,v.ownBlock=some g→g < w.heap.size:=by
 intro g hg
 obtain ⟨_,h2⟩:=h
 rcases h2 with ⟨rfl,_⟩ | ⟨g',o,cap,cur,rfl,hh,_⟩
 ·cases hg
 ·cases hg
  exact lt_of_block hh
theorem RowO.ne {w:World} {e e':TypeId} {size n p:Nat} {v:Value} {xs:List Value} {c:Array Value} {fr:Nat × Nat} (h:RowO w e size v n xs) (hb:w.heap[p]? = some (.cells c e' fr)) (hne:e ≠ e'):v.ownBlock ≠ some p:=by
 intro hp
 obtain ⟨_,h2⟩:=h
 rcases h2 with ⟨rfl,_⟩ | ⟨g,o,cap,cur,rfl,hh,_⟩
 ·cases hp
 ·cases hp
  rw [hh] at hb
  injection hb with hb
  injection hb with _ hb _
  exact hne hb
theorem RowO.ty {w:World} {e e':TypeId} {size size' n n' b:Nat} {v v':Value} {xs xs':List Value} (h:RowO w e size v n xs) (h':RowO w e' size' v' n' xs') (hne:e ≠ e') (hb:v.ownBlock=some b):v'.ownBlock ≠ some b:=by
 obtain ⟨_,h2⟩:=h
 rcases h2 with ⟨rfl,_⟩ | ⟨g,o,cap,cur,rfl,hh,_⟩
 ·cases hb
 ·cases hb
  exact h'.ne hh (fun e => hne e.symm)
theorem RowO.far {E:Nat→Prop} {w x:World} (h:Far E w x) {e:TypeId} {size n:Nat} {v:Value} {xs:List Value} (hv:RowO w e size v n xs) (hE:∀ g,v.ownBlock=some g→¬ E g):RowO x e size v n xs :=
 hv.keep (fun g hg => h.rest g (hv.lt g hg) (hE g hg))
theorem RowO.shape {w:World} {e:TypeId} {size n:Nat} {v:Value} {xs:List Value} (h:RowO w e size v n xs):∃ ad cap,v = .slice ad n cap∧n ≤ cap∧cap ≤ maxLen ∧
  (0 < n→∃ g o,ad=some ⟨g,o,none⟩∧∀ i,i < n * size→w.cell? ⟨g,o+i,none⟩=xs[i]?):=by
 obtain ⟨h1,h2⟩:=h
 rcases h2 with ⟨rfl,rfl⟩ | ⟨g,o,cap,cur,rfl,hh,hn,hc,hs,ht⟩
 ·exact ⟨none,0,rfl,by omega,by unfold maxLen;omega,fun h => by omega⟩
 ·refine ⟨_,cap,rfl,hn,hc,fun _ => ⟨g,o,rfl,fun i hi => ?_⟩⟩
  rw [blk_cell hh,← ht,List.getElem?_take,if_pos hi,List.getElem?_drop]
  simp
theorem run_append_room_off {P:Program} (w:World) (t ty e:TypeId) (i:TypeInfo) (ht:P.underlying t=some (.slice e)) (hi:P.info? e=some i)
  (g o sLen sCap:Nat) (cur:Array Value) (hg:w.heap[g]? = some (.cells cur e (0,0)))
  (a:Addr) (m c:Nat) (news:List Value) (hl:news.length=m * i.size) (hnews:∀ j u,news[j]? = some u→w.cell? (a.add j)=some u) (h1:∀ u ∈ news,u.oneCell' = true)
  (hroom:sLen+m ≤ sCap) (hfit:o+sLen * i.size+news.length ≤ cur.size) :
  (Builtin.append_ #[t,t] ty #[.slice (some ⟨g,o,none⟩) sLen sCap,.slice (some a) m c]).run P w =
   .ok (.slice (some ⟨g,o,none⟩) (sLen+m) sCap) (w.setRow g (cur.toList.take (o+sLen * i.size) ++ news ++ cur.toList.drop (o+sLen * i.size+news.length)).toArray):=by
 have hf:=run_firstCells_some (P:=P) w i.size m a m c news hl hnews
 have hst:=run_storeCells_at P g (o+sLen * i.size) e news 0 cur w hg (by simpa using hfit) h1
 simp only [Nat.add_zero] at hst
 simp [Builtin.append_,run_underlying ht,sizeOf,typeInfo,hi,Builtin.lenOf,hroom,hf,Addr.add_lit,hst]
theorem run_append_o {P:Program} (w:World) (t ty e:TypeId) (i:TypeInfo) (z:Value) (size bytes:Nat) (ht:P.underlying t=some (.slice e)) (hi:P.info? e=some i) (hz:i.zero=some z) (hsize:i.size=size) (hby:i.bytes=bytes)
  (hzs:z.cells.size=size) (v:Value) (n:Nat) (xs:List Value) (hown:RowO w e size v n xs) (ad:Addr) (m c:Nat) (news:List Value) (hl:news.length=m * size) (hnews:∀ j u,news[j]? = some u→w.cell? (ad.add j)=some u)
  (h1:∀ u ∈ news,u.oneCell' = true) (hm:0 < m) (hb:(n+m) * bytes ≤ 140737488355328) (h63:n+m ≤ 140737488355328) :
  ∃ v' w',(Builtin.append_ #[t,t] ty #[v,.slice (some ad) m c]).run P w = .ok v' w' ∧ RowO w' e size v' (n+m) (xs ++ news)∧App w w' v v':=by
 subst hsize hby
 have hmx:n+m ≤ maxLen:=by unfold maxLen;omega
 have hlen:(xs ++ news).length=(n+m) * i.size:=by rw [List.length_append,hown.1,hl,Nat.add_mul]
 have grown:∀ (old:Nat) (row:Option Nat),RowO (w.drew.alloc (.cells (xs.toArray ++ news.toArray ++ Builtin.zeroCells z.cells (grownCap w (n+m) old e - (n+m))) e)) e i.size
    (.slice (some ⟨w.heap.size,0,none⟩) (n+m) (grownCap w (n+m) old e)) (n+m) (xs ++ news) ∧
   w.grownBy (w.drew.alloc (.cells (xs.toArray ++ news.toArray ++ Builtin.zeroCells z.cells (grownCap w (n+m) old e - (n+m))) e)) row:=by
  intro old row
  have hge:=grownCap_ge w (n+m) old e
  have hcm:grownCap w (n+m) old e ≤ maxLen:=grownCap_le_maxLen w (n+m) old e hmx
  refine ⟨⟨hlen,.inr ⟨w.heap.size,0,_,_,rfl,heap_alloc_new w.drew _,hge,hcm,?_,?_⟩⟩,⟨rfl,rfl,rfl,by simp,fun k hk _ => Below.heap_alloc w.drew _ k hk⟩⟩
  ·simp only [Array.size_append,List.size_toArray,size_zeroCells,hzs,hown.1,hl,← Nat.add_mul,Nat.zero_add]
   exact Nat.mul_le_mul_right _ (by omega)
  ·simp only [Array.toList_append,List.append_assoc,List.drop_zero]
   rw [← List.append_assoc,← hlen]
   exact List.take_left
 rcases hown.2 with ⟨rfl,rfl⟩ | ⟨g,o,cap,cur,rfl,hg,hnc,hcm,hcs,htake⟩
 ·have hx:xs = []:=List.eq_nil_of_length_eq_zero (by simpa using hown.1)
  subst hx
  have hr:=run_append_nil (P:=P) w t ty e i z ht hi hz ad m c news hl hnews (by omega) (by omega) (by simp only [Nat.zero_add] at hb;omega)
  have hgr:=grown 0 none
  simp only [Nat.zero_add,List.nil_append,Array.empty_append] at hgr ⊢
  exact ⟨_,_,hr,hgr.1,⟨hgr.2,.inr ⟨hgr.2,w.heap.size,rfl,Nat.le_refl _⟩⟩⟩
 ·by_cases hroom:n+m ≤ cap
  ·have hmul:(n+m) * i.size ≤ cap * i.size:=Nat.mul_le_mul_right _ hroom
   rw [Nat.add_mul] at hmul
   have hfit:o+n * i.size+news.length ≤ cur.size:=by rw [hl];omega
   have hr:=run_append_room_off (P:=P) w t ty e i ht hi g o n cap cur hg ad m c news hl hnews h1 hroom hfit
   refine ⟨_,_,hr,⟨hlen,.inr ⟨g,o,cap,_,rfl,setRow_heap w g cur _ e _ hg,hroom,hcm,?_,?_⟩⟩,⟨⟨rfl,rfl,rfl,by simp,fun k _ hk => setRow_other w g k _ (fun e => hk (by simp [Value.ownBlock,e]))⟩,.inl rfl⟩⟩
   ·simp only [List.size_toArray,List.length_append,List.length_take,List.length_drop,Array.length_toList]
    omega
   ·have hz0:(cur.toList.take (o+n * i.size) ++ news ++ cur.toList.drop (o+n * i.size+news.length)).drop o=xs ++ (news ++ cur.toList.drop (o+n * i.size+news.length)):=by
     rw [List.append_assoc,List.drop_append_of_le_length (by simp;omega),List.drop_take]
     congr 1
     rw [← htake]
     congr 1
     omega
    simp only
    rw [hz0,← List.append_assoc,← hlen]
    exact List.take_left
  ·have hgo:grownCap w (n+m) cap e=grownCap w (n+m) cap e:=rfl
   have holds:∀ j u,xs[j]? = some u→w.cell? ((⟨g,o,none⟩:Addr).add j)=some u:=by
    intro j u hj
    have hjl:j < n * i.size:=by
     have:=(List.getElem?_eq_some_iff.1 hj).1
     rw [hown.1] at this;exact this
    obtain ⟨ad',cap',e1,_,_,hc⟩:=hown.shape
    have hn0:0 < n:=by
     rcases Nat.eq_zero_or_pos n with h | h
     ·subst h;simp at hjl
     ·exact h
    obtain ⟨g',o',e2,hc⟩:=hc hn0
    injection e1 with e1
    rw [e2] at e1
    injection e1 with e1
    injection e1 with e1 e3
    subst e1 e3
    have:=hc j hjl
    rw [hj] at this
    unfold Addr.add
    split
    ·rename_i h0;subst h0;simpa using this
    ·exact this
   have hr:=run_append_grow (P:=P) w t ty e i z ht hi hz ⟨g,o,none⟩ n cap xs hown.1 holds ad m c news hl hnews (by omega) (by unfold maxLen at hmx;omega) (growslice_fits (by omega) hb)
   have hgr:=grown cap (Value.ownBlock (.slice (some ⟨g,o,none⟩) n cap))
   have hgr2:=grown cap none
   exact ⟨_,_,hr,hgr.1,⟨hgr.2,.inr ⟨hgr2.2,w.heap.size,rfl,Nat.le_refl _⟩⟩⟩
end Go.Proofs.YtamafdcnbcoegabGreat
namespace Go.Proofs.YtamafdcnbcoegabGreat
open Go.RowKit
def lay (L:List UInt8) (off:Nat) (l:List UInt8):List UInt8:=L.take off ++ (l ++ L.drop (off+l.length))
theorem length_lay {L l:List UInt8} {off:Nat} (h:off+l.length ≤ L.length):(lay L off l).length=L.length:=by
 simp [lay];omega
theorem bv_lay (L:List UInt8) (off:Nat) (l:List UInt8):bv (lay L off l)=(bv L).take off ++ (bv l ++ (bv L).drop (off+(bv l).length)):=by
 simp [lay,bv,List.map_take,List.map_drop]
theorem size5:(Tryz.prog.info? 5).map (·.size)=some 1:=by kernel_rfl
theorem size64:(Tryz.prog.info? 214).map (·.size)=some 64:=by kernel_rfl
theorem add_mk (b o j:Nat):(⟨b,o,none⟩:Addr).add j=⟨b,o+j,none⟩:=by
 unfold Addr.add
 split
 ·rename_i h;subst h;rfl
 ·rfl
theorem oper_copy_bytes {o:Oper} {a:Act} {w:World} {K:Act→World→Prop} {Q:Exit→Act→World→Prop} (d s:Operand)
  (ho:o.op = .call { callee:=.builtin .copy,args:=#[d,s],argTypes:=#[48,48] }) (g off n cap:Nat) (L l:List UInt8) (t:TypeId) (v:Value)
  (hg:w.heap[g]? = some (.cells (bv L).toArray t (0,0))) (hd:a.eval d = .slice (some ⟨g,off,none⟩) n cap) (hat:BytesAt w v l) (hs:a.eval s=v) (hl:l.length ≤ n) (hfit:off+n ≤ L.length)
  (h:∀ w',w'.heap[g]? = some (.cells (bv (lay L off l)).toArray t (0,0))→Far (fun k => k=g) w w' → K (a.put o.dst (.int .i64 l.length)) w'):o.wp Tryz.prog a w K Q:=by
 obtain ⟨ad,cap',rfl,hc1,hc2,hc3⟩:=hat
 by_cases h0:l.length=0
 ·obtain rfl:l = []:=List.eq_nil_of_length_eq_zero h0
  have hrun:=run_copy_none (P:=Tryz.prog) w 48 48 o.type 5 (some ⟨g,off,none⟩) ad n cap 0 cap' Tryz.underlying48 size5 (by simp)
  unfold Oper.wp
  simp [execOp,ho,resolve,invoke,builtin,hd,hs,hrun,Result.andThen]
  exact h w (by rw [bv_lay];simpa [bv] using hg) (Far.refl _ _)
 ·obtain ⟨b,o',rfl,hc⟩:=hc3 (by omega)
  have hrun:=run_copy_row (P:=Tryz.prog) w 48 48 o.type 5 g off n cap ⟨b,o',none⟩ l.length cap' (bv L).toArray t (bv l) Tryz.underlying48 size5 hg (by rw [bv_length];exact (Nat.min_eq_left hl).symm) (by
   intro j u hj
   have hjl:j < l.length:=by
    have:=(List.getElem?_eq_some_iff.1 hj).1
    rw [bv_length] at this;exact this
   rw [bv_get hjl] at hj
   cases hj
   rw [add_mk]
   exact hc j hjl) (by rw [bv_length,List.size_toArray,bv_length];omega) (bv_oneCell l)
  unfold Oper.wp
  simp [execOp,ho,resolve,invoke,builtin,hd,hs,hrun,Result.andThen]
  rw [bv_length]
  refine h _ ?_ ⟨rfl,rfl,rfl,by simp,fun k _ hk => setRow_other w g k _ hk⟩
  rw [bv_lay]
  have:=setRow_heap w g (bv L).toArray ((bv L).take off ++ (bv l ++ (bv L).drop (off+(bv l).length))).toArray t (0,0) hg
  rw [bv_length] at this ⊢
  simpa using this
theorem wpList_copy_bytes {ops:Array Oper} {rest:List Oper} {o:Oper} {a:Act} {w:World} {Q:Exit→Act→World→Prop} (hgd:o.guard=none) (d s:Operand)
  (ho:o.op = .call { callee:=.builtin .copy,args:=#[d,s],argTypes:=#[48,48] }) (g off n cap:Nat) (L l:List UInt8) (t:TypeId) (v:Value)
  (hg:w.heap[g]? = some (.cells (bv L).toArray t (0,0))) (hd:a.eval d = .slice (some ⟨g,off,none⟩) n cap) (hat:BytesAt w v l) (hs:a.eval s=v) (hl:l.length ≤ n) (hfit:off+n ≤ L.length)
  (h:∀ w',w'.heap[g]? = some (.cells (bv (lay L off l)).toArray t (0,0))→Far (fun k => k=g) w w' → wpList Tryz.prog ops Q rest (a.put o.dst (.int .i64 l.length)) w'):wpList Tryz.prog ops Q (o :: rest) a w :=
 wpList_plain hgd fun _ hK => oper_copy_bytes d s ho g off n cap L l t v hg hd hat hs hl hfit (fun w' h1 h2 => hK _ _ (h w' h1 h2))
theorem wpList_load_sec {ops:Array Oper} {rest:List Oper} {o:Oper} {a:Act} {w:World} {Q:Exit→Act→World→Prop} (hgd:o.guard=none) (x:Operand) (ho:o.op = .load 214 x)
  (g:Nat) (hx:a.eval x = .pointer (some ⟨g,0,none⟩)) (t:TypeId) (L:List UInt8) (hL:L.length=64) (hg:w.heap[g]? = some (.cells (bv L).toArray t (0,0)))
  (h:wpList Tryz.prog ops Q rest (a.put o.dst (.agg (bv L).toArray)) w):wpList Tryz.prog ops Q (o :: rest) a w :=
 wpList_load_row hgd 214 x ho g hx t _ (0,0) _ hg Tryz.underlying214 rfl (by rw [size64];simp [bv,hL]) h
theorem oper_load_sec {o:Oper} {a:Act} {w:World} {K:Act→World→Prop} {Q:Exit→Act→World→Prop} (x:Operand) (ho:o.op = .load 214 x)
  (g:Nat) (hx:a.eval x = .pointer (some ⟨g,0,none⟩)) (t:TypeId) (L:List UInt8) (hL:L.length=64) (hg:w.heap[g]? = some (.cells (bv L).toArray t (0,0)))
  (h:K (a.put o.dst (.agg (bv L).toArray)) w):o.wp Tryz.prog a w K Q :=
 wp_load_row 214 x ho g hx t _ (0,0) _ hg Tryz.underlying214 rfl (by rw [size64];simp [bv,hL]) h
theorem bv_all (l:List UInt8):(bv l).toArray.all (·.oneCell')=true:=by
 rw [Array.all_eq_true_iff_forall_mem]
 intro v hv
 exact bv_oneCell l v (by simpa using hv)
theorem wpList_store_sec {ops:Array Oper} {rest:List Oper} {o:Oper} {a:Act} {w:World} {Q:Exit→Act→World→Prop} (hgd:o.guard=none) (x y:Operand) (ho:o.op = .store 214 x y)
  (g:Nat) (hx:a.eval x = .pointer (some ⟨g,0,none⟩)) (L:List UInt8) (hL:L.length=64) (hy:a.eval y = .agg (bv L).toArray) (t:TypeId) (old:Array Value) (hold:old.size=64) (hg:w.heap[g]? = some (.cells old t (0,0)))
  (h:∀ w',w'.heap[g]? = some (.cells (bv L).toArray t (0,0))→Far (fun k => k=g) w w' → wpList Tryz.prog ops Q rest (a.put o.dst undef) w'):wpList Tryz.prog ops Q (o :: rest) a w :=
 wpList_store_row hgd 214 x y ho g (bv L).toArray hx hy t old hg (by rw [size64];simp [bv,hL]) (by rw [hold];simp [bv,hL]) (bv_all L)
  (h _ (setRow_heap w g old _ t (0,0) hg) ⟨rfl,rfl,rfl,by simp,fun k _ hk => setRow_other w g k _ hk⟩)
theorem oper_store_sec {o:Oper} {a:Act} {w:World} {K:Act→World→Prop} {Q:Exit→Act→World→Prop} (x y:Operand) (ho:o.op = .store 214 x y)
  (g:Nat) (hx:a.eval x = .pointer (some ⟨g,0,none⟩)) (L:List UInt8) (hL:L.length=64) (hy:a.eval y = .agg (bv L).toArray) (t:TypeId) (old:Array Value) (hold:old.size=64) (hg:w.heap[g]? = some (.cells old t (0,0)))
  (h:∀ w',w'.heap[g]? = some (.cells (bv L).toArray t (0,0))→Far (fun k => k=g) w w' → K (a.put o.dst undef) w'):o.wp Tryz.prog a w K Q :=
 wp_store_row 214 x y ho g (bv L).toArray hx hy t old hg (by rw [size64];simp [bv,hL]) (by rw [hold];simp [bv,hL]) (bv_all L)
  (h _ (setRow_heap w g old _ t (0,0) hg) ⟨rfl,rfl,rfl,by simp,fun k _ hk => setRow_other w g k _ hk⟩)
theorem results_sec {fn:Func} {p:Tmp} (h:fn.results = #[.cell p 214]) (tmps:Array Value) (w:World) (g:Nat) (t:TypeId) (L:List UInt8) (hL:L.length=64)
  (hp:tmps.getD p undef = .pointer (some ⟨g,0,none⟩)) (hg:w.heap[g]? = some (.cells (bv L).toArray t (0,0))):(results fn tmps).run Tryz.prog w = .ok (.agg (bv L).toArray) w :=
 results_cell_row h tmps w g t _ (0,0) _ hp hg Tryz.underlying214 rfl (by rw [size64];simp [bv,hL])
end Go.Proofs.YtamafdcnbcoegabGreat
namespace Go.Proofs.YtamafdcnbcoegabGreat
open Go.RowKit
set_option maxRecDepth 100000 in
set_option maxHeartbeats 1000000 in
theorem stampBytes_any (o c:Nat) (ho:o < 4294967296) (hc:c < 18446744073709551616) (w:World) :
  Calls Tryz.prog 200 #[.agg #[.int .u32 o,.int .u64 c]] w fun r w' => ∃ v,r = .returned v∧Owns (w.heap.size+1) w' v (Mod.stampB o c)∧Below w.heap.size w w':=by
 go_enter Tryz.func200,Tryz.ntmps200
 go_upto_region 1 with fail
 refine wp_world (fun x => x.heap[w.heap.size]? = some (.cells #[.int .u32 o,.int .u64 c] 188 (0,0))∧Below w.heap.size w x) ?_ ?_
 ·exact ⟨heap_alloc_new w _,(Below.refl _ _).alloc (Nat.le_refl _) _⟩
 rintro x ⟨hb0,hB⟩
 have hz:=lt_of_block hb0
 have c0:x.cell? ⟨w.heap.size,0,none⟩=some (.int .u32 o):=blk_cell (i:=0) hb0
 have HB0:=hide hb0
 have HB:=hide hB
 clear hb0 hB
 have hA:=fun (v:Value) (l:List UInt8) (n:Int) (y:World) (h1:l.length ≤ 1000) (h2:w.heap.size+1 ≤ y.heap.size) (h3:0 ≤ n) (h4:Owns (w.heap.size+1) y v l) => hide (appendNumber_any (w.heap.size+1) n v l y h1 h2 h3 h4)
 have hbl:=fun (v:Value) (l:List UInt8) (y z:World) (h2:w.heap.size+1 ≤ y.heap.size) (h4:Owns (w.heap.size+1) y v l) (hg:y.grownBy z v.ownBlock) => below_grown_new (B:=w.heap.size+1) hg h2 (fun g hg => (h4.lt g hg).1)
 go_upto_region 2 with (go_at_call 103;refine (unhide (hA (.slice none 0 0) [] (o:Int) x (by simp) (by omega) (by omega) (owns_nil _ _))).mono ?_;rintro r y ⟨v1,rfl,hown,hg⟩)
 have b1:=hbl _ _ x y (by omega) (owns_nil _ _) hg
 have hby:=(b1.block _ (Nat.lt_succ_self _)).trans (unhide HB0)
 have c1:y.cell? ⟨w.heap.size,1,none⟩=some (.int .u64 c):=blk_cell (i:=1) hby
 have hzy:=b1.size
 have HB1:=hide ((unhide HB).trans (b1.mono (by omega)))
 have O1:=hide hown
 have HBY:=hide hby
 clear hown hg b1 hby c0 HB0 HB
 have hwc:IntKind.u32.wrap (c:Int)=((c % 4294967296:Nat):Int):=by rw [IntKind.wrap_u32];omega
 go_upto_region 3 with (go_at_call 103;refine (unhide (hA v1 _ ((c % 4294967296:Nat):Int) y (by simp [Wire.length_le4]) (by omega) (by omega) (unhide O1))).mono ?_;rintro r z ⟨v2,rfl,hown,hg⟩)
 have b1:=hbl _ _ y z (by omega) (unhide O1) hg
 have hbz:=(b1.block _ (Nat.lt_succ_self _)).trans (unhide HBY)
 have c2:z.cell? ⟨w.heap.size,1,none⟩=some (.int .u64 c):=blk_cell (i:=1) hbz
 have hzz:=b1.size
 have HB2:=hide ((unhide HB1).trans (b1.mono (by omega)))
 have O2:=hide hown
 clear hown hg b1 hbz c1 HBY HB1 O1 hwc
 go_wp2_with (go_at_call 103;refine (unhide (hA v2 _ ((c / 4294967296:Nat):Int) z (by simp [Wire.length_le4]) (by omega) (by omega) (unhide O2))).mono ?_;rintro r u ⟨v3,rfl,hown,hg⟩)
 have b1:=hbl _ _ z u (by omega) (unhide O2) hg
 go_ret
 exact ⟨v3,rfl,by simpa [Mod.stampB] using hown,(unhide HB2).trans (b1.mono (by omega))⟩
end Go.Proofs.YtamafdcnbcoegabGreat
namespace Go.Proofs.YtamafdcnbcoegabGreat
open Go.RowKit
theorem bv_at {l:List UInt8} {i:Nat} (h:i < l.length):(bv l).toArray[i]? = some (.int .u8 (l.getD i 0).toNat):=by
 rw [List.getElem?_toArray];exact bv_get h
theorem eq_items (S T:List UInt8) (w:World):∀ (is:List Nat),(∀ i ∈ is,i < S.length∧i < T.length) →
  (Op.eqItems 9999 5 1 (bv S).toArray (bv T).toArray is).run Tryz.prog w = .ok (is.all fun i => S.getD i 0 == T.getD i 0) w
 | [],_ => by simp [Op.eqItems]
 | i :: is,h => by
  have h0:=h i (.head _)
  have p1:=run_part_plain (P:=Tryz.prog) w (e:=5) (by kernel_rfl) (xs:=(bv S).toArray) (off:=i) (bv_at h0.1)
  have p2:=run_part_plain (P:=Tryz.prog) w (e:=5) (by kernel_rfl) (xs:=(bv T).toArray) (off:=i) (bv_at h0.2)
  have p3:=run_equalIn_int (P:=Tryz.prog) w 9998 5 .u8 .u8 ((S.getD i 0).toNat:Int) ((T.getD i 0).toNat:Int) Tryz.underlying5
  have ih:=eq_items S T w is (fun j hj => h j (.tail _ hj))
  simp only [Op.eqItems,Nat.mul_one,Sem.run_bind,p1,p2,p3,Result.andThen_ok,List.all_cons]
  have e:(((S.getD i 0).toNat:Int) == ((T.getD i 0).toNat:Int))=(S.getD i 0 == T.getD i 0):=by
   rw [Bool.eq_iff_iff,beq_iff_eq,beq_iff_eq]
   constructor
   ·intro e
    exact UInt8.toNat_inj.1 (by omega)
   ·intro e
    rw [e]
  rw [e]
  cases hc:(S.getD i 0 == T.getD i 0)
  ·simp
  ·simpa using ih
theorem all_eq {S T:List UInt8} {n:Nat} (hS:S.length=n) (hT:T.length=n):((List.range n).all fun i => S.getD i 0 == T.getD i 0)=decide (S=T):=by
 rw [Bool.eq_iff_iff,decide_eq_true_eq,List.all_eq_true]
 constructor
 ·intro h
  apply List.ext_getElem (by omega)
  intro i h1 h2
  have:=h i (List.mem_range.2 (by omega))
  simpa [h1,h2] using this
 ·rintro rfl i _
  simp
set_option maxRecDepth 100000 in
theorem eq_sec {S T:List UInt8} (hS:S.length=64) (hT:T.length=64) (w:World):(Op.equalIn 10000 214 (.agg (bv S).toArray) (.agg (bv T).toArray)).run Tryz.prog w = .ok (decide (S=T)) w:=by
 obtain ⟨i,hi⟩:∃ i,Tryz.prog.info? 5=some i:=by
  have:=size5
  cases h:Tryz.prog.info? 5 with
  | none => rw [h] at this;cases this
  | some i => exact ⟨i,rfl⟩
 have hz:Tryz.prog.cellsOf 5=1:=by kernel_rfl
 have e:=eq_items S T w (List.range 64) (fun i hi => by have:=List.mem_range.1 hi;omega)
 rw [all_eq hS hT,← hz] at e
 exact (run_equalIn_array (P:=Tryz.prog) w 9999 (bv S).toArray (bv T).toArray Tryz.underlying214 hi).trans e
theorem fold_set (off:Nat):∀ (l:List Value) (i:Nat) (cs:Array Value),off+i+l.length ≤ cs.size →
  (l.zipIdx i).foldl (fun cs (p:Value × Nat) => cs.setIfInBounds (off+p.2) p.1) cs=(cs.toList.take (off+i) ++ l ++ cs.toList.drop (off+i+l.length)).toArray
 | [],i,cs,_ => by simp
 | v :: l,i,cs,h => by
  rw [List.zipIdx_cons,List.foldl_cons,fold_set off l (i+1) _ (by simp at h ⊢;omega)]
  have:=list_seg_step cs.toList (off+i) v l (by simp at h ⊢;omega)
  congr 1
  rw [Array.toList_setIfInBounds]
  have e1:off+(i+1)=off+i+1:=by omega
  rw [e1,this,List.length_cons]
def zeros:List UInt8:=List.replicate 64 0
theorem length_zeros:zeros.length=64:=by simp [zeros]
theorem built_eq (parts:List (Nat × Value)):Tryz.prog.built 254 parts=Instr.fill (fun x => (#[(0,1),(1,64)]:Array (Nat × Nat))[x]?) (Value.int .i64 0 :: bv zeros).toArray parts:=by kernel_rfl
theorem built_write (k:Int) (S:List UInt8) (hS:S.length=64):Tryz.prog.built 254 [(0,.int .i64 k),(1,.agg (bv S).toArray)] = some (.int .i64 k :: bv S).toArray:=by
 rw [built_eq]
 have hz:(bv zeros).length=64:=by rw [bv_length,length_zeros]
 have hb:(bv S).length=64:=by rw [bv_length,hS]
 have e2:=fold_set 1 (bv S) 0 (Value.int .i64 k :: bv zeros).toArray (by simp [hz,hb])
 generalize hZ:bv zeros=Z at *
 generalize hX:bv S=X at *
 have hX2:X.toArray.size=64:=by simpa using hb
 simp only [Instr.fill,Value.cells]
 simp [hz,hb]
 rw [e2]
 simp [hz,hb]
end Go.Proofs.YtamafdcnbcoegabGreat
namespace Go.Proofs.YtamafdcnbcoegabGreat
open Go.RowKit
theorem lay_seal (o c:Nat) (ins:List UInt8) (h:ins.length ≤ 40):lay (lay (lay (List.replicate 64 0) 0 (Mod.stampB o c)) 12 ins) 52 (Mod.stampB o c)=Mod.sealB o c ins:=by
 have e1:lay (List.replicate 64 (0:UInt8)) 0 (Mod.stampB o c)=Mod.stampB o c ++ List.replicate 52 0:=by
  simp [lay,Mod.length_stampB]
 rw [e1]
 have e2:lay (Mod.stampB o c ++ List.replicate 52 0) 12 ins=Mod.stampB o c ++ ins ++ List.replicate (52 - ins.length) 0:=by
  unfold lay
  rw [List.take_left' (Mod.length_stampB o c),List.drop_append,List.drop_eq_nil_of_le (by rw [Mod.length_stampB];omega),Mod.length_stampB,List.drop_replicate,List.nil_append,List.append_assoc]
  congr 3
  omega
 rw [e2]
 unfold lay Mod.sealB
 have hl:(Mod.stampB o c ++ ins).length=12+ins.length:=by rw [List.length_append,Mod.length_stampB]
 rw [List.take_append,List.take_of_length_le (by omega),List.take_replicate,List.drop_append,List.drop_eq_nil_of_le (by rw [hl,Mod.length_stampB];omega),List.drop_replicate,hl,Mod.length_stampB]
 have e3:min (52 - (12+ins.length)) (52 - ins.length)=40 - ins.length:=by omega
 have e4:52 - ins.length - (52+12 - (12+ins.length))=0:=by omega
 rw [e3,e4]
 simp
theorem alloc3 (w:World) (A B C:Obj):(((w.alloc A).alloc B).alloc C).heap[w.heap.size]? = some A∧(((w.alloc A).alloc B).alloc C).heap[w.heap.size+1]? = some B∧(((w.alloc A).alloc B).alloc C).heap[w.heap.size+2]? = some C∧Below w.heap.size w (((w.alloc A).alloc B).alloc C):=by
 have h1:=heap_alloc_new (w.alloc A) B
 have h2:=heap_alloc_new ((w.alloc A).alloc B) C
 have e1:(w.alloc A).heap.size=w.heap.size+1:=by simp
 have e2:((w.alloc A).alloc B).heap.size=w.heap.size+2:=by simp
 rw [e1] at h1
 rw [e2] at h2
 refine ⟨?_,?_,h2,(((Below.refl _ _).alloc (Nat.le_refl _) _).alloc (by omega) _).alloc (by omega) _⟩
 ·rw [hao _ _ (by omega),hao _ _ (by omega)]
  exact heap_alloc_new w A
 ·rw [hao _ _ (by omega)]
  exact h1
theorem cells_eq {o:Option Obj} {c c':Array Value} {t:TypeId} {fr:Nat × Nat} (h:o=some (.cells c t fr)) (e:c=c'):o=some (.cells c' t fr):=by rw [← e];exact h
def OwnsW (B:Nat) (l:List UInt8) (v:Value) (w:World):Prop:=Owns B w v l∧∀ g,v.ownBlock=some g→g < w.heap.size
theorem stable_ownsW (B:Nat) (l:List UInt8):Stable (OwnsW B l):=fun _ _ _ h hb => ⟨h.1.below hb h.2,fun g hg => Nat.lt_of_lt_of_le (h.2 g hg) hb.size⟩
set_option maxRecDepth 100000 in
set_option maxHeartbeats 1000000 in
theorem seal_any (o c:Nat) (ins:List UInt8) (v:Value) (w:World) (ho:o < 4294967296) (hc:c < 18446744073709551616) (hi:ins.length ≤ 40) (hat:BytesAt w v ins) :
  Calls Tryz.prog 171 #[.agg #[.int .u32 o,.int .u64 c],v] w fun r w' => r = .returned (.agg (bv (Mod.sealB o c ins)).toArray)∧Below w.heap.size w w':=by
 have HS:=fun y => hide (stampBytes_any o c ho hc y)
 go_enter Tryz.func171,Tryz.ntmps171
 go_upto_region 2 with fail
 refine wp_world (fun x => x.heap[w.heap.size]? = some (.cells #[.int .u32 o,.int .u64 c] 188 (0,0))∧x.heap[w.heap.size+1]? = some (.cells (bv zeros).toArray 214 (0,0))∧x.heap[w.heap.size+2]? = some (.cells (bv zeros).toArray 214 (0,0))∧Below w.heap.size w x) ?_ ?_
 ·exact ⟨(alloc3 _ _ _ _).1,cells_eq (alloc3 _ _ _ _).2.1 (by kernel_rfl),cells_eq (alloc3 _ _ _ _).2.2.1 (by kernel_rfl),(alloc3 _ _ _ _).2.2.2⟩
 rintro x ⟨h0,h1,h2,hB⟩
 have H0:=hide h0
 have H1:=hide h1
 have H2:=hide h2
 have HB:=hide hB
 have hz:=lt_of_block h2
 have c0:x.cell? ⟨w.heap.size,0,none⟩=some (.int .u32 o):=blk_cell (i:=0) h0
 have c1:x.cell? ⟨w.heap.size,1,none⟩=some (.int .u64 c):=blk_cell (i:=1) h0
 have HAT:=hide hat
 clear h0 h1 h2 hB hat
 refine wp_region_last (by kernel_rfl)
  [fun v _ => v = .slice (some ⟨w.heap.size+2,0,none⟩) 64 64,fun v _ => v = .agg #[.int .u32 o,.int .u64 c],OwnsW (w.heap.size+3) (Mod.stampB o c),fun _ _ => True]
  [[(5,none)],[(2,none)],[(7,some 1)],[(6,some 0),(8,some 2)]] [some 6,some 7,some 8,some 9] [false,false,false,false,false,false,true,true,true,true,false,false,false,false,false,false,false,false]
  3 _ rfl rfl (by kernel_rfl) (by kernel_rfl) (by kernel_rfl) (by kernel_rfl) (by kernel_rfl) (by kernel_rfl) ?_ ?_ ?_
 ·repeat' (first | exact stable_eq _ | exact stable_ownsW _ _ | exact stable_true | exact trivial | apply And.intro)
 ·refine ⟨?_,?_,?_,trivial⟩
  all_goals
   intro a y hb hf
   have y0:=(hb.cell (p:=⟨w.heap.size,0,none⟩) (by show w.heap.size < _;omega)).trans c0
   have y1:=(hb.cell (p:=⟨w.heap.size,1,none⟩) (by show w.heap.size < _;omega)).trans c1
   have hzy:=hb.size
   clear hb
   simp only [PlanFacts,List.getD_cons_zero,List.getD_cons_succ,Array.getD_eq_getD_getElem?] at hf
   try simp at hf
   try go_simp
   try exact Below.refl _ _
  ·refine (unhide (HS _)).mono ?_
   rintro r w1 ⟨v1,rfl,hown,hb1⟩
   exact ⟨v1,rfl,hb1,hown.mono (by omega),fun g hg => (hown.lt g hg).2⟩
 ·intro f y hb hwd
  simp only [AllWords,List.take] at hwd
  have hf6:=hwd.1
  have hf8:=hwd.2.2.1
  simp only [mergeT,hf6]
  have g0:=(hb.block _ (by show w.heap.size < _;omega)).trans (unhide H0)
  have g1:=(hb.block _ (by show w.heap.size+1 < _;omega)).trans (unhide H1)
  have g2:=(hb.block _ (by show w.heap.size+2 < _;omega)).trans (unhide H2)
  have HBY:=hide ((unhide HB).trans (hb.mono (by have:=(unhide HB).size;omega)))
  generalize f 8=v8 at *
  generalize f 7=v7 at *
  have hzy:=hb.size
  refine oper_copy_bytes (.tmp 6) (.tmp 8) rfl (w.heap.size+2) 0 64 64 zeros (Mod.stampB o c) 214 v8 g2 rfl hf8.1.at rfl (by rw [Mod.length_stampB];omega) (by rw [length_zeros];omega) ?_
  intro z hz2 hF
  have G0:=hide (hF.blk g0 (by omega))
  have G1:=hide (hF.blk g1 (by omega))
  have G2:=hide hz2
  have HBZ:=hide ((unhide HBY).trans (hF.below (by omega) (fun k hk e => by omega)))
  have hzz:=hF.size
  clear hb hf6 hf8 g0 g1 g2 hF hz2 HBY H0 H1 H2 HB c0 c1
  clear hwd
  have c0:z.cell? ⟨w.heap.size,0,none⟩=some (.int .u32 o):=blk_cell (i:=0) (unhide G0)
  have c1:z.cell? ⟨w.heap.size,1,none⟩=some (.int .u64 c):=blk_cell (i:=1) (unhide G0)
  have hL1:(lay zeros 0 (Mod.stampB o c)).length=64:=by rw [length_lay (by rw [Mod.length_stampB,length_zeros];omega),length_zeros]
  have HL1:=hide hL1
  clear hL1
  go_simp
  go_upto_region 4 with (refine wpList_copy_bytes rfl (.tmp 10) (.tmp 11) rfl (w.heap.size+2) 12 40 52 (lay zeros 0 (Mod.stampB o c)) ins 214 v (unhide G2) rfl ((unhide HAT).below (unhide HBZ)) rfl hi (by rw [unhide HL1];omega) ?_;intro u hu hF;go_simp)
  have hL2:(lay (lay zeros 0 (Mod.stampB o c)) 12 ins).length=64:=by rw [length_lay (by rw [unhide HL1];omega),unhide HL1]
  have HL2:=hide hL2
  have HBU:=hide ((unhide HBZ).trans (hF.below (by omega) (fun k hk e => by omega)))
  have g0:=hF.blk (unhide G0) (by omega)
  have G1:=hide (hF.blk (unhide G1) (by omega))
  have G2:=hide hu
  have hzu:=hF.size
  have c0:u.cell? ⟨w.heap.size,0,none⟩=some (.int .u32 o):=blk_cell (i:=0) g0
  have c1:u.cell? ⟨w.heap.size,1,none⟩=some (.int .u64 c):=blk_cell (i:=1) g0
  clear hL2 hu hF g0 HBZ G0 HL1
  refine wp_region_last (by kernel_rfl)
   [fun v _ => v = .slice (some ⟨w.heap.size+2,52,none⟩) 12 12,fun v _ => v = .agg #[.int .u32 o,.int .u64 c],OwnsW (w.heap.size+3) (Mod.stampB o c),fun _ _ => True]
   [[(5,none)],[(2,none)],[(14,some 1)],[(13,some 0),(15,some 2)]] [some 13,some 14,some 15,some 16] [false,false,false,false,false,false,false,false,false,false,false,false,false,true,true,true,true,false]
   3 _ rfl rfl (by kernel_rfl) (by kernel_rfl) (by kernel_rfl) (by kernel_rfl) (by kernel_rfl) (by kernel_rfl) ?_ ?_ ?_
  ·repeat' (first | exact stable_eq _ | exact stable_ownsW _ _ | exact stable_true | exact trivial | apply And.intro)
  ·refine ⟨?_,?_,?_,trivial⟩
   all_goals
    intro a y hb hf
    have y0:=(hb.cell (p:=⟨w.heap.size,0,none⟩) (by show w.heap.size < _;omega)).trans c0
    have y1:=(hb.cell (p:=⟨w.heap.size,1,none⟩) (by show w.heap.size < _;omega)).trans c1
    have hzy:=hb.size
    clear hb
    simp only [PlanFacts,List.getD_cons_zero,List.getD_cons_succ,Array.getD_eq_getD_getElem?] at hf
    try simp at hf
    try go_simp
    try exact Below.refl _ _
   ·refine (unhide (HS _)).mono ?_
    rintro r w1 ⟨v1,rfl,hown,hb1⟩
    exact ⟨v1,rfl,hb1,hown.mono (by omega),fun g hg => (hown.lt g hg).2⟩
  ·intro f y hb hwd
   simp only [AllWords,List.take] at hwd
   have hf13:=hwd.1
   have hf15:=hwd.2.2.1
   simp only [mergeT,hf13]
   have g1:=(hb.block _ (by show w.heap.size+1 < _;omega)).trans (unhide G1)
   have g2:=(hb.block _ (by show w.heap.size+2 < _;omega)).trans (unhide G2)
   have HBY:=hide ((unhide HBU).trans (hb.mono (by have:=(unhide HBU).size;omega)))
   generalize f 15=v15 at *
   generalize f 14=v14 at *
   have hzy:=hb.size
   refine oper_copy_bytes (.tmp 13) (.tmp 15) rfl (w.heap.size+2) 52 12 12 _ (Mod.stampB o c) 214 v15 g2 rfl hf15.1.at rfl (by rw [Mod.length_stampB];omega) (by rw [unhide HL2];omega) ?_
   intro z3 hz2 hF
   have hL3:(lay (lay (lay zeros 0 (Mod.stampB o c)) 12 ins) 52 (Mod.stampB o c)).length=64:=by rw [length_lay (by rw [unhide HL2,Mod.length_stampB];omega),unhide HL2]
   have g1:=hF.blk g1 (by omega)
   have HB3:=hide ((unhide HBY).trans (hF.below (by omega) (fun k hk e => by omega)))
   have hz3:=hF.size
   rw [show lay (lay (lay zeros 0 (Mod.stampB o c)) 12 ins) 52 (Mod.stampB o c)=Mod.sealB o c ins from lay_seal o c ins hi] at hz2 hL3
   have G1:=hide g1
   have G2:=hide hz2
   clear hb hf13 hf15 g1 g2 hF hz2 HBY HBU c0 c1
   clear hwd
   go_simp
   go_wp2_with (first
    | (refine wpList_load_sec rfl (.tmp 5) rfl (w.heap.size+2) rfl 214 (Mod.sealB o c ins) hL3 (unhide G2) ?_)
    | (refine wpList_store_sec rfl (.tmp 4) (.tmp 17) rfl (w.heap.size+1) rfl (Mod.sealB o c ins) hL3 rfl 214 _ (by simp [bv_length,length_zeros]) (unhide G1) ?_;intro z4 hz4 hF4;go_simp))
   exact bodyPost_ret (results_sec Tryz.results171 _ _ (w.heap.size+1) _ _ hL3 rfl hz4) rfl ⟨rfl,(unhide HB3).trans (hF4.below (by omega) (fun k hk e => by omega))⟩
end Go.Proofs.YtamafdcnbcoegabGreat
namespace Go.Proofs.YtamafdcnbcoegabGreat
open Go.RowKit
def valOf (d:Option Tmp) (v:Value):Value:=match d with | some _ => v | none => undef
section
variable {P:Program} {ops:Array Oper} {Q:Exit→Act→World→Prop}
structure FootInv (ops:Array Oper) (Φ:Nat→Value→World→Prop) (E:Nat→Nat→Prop) (a0:Act) (w0:World) (L:Array Bool) (a:Act) (w:World):Prop where
 size:L.size=ops.size
 ext:Far (fun b => ∃ k,L.getD k false=true∧E k b) w0 w
 closed:∀ k,L.getD k false=true→∀ j,depB ops k j=true→L.getD j false=true
 vals:∀ i o,ops[i]? = some o→L.getD i false=true→Φ i (match o.dst with | some d => a.tmps.getD d undef | none => undef) w
 rest:∀ t,(∀ j,wr ops t=some j→L.getD j false=false)→a.tmps.getD t undef=a0.tmps.getD t undef
 defers:a.defers=a0.defers
 tsize:a.tmps.size=a0.tmps.size
theorem mono_foot {a0:Act} {w0:World} (Φ:Nat→Value→World→Prop) (E:Nat→Nat→Prop) (hok:monoOk ops a0.tmps.size=true)
  (hst:∀ i j v w w',i ≠ j→depB ops j i=false→Φ j v w→Far (E i) w w' → Φ j v w')
  (hop:∀ i o,ops[i]? = some o→∀ a w,Far (fun b => ∃ k,k ≠ i∧depB ops k i=false∧E k b) w0 w→GoodAct ops Φ a0 i o a w →
   if Region.wanted o (yielded ops a.tmps)=true then o.wp P a w (fun a' w' => ∃ v,a' = a.put o.dst v∧Far (E i) w w' ∧ Φ i (valOf o.dst v) w') Q else Φ i undef w)
  (hend:∀ a w,Far (fun b => ∃ k,E k b) w0 w→(∀ i o,ops[i]? = some o→Φ i (match o.dst with | some d => a.tmps.getD d undef | none => undef) w)→(∀ t,wr ops t=none→a.tmps.getD t undef=a0.tmps.getD t undef)→a.defers=a0.defers→a.tmps.size=a0.tmps.size→Q .normal a w) :
  ∀ (fuel:Nat) (L:Array Bool) (a:Act) (w:World),FootInv ops Φ E a0 w0 L a w→(List.range ops.size).countP (fun i => !L.getD i false) ≤ fuel→wpAny P .any ops Q fuel L a w:=by
 have hrdy:∀ (L:Array Bool) (a:Act) (w:World),FootInv ops Φ E a0 w0 L a w→Region.ready .any ops L = [] → Q .normal a w:=by
  intro L a w hI hr
  have hall:∀ n i,i < n→i < ops.size→L.getD i false=true:=by
   intro n
   induction n with
   | zero => intro i h;omega
   | succ n ih =>
    intro i h hi
    by_cases hin:i < n
    ·exact ih i hin hi
    ·have e:i=n:=by omega
     subst e
     cases hL:L.getD i false
     ·exfalso
      have ho:ops[i]? = some ops[i]:=Array.getElem?_eq_getElem hi
      obtain ⟨_,_,h3⟩:=monoOk_spec hok ho
      have:i ∈ Region.ready .any ops L:=mem_ready.2 ⟨by
       have hs:i < L.size:=by rw [hI.size];exact hi
       rw [Array.getD_eq_getD_getElem?,Array.getElem?_eq_getElem hs] at hL ⊢
       exact hL,ops[i],ho,fun e he hb => by
       have hd:depB ops i e.on=true:=by
        unfold depB
        rw [ho]
        exact Array.any_eq_true'.2 ⟨e,he,by simp [hb]⟩
       have hlt:=h3 _ hd
       exact ih e.on hlt (by omega)⟩
      rw [hr] at this
      cases this
     ·rfl
  refine hend a w (hI.ext.mono (fun b _ h => h.imp fun k h => h.2)) (fun i o ho => hI.vals i o ho (hall ops.size i (Array.getElem?_eq_some_iff.1 ho).1 (Array.getElem?_eq_some_iff.1 ho).1)) (fun t ht => hI.rest t (fun j hj => by rw [ht] at hj;cases hj)) hI.defers hI.tsize
 intro fuel
 induction fuel with
 | zero =>
  intro L a w hI hc
  have hr:Region.ready .any ops L = []:=by
   apply List.eq_nil_iff_forall_not_mem.2
   intro i hi
   obtain ⟨h0,o,ho,_⟩:=mem_ready.1 hi
   have hlt:i < ops.size:=(Array.getElem?_eq_some_iff.1 ho).1
   have h0':L.getD i false=false:=by
    have hs:i < L.size:=by rw [hI.size];exact hlt
    rw [Array.getD_eq_getD_getElem?,Array.getElem?_eq_getElem hs] at h0 ⊢
    exact h0
   have:0 < (List.range ops.size).countP (fun i => !L.getD i false):=List.countP_pos_iff.2 ⟨i,List.mem_range.2 hlt,by simp [h0']⟩
   omega
  exact ⟨hr,hrdy L a w hI hr⟩
 | succ fuel ih =>
  intro L a w hI hc
  refine ⟨hrdy L a w hI,fun i hi => ?_⟩
  obtain ⟨h0,o,ho,hdeps⟩:=mem_ready.1 hi
  have hlt:i < ops.size:=(Array.getElem?_eq_some_iff.1 ho).1
  have hls:i < L.size:=by rw [hI.size];exact hlt
  have h0':L.getD i false=false:=by
   rw [Array.getD_eq_getD_getElem?,Array.getElem?_eq_getElem hls] at h0 ⊢
   exact h0
  obtain ⟨hd,hl,hlex⟩:=monoOk_spec hok ho
  have hdl:∀ j,depB ops i j=true→L.getD j false=true:=by
   intro j hj
   unfold depB at hj
   rw [ho] at hj
   obtain ⟨e,he,hb⟩:=Array.any_eq_true'.1 hj
   simp only [Bool.and_eq_true,beq_iff_eq] at hb
   rw [← hb.2];exact hdeps e he hb.1
  have hgood:GoodAct ops Φ a0 i o a w:=by
   intro t ht
   cases hw:wr ops t with
   | none => exact hI.rest t (fun j hj => by rw [hw] at hj;cases hj)
   | some j =>
    simp only []
    have hj:=List.find?_some hw
    simp only [beq_iff_eq] at hj
    split
    ·rename_i hdep
     cases hoj:ops[j]? with
     | none => rw [hoj] at hj;cases hj
     | some oj =>
      rw [hoj] at hj
      have hvv:=hI.vals j oj hoj (hdl j hdep)
      have hj':oj.dst=some t:=hj
      rw [hj'] at hvv
      exact hvv
    ·rename_i hdep
     refine hI.rest t (fun j' hj' => ?_)
     rw [hw] at hj'
     cases hj'
     rcases hl t ht j hw with h | h
     ·exact absurd h hdep
     ·cases hLj:L.getD j false
      ·rfl
      ·have:=hI.closed j hLj i h
       rw [h0'] at this;cases this
  have hstep:∀ v w',Far (E i) w w' → Φ i (valOf o.dst v) w' → FootInv ops Φ E a0 w0 (L.setIfInBounds i true) (a.put o.dst v) w':=by
   intro v w' hb hv
   have hget:∀ k,(L.setIfInBounds i true).getD k false=true ↔ (k=i ∨ L.getD k false=true):=by
    intro k
    by_cases hk:k=i
    ·subst hk
     simp [Array.getD_eq_getD_getElem?,hls]
    ·rw [getD_set_ne false (fun e => hk e.symm)]
     simp [hk]
   have hput:∀ t,(a.put o.dst v).tmps.getD t undef=if o.dst=some t then v else a.tmps.getD t undef:=by
    intro t
    cases hdst:o.dst with
    | none => simp [Act.put]
    | some d =>
     simp only [Act.put,Option.some.injEq]
     have hdsz:d < a.tmps.size:=by rw [hI.tsize];exact (hd d hdst).1
     by_cases h:d=t
     ·subst h
      simp [Array.getD_eq_getD_getElem?,hdsz]
     ·simp [Array.getD_eq_getD_getElem?,h]
   refine ⟨by simp [hI.size],(hI.ext.mono (fun b _ h => by obtain ⟨k,h1,h2⟩:=h;exact ⟨k,(hget k).2 (.inr h1),h2⟩)).trans hb (fun b _ h => ⟨i,(hget i).2 (.inl rfl),h⟩),?_,?_,?_,?_,?_⟩
   ·intro k hk j hj
    rw [hget] at hk ⊢
    rcases hk with rfl | hk
    ·exact .inr (hdl j hj)
    ·exact .inr (hI.closed k hk j hj)
   ·intro k ok hok' hk
    rw [hget] at hk
    rcases hk with rfl | hk
    ·rw [ho] at hok';cases hok'
     cases hdst:o.dst with
     | none => rw [hdst] at hv;exact hv
     | some d =>
      rw [hdst] at hv
      simp only []
      have hp:=hput d
      rw [if_pos hdst,hdst] at hp
      rw [hp];exact hv
    ·have hki:i ≠ k:=by
      intro e
      subst e
      rw [h0'] at hk;cases hk
     have hnd:depB ops k i=false:=by
      cases hd:depB ops k i with
      | false => rfl
      | true =>
       have:=hI.closed k hk i hd
       rw [h0'] at this;cases this
     have hvk:=hst i k _ _ _ hki hnd (hI.vals k ok hok' hk) hb
     cases hdk:ok.dst with
     | none => rw [hdk] at hvk;exact hvk
     | some d =>
      rw [hdk] at hvk
      simp only [] at hvk ⊢
      have hne:o.dst ≠ some d:=by
       intro e
       have h1:=(hd d e).2
       have h2:=((monoOk_spec hok hok').1 d hdk).2
       rw [h1] at h2
       cases h2
       exact hki rfl
      rw [hput,if_neg hne]
      exact hvk
   ·intro t ht
    rw [hput]
    have hne:o.dst ≠ some t:=by
     intro e
     have:=ht i (hd t e).2
     have h2:=(hget i).2 (.inl rfl)
     rw [this] at h2;cases h2
    rw [if_neg hne]
    refine hI.rest t (fun j hj => ?_)
    cases hLj:L.getD j false
    ·rfl
    ·have:=ht j hj
     rw [(hget j).2 (.inr hLj)] at this;cases this
   ·cases o.dst <;> exact hI.defers
   ·rw [← hI.tsize];cases o.dst <;> simp [Act.put]
  have hcount:(List.range ops.size).countP (fun k => !(L.setIfInBounds i true).getD k false) ≤ fuel:=by
   have:=countP_lt (l:=List.range ops.size) (p:=fun k => !L.getD k false) (q:=fun k => !(L.setIfInBounds i true).getD k false)
    (fun k _ hk => by
     by_cases hki:k=i
     ·subst hki;simp [h0']
     ·rw [getD_set_ne false (fun e => hki e.symm)] at hk;exact hk)
    ⟨i,List.mem_range.2 hlt,by simp [h0'],by simp [Array.getD_eq_getD_getElem?,hls]⟩
   omega
  have hg:=hop i o ho a w (hI.ext.mono (fun b _ h => by
   obtain ⟨k,h1,h2⟩:=h
   refine ⟨k,fun e => ?_,?_,h2⟩
   ·subst e;rw [h0'] at h1;cases h1
   ·cases hd:depB ops k i with
    | false => rfl
    | true =>
     have:=hI.closed k h1 i hd
     rw [h0'] at this;cases this)) hgood
  unfold wpOp
  rw [ho]
  simp only []
  split at hg
  ·rename_i hw
   rw [if_pos hw]
   refine .inl (Oper.wp_mono ?_ hg)
   rintro a' w' ⟨v,rfl,hb,hv⟩
   exact ih _ _ _ (hstep v w' hb hv) hcount
  ·rename_i hw
   rw [if_neg hw]
   exact ih _ _ _ (hstep undef w (Far.refl _ _) (by cases o.dst <;> exact hg)) hcount
def footOf (Ws:List (Nat × (Nat→Prop))) (i:Nat) (b:Nat):Prop:=∃ p ∈ Ws,p.1=i∧p.2 b
def footBut (Ws:List (Nat × (Nat→Prop))) (ops:Array Oper) (i:Nat) (b:Nat):Prop:=∃ p ∈ Ws,p.1 ≠ i∧depB ops p.1 i=false∧p.2 b
def StableF (E:Nat→Prop) (φ:Value→World→Prop):Prop:=∀ v w w',φ v w→Far E w w' → φ v w'
theorem stableF_eq (E:Nat→Prop) (c:Value):StableF E (fun v _ => v=c):=fun _ _ _ h _ => h
theorem stableF_true (E:Nat→Prop):StableF E (fun _ _ => True):=fun _ _ _ _ _ => trivial
def StableBut (ops:Array Oper) (i:Nat) (E:Nat→Prop):Nat→List (Value→World→Prop)→Prop
 | _,[] => True
 | j,φ :: r => (i=j ∨ depB ops j i=true ∨ StableF E φ)∧StableBut ops i E (j+1) r
def AllStableF (ops:Array Oper) (L:List (Value→World→Prop)):List (Nat × (Nat→Prop))→Prop
 | [] => True
 | p :: r => StableBut ops p.1 p.2 0 L∧AllStableF ops L r
theorem stableBut_get {ops:Array Oper} {i:Nat} {E:Nat→Prop}:∀ {L:List (Value→World→Prop)} {s:Nat},StableBut ops i E s L→∀ j,i ≠ s+j→depB ops (s+j) i=false→StableF E (L.getD j (fun _ _ => True))
 | [],_,_,_,_,_ => by simpa using stableF_true E
 | φ :: r,s,h,0,hne,hd => by
  rcases h.1 with h | h | h
  ·exact absurd h hne
  ·rw [Nat.add_zero] at hd;rw [hd] at h;cases h
  ·exact h
 | φ :: r,s,h,j+1,hne,hd => by
  have:=stableBut_get (L:=r) (s:=s+1) h.2 j (by omega) (by rw [show s+1+j=s+(j+1) by omega];exact hd)
  simpa using this
theorem allStableF_get {ops:Array Oper} {L:List (Value→World→Prop)}:∀ {Ws:List (Nat × (Nat→Prop))},AllStableF ops L Ws→∀ p ∈ Ws,StableBut ops p.1 p.2 0 L
 | [],_,_,hp => by cases hp
 | q :: r,h,p,hp => by
  cases hp with
  | head => exact h.1
  | tail _ hp => exact allStableF_get h.2 p hp
def onceB (Ws:List (Nat × (Nat→Prop))):Bool:=(Ws.map (·.1)).all fun i => (Ws.map (·.1)).count i == 1
theorem once_same {Ws:List (Nat × (Nat→Prop))} (h:onceB Ws=true) {p q:Nat × (Nat→Prop)} (hp:p ∈ Ws) (hq:q ∈ Ws) (e:p.1=q.1):p=q:=by
 induction Ws with
 | nil => cases hp
 | cons x r ih =>
  have hx:∀ y ∈ r,y.1 ≠ x.1:=by
   intro y hy e
   have h1:=List.all_eq_true.1 h x.1 (by simp)
   rw [beq_iff_eq,List.map_cons,List.count_cons_self] at h1
   have:(r.map (·.1)).count x.1=0:=by omega
   exact (List.count_eq_zero.1 this) (List.mem_map.2 ⟨y,hy,e⟩)
  have hr:onceB r=true:=by
   unfold onceB at h ⊢
   rw [List.all_eq_true] at h ⊢
   intro i hi
   have h1:=h i (by rw [List.map_cons];exact .tail _ hi)
   obtain ⟨y,hy,rfl⟩:=List.mem_map.1 hi
   rw [beq_iff_eq,List.map_cons,List.count_cons_of_ne (fun e => hx y hy e.symm)] at h1
   rw [beq_iff_eq];exact h1
  cases hp with
  | head =>
   cases hq with
   | head => rfl
   | tail _ hq => exact absurd e.symm (hx q hq)
  | tail _ hp =>
   cases hq with
   | head => exact absurd e (hx p hp)
   | tail _ hq => exact ih hr hp hq
def FootOps (P:Program) (ops:Array Oper) (Q:Exit→Act→World→Prop) (L:List (Value→World→Prop)) (Ws:List (Nat × (Nat→Prop))) (a0:Act) (w0:World):Nat→List Oper→List (List (Tmp × Option Nat))→List (Value→World→Prop)→Prop
 | i,o :: os,pl :: pls,φ :: φs => (∀ a w,Far (footBut Ws ops i) w0 w→PlanFacts L a0 a w pl →
   if Region.wanted o (yielded ops a.tmps)=true then o.wp P a w (fun a' w' => ∃ v,a' = a.put o.dst v∧Far (footOf Ws i) w w' ∧ φ (valOf o.dst v) w') Q else φ undef w)∧FootOps P ops Q L Ws a0 w0 (i+1) os pls φs
 | _,[],_,_ => True
 | _,_,_,_ => False
theorem footOps_get {L:List (Value→World→Prop)} {Ws:List (Nat × (Nat→Prop))} {a0:Act} {w0:World}:∀ {s:Nat} {os:List Oper} {pls:List (List (Tmp × Option Nat))} {φs:List (Value→World→Prop)},FootOps P ops Q L Ws a0 w0 s os pls φs →
  ∀ (i:Nat) o pl,os[i]? = some o→pls[i]? = some pl→∀ a w,Far (footBut Ws ops (s+i)) w0 w→PlanFacts L a0 a w pl →
   if Region.wanted o (yielded ops a.tmps)=true then o.wp P a w (fun a' w' => ∃ v,a' = a.put o.dst v∧Far (footOf Ws (s+i)) w w' ∧ φs.getD i (fun _ _ => True) (valOf o.dst v) w') Q else φs.getD i (fun _ _ => True) undef w
 | _,[],_,_,_,i,o,pl,ho,_ => by simp at ho
 | _,o :: os,[],_,h,_,_,_,_,_ => h.elim
 | _,o :: os,pl :: pls,[],h,_,_,_,_,_ => h.elim
 | _,o :: os,pl :: pls,φ :: φs,h,0,o',pl',ho,hp => by
  simp at ho hp;subst ho;subst hp
  exact h.1
 | s,o :: os,pl :: pls,φ :: φs,h,i+1,o',pl',ho,hp => by
  have:=footOps_get h.2 i o' pl' (by simpa using ho) (by simpa using hp)
  rw [show s+1+i=s+(i+1) by omega] at this
  simpa using this
def EveryWord (f:Nat→Value) (w:World):List (Option Tmp)→List (Value→World→Prop)→Prop
 | some d :: ds,φ :: φs => φ (f d) w∧EveryWord f w ds φs
 | none :: ds,φ :: φs => φ undef w∧EveryWord f w ds φs
 | _,_ => True
theorem everyWord_of {f:Nat→Value} {w:World}:∀ {os:List Oper} {L:List (Value→World→Prop)},(∀ i o,os[i]? = some o→L.getD i (fun _ _ => True) (match o.dst with | some d => f d | none => undef) w)→EveryWord f w (os.map (·.dst)) L
 | [],_,_ => by simp [EveryWord]
 | o :: os,[],_ => by cases h:o.dst <;> simp [EveryWord,h]
 | o :: os,φ :: φs,h => by
  have ih:=everyWord_of (os:=os) (L:=φs) (fun i o' ho => by have:=h (i+1) o' (by simpa using ho);simpa using this)
  have h0:=h 0 o rfl
  cases hd:o.dst with
  | none => rw [hd] at h0;simpa [EveryWord,hd] using ⟨h0,ih⟩
  | some d => rw [hd] at h0;simpa [EveryWord,hd] using ⟨h0,ih⟩
theorem footBut_no {Ws:List (Nat × (Nat→Prop))} {ops:Array Oper} {i k:Nat} (h:∀ p ∈ Ws,¬ p.2 k):¬ footBut Ws ops i k:=fun ⟨p,hp,_,_,h3⟩ => h p hp h3
theorem foot_below {Ws:List (Nat × (Nat→Prop))} {ops:Array Oper} {i:Nat} {w z:World} (h:Far (footBut Ws ops i) w z) (hd:∀ p ∈ Ws,depB ops p.1 i=true):Below w.heap.size w z :=
 h.below (Nat.le_refl _) (fun _ _ ⟨p,hp,_,h2,_⟩ => by rw [hd p hp] at h2;cases h2)
theorem footOf_of {Ws:List (Nat × (Nat→Prop))} {i:Nat} {E:Nat→Prop} {w w':World} (hp:(i,E) ∈ Ws) (h:Far E w w'):Far (footOf Ws i) w w':=h.mono (fun _ _ hb => ⟨(i,E),hp,rfl,hb⟩)
theorem wp_region_foot {id:Nat} {a0:Act} {w0:World} (hm:P.follows .mixedOrders=true) (L:List (Value→World→Prop)) (plan:List (List (Tmp × Option Nat))) (D:List (Option Tmp)) (M:List Bool) (Ws:List (Nat × (Nat→Prop)))
  (hon:onceB Ws=true) (hok:monoOk ops a0.tmps.size=true) (hplan:planOf ops=plan) (hD:dstsOf ops=D) (hM:maskOf ops a0.tmps.size=M) (hst:AllStable L) (hstF:AllStableF ops L Ws) (hop:FootOps P ops Q L Ws a0 w0 0 ops.toList plan L)
  (hend:∀ f w,Far (fun b => ∃ p ∈ Ws,p.2 b) w0 w→EveryWord f w D L→Q .normal { tmps:=(mergeT M a0.tmps.toList 0 f).toArray,defers:=a0.defers } w) :
  (Code.region id ops true).wp P Q a0 w0:=by
 refine wp_region_any hm (mono_foot (w0:=w0) (fun i => L.getD i (fun _ _ => True)) (footOf Ws) hok ?_ ?_ ?_ ops.size _ a0 _ ⟨by simp,far_below ((Below.refl _ _).drew),?_,?_,fun _ _ => rfl,rfl,rfl⟩ ?_)
 ·intro i j v w w' hij hd hv hF
  by_cases hi:∃ p ∈ Ws,p.1=i
  ·obtain ⟨p,hp,rfl⟩:=hi
   have hs:=stableBut_get (allStableF_get hstF p hp) j (by omega) (by rw [Nat.zero_add];exact hd)
   exact hs v w w' hv (hF.mono (fun b _ h => by
    obtain ⟨q,hq,e,hb⟩:=h
    rw [once_same hon hp hq e.symm];exact hb))
  ·exact allStable_get hst j v w w' hv (hF.below (Nat.le_refl _) (fun k _ h => by
    obtain ⟨q,hq,e,_⟩:=h
    exact hi ⟨q,hq,e⟩))
 ·intro i o ho a w hb hg
  have hlt:i < ops.size:=(Array.getElem?_eq_some_iff.1 ho).1
  have hpl:plan[i]? = some ((o.looksAt ops).map fun t => (t,match wr ops t with
     | some j => if depB ops i j=true then some j else none
     | none => none)):=by
   rw [← hplan]
   unfold planOf
   rw [List.getElem?_map,List.getElem?_range hlt,Option.map_some,ho]
   try rfl
  have:=footOps_get hop i o _ (by simpa using ho) hpl a w (by
   rw [Nat.zero_add]
   exact hb.mono (fun b _ h => by
    obtain ⟨k,h1,h2,p,hp,rfl,h3⟩:=h
    exact ⟨p,hp,h1,h2,h3⟩)) (planFacts_of rfl (o:=o) _ hg)
  rw [Nat.zero_add] at this
  exact this
 ·intro a w hb hv hr hd hs
  have h:=hend (fun t => a.tmps.getD t undef) w (hb.mono (fun b _ h => by
   obtain ⟨k,p,hp,_,h3⟩:=h
   exact ⟨p,hp,h3⟩)) (by rw [← hD];exact everyWord_of (fun i o ho => hv i o (by simpa using ho)))
  have e:mergeT M a0.tmps.toList 0 (fun t => a.tmps.getD t undef)=a.tmps.toList:=by
   refine mergeT_eq _ _ _ _ _ (by rw [← hM];simp [maskOf]) (by simpa using hs) ?_ ?_
   ·intro j hj _
    simp [Array.getD_eq_getD_getElem?,List.getD_eq_getElem?_getD]
   ·intro j hj hb
    rw [← hM] at hb
    have hj':j < a0.tmps.size:=by rw [← hs];simpa using hj
    have hw:wr ops j=none:=by
     unfold maskOf at hb
     simp [List.getD_eq_getElem?_getD,List.getElem?_map,List.getElem?_range hj'] at hb
     exact hb
    have:=hr j hw
    simpa [Array.getD_eq_getD_getElem?,List.getD_eq_getElem?_getD] using this
  rw [e,← hd] at h
  exact h
 ·intro k hk
  simp [Array.getD_eq_getD_getElem?] at hk
  rcases h:(Array.replicate ops.size false)[k]? with _ | b <;> simp [h] at hk
  subst hk
  have:=Array.getElem?_eq_some_iff.1 h
  obtain ⟨h1,h2⟩:=this
  simp at h2
 ·intro i o ho hk
  exfalso
  simp [Array.getD_eq_getD_getElem?] at hk
  rcases h:(Array.replicate ops.size false)[i]? with _ | b <;> simp [h] at hk
  subst hk
  have:=Array.getElem?_eq_some_iff.1 h
  obtain ⟨h1,h2⟩:=this
  simp at h2
 ·exact Nat.le_trans List.countP_le_length (by simp)
end
end Go.Proofs.YtamafdcnbcoegabGreat
