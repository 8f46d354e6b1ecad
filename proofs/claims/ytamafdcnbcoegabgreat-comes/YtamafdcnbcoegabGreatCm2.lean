/-
  Part 2 of a proof: Mono, R1, R3, H1, H2, H3, H4, H6, H10, X1, D2, D3, D5, D4.
-/
import Derived.Below
import Derived.Orders
import Derived.Laws.ResultCell
import Derived.Deep.RegionHeld3
import Derived.Laws.CopyOwn
import Derived.DeepKeys
import Derived.Laws.StructEq
import Derived.Test.YtamafdcnbcoegabGreatCm1
set_option maxRecDepth 100000
set_option maxHeartbeats 40000000
namespace Go.Proofs.YtamafdcnbcoegabGreat
open Go.RowKit
theorem hao (w:World) (o:Obj) {r:Nat} (h:r < w.heap.size):(w.alloc o).heap[r]? =w.heap[r]? :=by
 show(w.heap.push o)[r]? = _;rw[Array.getElem?_push_lt h,Array.getElem?_eq_getElem h]
def wr (r:Array Oper) (t:Tmp):Option Nat:=(List.range r.size).find? fun j=>((r[j]?).bind (·.dst)) ==some t
def av' (r:Array Oper) (i j:Nat):Bool:=match r[i]? with
 |some o=>o.after.any fun e=>Region.binds .any e&&e.on==j
 |none=>false
def bz' (r:Array Oper) (size:Nat):Bool:=
 Region.noSelect r&& (List.range r.size).all fun i=>match r[i]? with
  |none=>false
  |some o=>(match o.dst with
    |none=>true
    |some d=>decide (d < size) &&wr r d==some i)
   && ((o.looksAt r).all fun t=>match wr r t with
    |none=>true
    |some j=>av' r i j||av' r j i)
   &&o.after.all fun e=> !Region.binds .any e||decide (e.on < i)
theorem cj' {G:Type} {p q:G->Bool}:∀ {l:List G},(∀x∈l,q x=true->p x=true)->(∃x∈l,p x=true/\q x=false)->l.countP q < l.countP p
 |[],_,⟨_,h,_⟩=>by cases h
 |y::l,h,⟨x,r,h1,h2⟩=>by
  have H:l.countP q<=l.countP p:=List.countP_mono_left (fun z D=>h z (List.mem_cons_of_mem _ D));rcases List.mem_cons.1 r with rfl|r
  ·rw[List.countP_cons_of_pos h1,List.countP_cons_of_neg (by simp[h2])];omega
  ·have ih:=cj' (fun z D=>h z (List.mem_cons_of_mem _ D)) ⟨x,r,h1,h2⟩;by_cases F:q y=true
   ·rw[List.countP_cons_of_pos F,List.countP_cons_of_pos (h y (List.mem_cons_self ..) F)];omega
   ·rw[List.countP_cons_of_neg F];have:List.countP p (y::l)=l.countP p+if p y=true then 1 else 0:=by rw[List.countP_cons]
    rw[this];split <;> omega
section
variable {P:Program} {ops:Array Oper} {Q:Exit->Act->World->Prop}
def bw' (ops:Array Oper) (r:Nat->Value->World->Prop) (a0:Act) (i:Nat) (o:Oper) (a:Act) (w:World):Prop:=
 ∀t∈o.looksAt ops,match wr ops t with
  |some j=>if av' ops i j=true then r j (a.tmps.getD t undef) w else a.tmps.getD t undef=a0.tmps.getD t undef
  |none=>a.tmps.getD t undef=a0.tmps.getD t undef
structure bx' (ops:Array Oper) (Φ:Nat->Value->World->Prop) (a0:Act) (w0:World) (L:Array Bool) (a:Act) (w:World):Prop where
 size:L.size=ops.size
 ext:Below w0.heap.size w0 w
 closed:∀k,L.getD k false=true->∀j,av' ops k j=true->L.getD j false=true
 vals:∀i o d,ops[i]? =some o->o.dst=some d->L.getD i false=true->Φ i (a.tmps.getD d undef) w
 rest:∀t,(∀j,wr ops t=some j->L.getD j false=false)->a.tmps.getD t undef=a0.tmps.getD t undef
 defers:a.defers=a0.defers
 tsize:a.tmps.size=a0.tmps.size
theorem al' {size:Nat} (h:bz' ops size=true) {i:Nat} {o:Oper} (r:ops[i]? =some o):
  (∀d,o.dst=some d->d < size/\wr ops d=some i)/\(∀t∈o.looksAt ops,∀j,wr ops t=some j->av' ops i j=true\/av' ops j i=true)/\(∀j,av' ops i j=true->j < i):=by
 unfold bz' at h;rw[Bool.and_eq_true]at h;have hi:i < ops.size:=(Array.getElem?_eq_some_iff.1 r).1;have h1:=List.all_eq_true.1 h.2 i (List.mem_range.2 hi);simp only[r,Bool.and_eq_true]at h1;obtain⟨⟨h1,h2⟩,h3⟩:=h1;refine⟨fun d hd=>?_,fun t D j hj=>?_,fun j hj=>?_⟩
 ·rw[hd]at h1;simp only[Bool.and_eq_true,decide_eq_true_eq,beq_iff_eq]at h1;exact h1
 ·have:=List.all_eq_true.1 h2 t D;rw[hj]at this;simpa using this
 ·unfold av' at hj;rw[r]at hj;obtain⟨e,F,z⟩:=Array.any_eq_true'.1 hj;simp only[Bool.and_eq_true,beq_iff_eq]at z;have:=Array.all_eq_true_iff_forall_mem.1 h3 e F;simp[z.1]at this;omega
theorem uF' {a0:Act} {w0:World} (F:Nat->Value->World->Prop) (Y:bz' ops a0.tmps.size=true)
  (aA:∀i v w w',F i v w->Below w.heap.size w w'->F i v w')
  (aB:∀i o,ops[i]? =some o->∀a w,Below w0.heap.size w0 w->bw' ops F a0 i o a w->
   if Region.wanted o (yielded ops a.tmps)=true then o.wp P a w (fun a' w'=>∃v,a'=a.put o.dst v/\Below w.heap.size w w'/\F i v w') Q else F i undef w)
  (aC:∀a w,Below w0.heap.size w0 w->(∀i o d,ops[i]? =some o->o.dst=some d->F i (a.tmps.getD d undef) w)->(∀t,wr ops t=none->a.tmps.getD t undef=a0.tmps.getD t undef)->a.defers=a0.defers->a.tmps.size=a0.tmps.size->Q .normal a w):
  ∀ (J:Nat) (L:Array Bool) (a:Act) (w:World),bx' ops F a0 w0 L a w->(List.range ops.size).countP (fun i=> !L.getD i false)<=J->wpAny P .any ops Q J L a w:=by
 have ao:∀ (L:Array Bool) (a:Act) (w:World),bx' ops F a0 w0 L a w->Region.ready .any ops L=[]->Q .normal a w:=by
  intro L a w r U;have aD:∀n i,i < n->i < ops.size->L.getD i false=true:=by
   intro n;induction n with
   |zero=>intro i h;omega
   |succ n ih=>
    intro i h hi;by_cases aE:i < n
    ·exact ih i aE hi
    ·have e:i=n:=by omega
     subst e;cases ap:L.getD i false
     ·exfalso;have D:ops[i]? =some ops[i]:=Array.getElem?_eq_getElem hi;obtain⟨_,_,h3⟩:=al' Y D;have:i∈Region.ready .any ops L:=mem_ready.2 ⟨by
       have hs:i < L.size:=by rw[r.size];exact hi
       rw[Array.getD_eq_getD_getElem?,Array.getElem?_eq_getElem hs]at ap ⊢;exact ap,ops[i],D,fun e Z G=>by
       have hd:av' ops i e.on=true:=by unfold av';rw[D];exact Array.any_eq_true'.2 ⟨e,Z,by simp[G]⟩
       have I:=h3 _ hd;exact ih e.on I (by omega)⟩
      rw[U]at this;cases this
     ·rfl
  refine aC a w r.ext (fun i o d D hd=>r.vals i o d D hd (aD ops.size i (Array.getElem?_eq_some_iff.1 D).1 (Array.getElem?_eq_some_iff.1 D).1)) (fun t M=>r.rest t (fun j hj=>by rw[M]at hj;cases hj)) r.defers r.tsize
 intro J;induction J with
 |zero=>
  intro L a w r aF;have U:Region.ready .any ops L=[]:=by
   apply List.eq_nil_iff_forall_not_mem.2;intro i hi;obtain⟨h0,o,D,_⟩:=mem_ready.1 hi;have I:i < ops.size:=(Array.getElem?_eq_some_iff.1 D).1;have O:L.getD i false=false:=by
    have hs:i < L.size:=by rw[r.size];exact I
    rw[Array.getD_eq_getD_getElem?,Array.getElem?_eq_getElem hs]at h0 ⊢;exact h0
   have:0 < (List.range ops.size).countP (fun i=> !L.getD i false):=List.countP_pos_iff.2 ⟨i,List.mem_range.2 I,by simp[O]⟩;omega
  exact⟨U,ao L a w r U⟩
 |succ J ih=>
  intro L a w r aF;refine⟨ao L a w r,fun i hi=>?_⟩;obtain⟨h0,o,D,aG⟩:=mem_ready.1 hi;have I:i < ops.size:=(Array.getElem?_eq_some_iff.1 D).1;have aa:i < L.size:=by rw[r.size];exact I
  have O:L.getD i false=false:=by rw[Array.getD_eq_getD_getElem?,Array.getElem?_eq_getElem aa]at h0 ⊢;exact h0
  obtain⟨hd,hl,aL⟩:=al' Y D;have aq:∀j,av' ops i j=true->L.getD j false=true:=by intro j hj;unfold av' at hj;rw[D]at hj;obtain⟨e,Z,G⟩:=Array.any_eq_true'.1 hj;simp only[Bool.and_eq_true,beq_iff_eq]at G;rw[<-G.2];exact aG e Z G.1
  have aH:bw' ops F a0 i o a w:=by
   intro t M;cases H:wr ops t with
   |none=>exact r.rest t (fun j hj=>by rw[H]at hj;cases hj)
   |some j=>
    simp only[];have hj:=List.find?_some H;simp only[beq_iff_eq]at hj;split
    ·rename_i ab;cases ac:ops[j]? with
     |none=>rw[ac]at hj;cases hj
     |some aI=>rw[ac]at hj;exact r.vals j aI t ac hj (aq j ab)
    ·rename_i ab;refine r.rest t (fun aM au=>?_);rw[H]at au;cases au;rcases hl t M j H with h|h
     ·exact absurd h ab
     ·cases ad:L.getD j false
      ·rfl
      ·have:=r.closed j ad i h;rw[O]at this;cases this
  have av:∀v w',Below w.heap.size w w'->F i v w'->bx' ops F a0 w0 (L.setIfInBounds i true) (a.put o.dst v) w':=by
   intro v w' G ah;have V:∀k,(L.setIfInBounds i true).getD k false=true↔ (k=i\/L.getD k false=true):=by
    intro k;by_cases z:k=i
    ·subst z;simp[Array.getD_eq_getD_getElem?,aa]
    ·rw[getD_set_ne false (fun e=>z e.symm)];simp[z]
   have ax:∀t,(a.put o.dst v).tmps.getD t undef=if o.dst=some t then v else a.tmps.getD t undef:=by
    intro t;cases aJ:o.dst with
    |none=>simp[Act.put]
    |some d=>
     simp only[Act.put,Option.some.injEq];have aK:d < a.tmps.size:=by rw[r.tsize];exact(hd d aJ).1
     by_cases h:d=t
     ·subst h;simp[Array.getD_eq_getD_getElem?,aK]
     ·simp[Array.getD_eq_getD_getElem?,h]
   refine⟨by simp[r.size],r.ext.trans (G.mono r.ext.size),?_,?_,?_,?_,?_⟩
   ·intro k z j hj;rw[V]at z ⊢;rcases z with rfl|z
    ·exact .inr (aq j hj)
    ·exact .inr (r.closed k z j hj)
   ·intro k ok d X ai z;rw[V]at z;rw[ax];rcases z with rfl|z
    ·rw[D]at X;cases X;rw[if_pos ai];exact ah
    ·have aj:o.dst≠some d:=by intro e;have h1:=(hd d e).2;have h2:=((al' Y X).1 d ai).2;rw[h1]at h2;cases h2;rw[O]at z;cases z
     rw[if_neg aj];exact aA k _ _ _ (r.vals k ok d X ai z) G
   ·intro t M;rw[ax];have aj:o.dst≠some t:=by intro e;have:=M i (hd t e).2;have h2:=(V i).2 (.inl rfl);rw[this]at h2;cases h2
    rw[if_neg aj];refine r.rest t (fun j hj=>?_);cases ad:L.getD j false
    ·rfl
    ·have:=M j hj;rw[(V j).2 (.inr ad)]at this;cases this
   ·cases o.dst <;> exact r.defers
   ·rw[<-r.tsize];cases o.dst <;> simp[Act.put]
  have ay:(List.range ops.size).countP (fun k=> !(L.setIfInBounds i true).getD k false)<=J:=by
   have:=cj' (l:=List.range ops.size) (p:=fun k=> !L.getD k false) (q:=fun k=> !(L.setIfInBounds i true).getD k false)
    (fun k _ z=>by
     by_cases az:k=i
     ·subst az;simp[O]
     ·rw[getD_set_ne false (fun e=>az e.symm)]at z;exact z)
    ⟨i,List.mem_range.2 I,by simp[O],by simp[Array.getD_eq_getD_getElem?,aa]⟩
   omega
  have ak:=aB i o D a w r.ext aH;unfold wpOp;rw[D];simp only[];split at ak
  ·rename_i H;rw[if_pos H];refine .inl (Oper.wp_mono ?_ ak);rintro a' w' ⟨v,rfl,G,ah⟩;exact ih _ _ _ (av v w' G ah) ay
  ·rename_i H;rw[if_neg H];exact ih _ _ _ (av undef w (Below.refl _ _) ak) ay
def eU' (ops:Array Oper) (last:Nat):Bool:=(List.range last).all fun i=>(List.range (last+1)).any fun k=>av' ops k i
theorem mq' {a0:Act} {w0:World} (D:Nat->Value->World->Prop) (Y:bz' ops a0.tmps.size=true) (last:Nat) (bb:ops.size=last+1) (au:eU' ops last=true)
  (aH:∀i v w w',D i v w->Below w.heap.size w w'->D i v w')
  (aI:∀i o,i < last->ops[i]? =some o->∀a w,Below w0.heap.size w0 w->bw' ops D a0 i o a w->
   if Region.wanted o (yielded ops a.tmps)=true then o.wp P a w (fun a' w'=>∃v,a'=a.put o.dst v/\Below w.heap.size w w'/\D i v w') Q else D i undef w)
  (aJ:∀a w,Below w0.heap.size w0 w->(∀i o d,i < last->ops[i]? =some o->o.dst=some d->D i (a.tmps.getD d undef) w)->(∀t,(∀j,wr ops t=some j->j=last)->a.tmps.getD t undef=a0.tmps.getD t undef)->a.defers=a0.defers->a.tmps.size=a0.tmps.size->wpOp P ops Q last (Q .normal) a w):
  ∀ (M:Nat) (L:Array Bool) (a:Act) (w:World),bx' ops D a0 w0 L a w->L.getD last false=false->(List.range ops.size).countP (fun i=> !L.getD i false)<=M->wpAny P .any ops Q M L a w:=by
 have aK:∀ (L:Array Bool) (a:Act) (w:World),bx' ops D a0 w0 L a w->L.getD last false=false->Region.ready .any ops L=[]->False:=by
  intro L a w r I aL;have Z:∀n i,i < n->i < ops.size->L.getD i false=true:=by
   intro n;induction n with
   |zero=>intro i h;omega
   |succ n ih=>
    intro i h hi;by_cases aM:i < n
    ·exact ih i aM hi
    ·have e:i=n:=by omega
     subst e;cases av:L.getD i false
     ·exfalso;have F:ops[i]? =some ops[i]:=Array.getElem?_eq_getElem hi;obtain⟨_,_,h3⟩:=al' Y F;have:i∈Region.ready .any ops L:=mem_ready.2 ⟨by
       have hs:i < L.size:=by rw[r.size];exact hi
       rw[Array.getD_eq_getD_getElem?,Array.getElem?_eq_getElem hs]at av ⊢;exact av,ops[i],F,fun e ad G=>by
       have hd:av' ops i e.on=true:=by unfold av';rw[F];exact Array.any_eq_true'.2 ⟨e,ad,by simp[G]⟩
       have U:=h3 _ hd;exact ih e.on U (by omega)⟩
      rw[aL]at this;cases this
     ·rfl
  have:=Z ops.size last (by omega) (by omega);rw[I]at this;cases this
 have aN:∀ (L:Array Bool) (a:Act) (w:World),bx' ops D a0 w0 L a w->(∀j,av' ops last j=true->L.getD j false=true)->∀n i,last<=i+n->i < last->L.getD i false=true:=by
  intro L a w r V n;induction n with
  |zero=>intro i h hi;omega
  |succ n ih=>
   intro i h hi;unfold eU' at au;have h1:=List.all_eq_true.1 au i (List.mem_range.2 hi);obtain⟨k,z,hd⟩:=List.any_eq_true.1 h1;have bc:k < last+1:=List.mem_range.1 z;by_cases aO:k=last
   ·subst aO;exact V i hd
   ·have U:i < k:=by
     unfold av' at hd;cases J:ops[k]? with
     |none=>rw[J]at hd;cases hd
     |some ok=>obtain⟨_,_,h3⟩:=al' Y J;exact h3 i (by unfold av';exact hd)
    exact r.closed k (ih k (by omega) (by omega)) i hd
 intro M;induction M with
 |zero=>intro L a w r I aP;have:0 < (List.range ops.size).countP (fun i=> !L.getD i false):=List.countP_pos_iff.2 ⟨last,List.mem_range.2 (by omega),by simp only[I];rfl⟩;omega
 |succ M ih=>
  intro L a w r I aP;refine⟨fun h=>(aK L a w r I h).elim,fun i hi=>?_⟩;obtain⟨h0,o,F,aQ⟩:=mem_ready.1 hi;have U:i < ops.size:=(Array.getElem?_eq_some_iff.1 F).1;have aa:i < L.size:=by rw[r.size];exact U
  have ab:L.getD i false=false:=by rw[Array.getD_eq_getD_getElem?,Array.getElem?_eq_getElem aa]at h0 ⊢;exact h0
  obtain⟨hd,hl,be⟩:=al' Y F;have V:∀j,av' ops i j=true->L.getD j false=true:=by intro j hj;unfold av' at hj;rw[F]at hj;obtain⟨e,ad,G⟩:=Array.any_eq_true'.1 hj;simp only[Bool.and_eq_true,beq_iff_eq]at G;rw[<-G.2];exact aQ e ad G.1
  by_cases ax:i=last
  ·subst ax;have Z:=aN L a w r V i;refine wpOp_mono ?_ (aJ a w r.ext (fun j aR d hj aS aT=>r.vals j aR d aS aT (Z j (by omega) hj)) (fun t O=>r.rest t (fun j hj=>by rw[O j hj];exact I)) r.defers r.tsize);intro a' w' aU;refine wpAny_done ?_ aU _;apply List.eq_nil_iff_forall_not_mem.2;intro j hj;obtain⟨ay,az,X,_⟩:=mem_ready.1 hj;have aV:j < ops.size:=(Array.getElem?_eq_some_iff.1 X).1;have aW:j < L.size:=by rw[r.size];exact aV
   have ah:(L.setIfInBounds i true).getD j false=false:=by rw[Array.getD_eq_getD_getElem?,Array.getElem?_eq_getElem (by simpa using aW)]at ay ⊢;exact ay
   by_cases aA:j=i
   ·subst aA;simp[Array.getD_eq_getD_getElem?,aa]at ah
   ·rw[getD_set_ne false (fun e=>aA e.symm),Z j (by omega) (by omega)]at ah;cases ah
  have aX:i < last:=by omega
  have aY:bw' ops D a0 i o a w:=by
   intro t O;cases H:wr ops t with
   |none=>exact r.rest t (fun j hj=>by rw[H]at hj;cases hj)
   |some j=>
    simp only[];have hj:=List.find?_some H;simp only[beq_iff_eq]at hj;split
    ·rename_i ai;cases X:ops[j]? with
     |none=>rw[X]at hj;cases hj
     |some az=>rw[X]at hj;exact r.vals j az t X hj (V j ai)
    ·rename_i ai;refine r.rest t (fun bf aB=>?_);rw[H]at aB;cases aB;rcases hl t O j H with h|h
     ·exact absurd h ai
     ·cases aj:L.getD j false
      ·rfl
      ·have:=r.closed j aj i h;rw[ab]at this;cases this
  have aC:∀v w',Below w.heap.size w w'->D i v w'->bx' ops D a0 w0 (L.setIfInBounds i true) (a.put o.dst v) w':=by
   intro v w' G ak;have ac:∀k,(L.setIfInBounds i true).getD k false=true↔ (k=i\/L.getD k false=true):=by
    intro k;by_cases z:k=i
    ·subst z;simp[Array.getD_eq_getD_getElem?,aa]
    ·rw[getD_set_ne false (fun e=>z e.symm)];simp[z]
   have aD:∀t,(a.put o.dst v).tmps.getD t undef=if o.dst=some t then v else a.tmps.getD t undef:=by
    intro t;cases aZ:o.dst with
    |none=>simp[Act.put]
    |some d=>
     simp only[Act.put,Option.some.injEq];have ba:d < a.tmps.size:=by rw[r.tsize];exact(hd d aZ).1
     by_cases h:d=t
     ·subst h;simp[Array.getD_eq_getD_getElem?,ba]
     ·simp[Array.getD_eq_getD_getElem?,h]
   refine⟨by simp[r.size],r.ext.trans (G.mono r.ext.size),?_,?_,?_,?_,?_⟩
   ·intro k z j hj;rw[ac]at z ⊢;rcases z with rfl|z
    ·exact .inr (V j hj)
    ·exact .inr (r.closed k z j hj)
   ·intro k ok d J ao z;rw[ac]at z;rw[aD];rcases z with rfl|z
    ·rw[F]at J;cases J;rw[if_pos ao];exact ak
    ·have ap:o.dst≠some d:=by intro e;have h1:=(hd d e).2;have h2:=((al' Y J).1 d ao).2;rw[h1]at h2;cases h2;rw[ab]at z;cases z
     rw[if_neg ap];exact aH k _ _ _ (r.vals k ok d J ao z) G
   ·intro t O;rw[aD];have ap:o.dst≠some t:=by intro e;have:=O i (hd t e).2;have h2:=(ac i).2 (.inl rfl);rw[this]at h2;cases h2
    rw[if_neg ap];refine r.rest t (fun j hj=>?_);cases aj:L.getD j false
    ·rfl
    ·have:=O j hj;rw[(ac j).2 (.inr aj)]at this;cases this
   ·cases o.dst <;> exact r.defers
   ·rw[<-r.tsize];cases o.dst <;> simp[Act.put]
  have aE:(List.range ops.size).countP (fun k=> !(L.setIfInBounds i true).getD k false)<=M:=by
   have:=cj' (l:=List.range ops.size) (p:=fun k=> !L.getD k false) (q:=fun k=> !(L.setIfInBounds i true).getD k false)
    (fun k _ z=>by
     by_cases aF:k=i
     ·subst aF;simp[ab]
     ·rw[getD_set_ne false (fun e=>aF e.symm)]at z;exact z)
    ⟨i,List.mem_range.2 U,by simp[ab],by simp[Array.getD_eq_getD_getElem?,aa]⟩
   omega
  have aG:(L.setIfInBounds i true).getD last false=false:=by rw[getD_set_ne false ax];exact I
  have aq:=aI i o aX F a w r.ext aY;unfold wpOp;rw[F];simp only[];split at aq
  ·rename_i H;rw[if_pos H];refine .inl (Oper.wp_mono ?_ aq);rintro a' w' ⟨v,rfl,G,ak⟩;exact ih _ _ _ (aC v w' G ak) aG aE
  ·rename_i H;rw[if_neg H];exact ih _ _ _ (aC undef w (Below.refl _ _) aq) aG aE
theorem kJ' {id:Nat} {a0:Act} {w0:World} (D:P.follows .mixedOrders=true) (r:Nat->Value->World->Prop) (F:bz' ops a0.tmps.size=true)
  (G:∀i v w w',r i v w->Below w.heap.size w w'->r i v w')
  (H:∀i o,ops[i]? =some o->∀a w,Below w0.heap.size w0 w->bw' ops r a0 i o a w->
   if Region.wanted o (yielded ops a.tmps)=true then o.wp P a w (fun a' w'=>∃v,a'=a.put o.dst v/\Below w.heap.size w w'/\r i v w') Q else r i undef w)
  (I:∀a w,Below w0.heap.size w0 w->(∀i o d,ops[i]? =some o->o.dst=some d->r i (a.tmps.getD d undef) w)->(∀t,wr ops t=none->a.tmps.getD t undef=a0.tmps.getD t undef)->a.defers=a0.defers->a.tmps.size=a0.tmps.size->Q .normal a w):
  (Code.region id ops true).wp P Q a0 w0:=by
 refine wp_region_any D (uF' (w0:=w0) r F G H I ops.size _ a0 _ ⟨by simp,(Below.refl _ _).drew,?_,?_,fun _ _=>rfl,rfl,rfl⟩ ?_)
 ·intro k z;simp[Array.getD_eq_getD_getElem?]at z;rcases h:(Array.replicate ops.size false)[k]? with _|b <;> simp[h]at z;subst z;have:=Array.getElem?_eq_some_iff.1 h;obtain⟨h1,h2⟩:=this;simp at h2
 ·intro i o d J hd z;exfalso;simp[Array.getD_eq_getD_getElem?]at z;rcases h:(Array.replicate ops.size false)[i]? with _|b <;> simp[h]at z;subst z;have:=Array.getElem?_eq_some_iff.1 h;obtain⟨h1,h2⟩:=this;simp at h2
 ·exact Nat.le_trans List.countP_le_length (by simp)
def bZ' (ops:Array Oper):List (List (Tmp×Option Nat)):=
 (List.range ops.size).map fun i=>match ops[i]? with
  |some o=>(o.looksAt ops).map fun t=>(t,match wr ops t with
    |some j=>if av' ops i j=true then some j else none
    |none=>none)
  |none=>[]
def M' (L:List (Value->World->Prop)) (a0 a:Act) (w:World):List (Tmp×Option Nat)->Prop
 |[]=>True
 |(t,some j)::r=>L.getD j (fun _ _=>True) (a.tmps.getD t undef) w/\M' L a0 a w r
 |(t,none)::r=>a.tmps.getD t undef=a0.tmps.getD t undef/\M' L a0 a w r
def gj' (P:Program) (ops:Array Oper) (Q:Exit->Act->World->Prop) (L:List (Value->World->Prop)) (a0:Act) (w0:World):List Oper->List (List (Tmp×Option Nat))->List (Value->World->Prop)->Prop
 |o::os,z::D,r::F=>(∀a w,Below w0.heap.size w0 w->M' L a0 a w z->
   if Region.wanted o (yielded ops a.tmps)=true then o.wp P a w (fun a' w'=>∃v,a'=a.put o.dst v/\Below w.heap.size w w'/\r v w') Q else r undef w)/\gj' P ops Q L a0 w0 os D F
 |[],_,_=>True
 | _,_,_=>False
def bL' (r:Value->World->Prop):Prop:=∀v w w',r v w->Below w.heap.size w w'->r v w'
theorem O' (c:Value):bL' (fun v _=>v=c):=fun _ _ _ h _=>h
theorem X':bL' (fun _ _=>True):=fun _ _ _ _ _=>trivial
def bD':List (Value->World->Prop)->Prop
 |[]=>True
 |r::z=>bL' r/\bD' z
theorem bo' {L:List (Value->World->Prop)} (h:bD' L) (i:Nat):bL' (L.getD i (fun _ _=>True)):=by
 induction L generalizing i with
 |nil=>exact X'
 |cons r z ih=>
  cases i with
  |zero=>exact h.1
  |succ i=>exact ih h.2 i
theorem bk' {r:Nat->Value->World->Prop} {L:List (Value->World->Prop)} (z:r=fun i=>L.getD i (fun _ _=>True)) {a0 a:Act} {w:World} {i:Nat} {o:Oper}:
  ∀ (l:List Tmp),(∀t∈l,match wr ops t with
   |some j=>if av' ops i j=true then r j (a.tmps.getD t undef) w else a.tmps.getD t undef=a0.tmps.getD t undef
   |none=>a.tmps.getD t undef=a0.tmps.getD t undef)->
  M' L a0 a w (l.map fun t=>(t,match wr ops t with
    |some j=>if av' ops i j=true then some j else none
    |none=>none))
 |[],_=>trivial
 |t::l,h=>by
  have h1:=h t (List.mem_cons_self ..);have h2:=bk' z (o:=o) l (fun t F=>h t (List.mem_cons_of_mem _ F));simp only[List.map_cons];cases D:wr ops t with
  |none=>rw[D]at h1;exact⟨h1,h2⟩
  |some j=>
   rw[D]at h1;simp only[]at h1 ⊢;split
   ·rename_i hd;rw[if_pos hd,z]at h1;exact⟨h1,h2⟩
   ·rename_i hd;rw[if_neg hd]at h1;exact⟨h1,h2⟩
theorem ei' {L:List (Value->World->Prop)} {a0:Act} {w0:World}:∀ {os:List Oper} {D:List (List (Tmp×Option Nat))} {F:List (Value->World->Prop)},gj' P ops Q L a0 w0 os D F->
  ∀ (i:Nat) o r,os[i]? =some o->D[i]? =some r->∀a w,Below w0.heap.size w0 w->M' L a0 a w r->
   if Region.wanted o (yielded ops a.tmps)=true then o.wp P a w (fun a' w'=>∃v,a'=a.put o.dst v/\Below w.heap.size w w'/\F.getD i (fun _ _=>True) v w') Q else F.getD i (fun _ _=>True) undef w
 |[],_,_,_,i,o,r,z,_=>by simp at z
 |o::os,[],_,h,_,_,_,_,_=>h.elim
 |o::os,r::D,[],h,_,_,_,_,_=>h.elim
 |o::os,r::D,I::F,h,0,H,pl',z,G=>by simp at z G;subst z;subst G;exact h.1
 |o::os,r::D,I::F,h,i+1,H,pl',z,G=>ei' h.2 i H pl' (by simpa using z) (by simpa using G)
theorem km' {id:Nat} {a0:Act} {w0:World} (D:P.follows .mixedOrders=true) (L:List (Value->World->Prop)) (r:List (List (Tmp×Option Nat))) (F:bz' ops a0.tmps.size=true)
  (G:bZ' ops=r) (H:bD' L) (I:gj' P ops Q L a0 w0 ops.toList r L)
  (J:∀a w,Below w0.heap.size w0 w->(∀i o d,ops[i]? =some o->o.dst=some d->L.getD i (fun _ _=>True) (a.tmps.getD d undef) w)->(∀t,wr ops t=none->a.tmps.getD t undef=a0.tmps.getD t undef)->a.defers=a0.defers->a.tmps.size=a0.tmps.size->Q .normal a w):
  (Code.region id ops true).wp P Q a0 w0:=by
 refine kJ' D (fun i=>L.getD i (fun _ _=>True)) F (fun i=>bo' H i) ?_ J;intro i o z a w M O;have U:i < ops.size:=(Array.getElem?_eq_some_iff.1 z).1;have V:r[i]? =some ((o.looksAt ops).map fun t=>(t,match wr ops t with
    |some j=>if av' ops i j=true then some j else none
    |none=>none)):=by
  rw[<-G];unfold bZ';rw[List.getElem?_map,List.getElem?_range U,Option.map_some,z]
 exact ei' I i o _ (by simpa using z) V a w M (bk' rfl (o:=o) _ O)
def bl' (ops:Array Oper) (n:Nat):List Bool:=(List.range n).map fun t=>(wr ops t).isSome
def eu' (ops:Array Oper):List (Option Tmp):=ops.toList.map (·.dst)
def Y':List Bool->List Value->Nat->(Nat->Value)->List Value
 |true::bs,_::vs,i,f=>f i::Y' bs vs (i+1) f
 |false::bs,v::vs,i,f=>v::Y' bs vs (i+1) f
 | _,vs,_,_=>vs
def af' (f:Nat->Value) (w:World):List (Option Tmp)->List (Value->World->Prop)->Prop
 |some d::ds,z::r=>z (f d) w/\af' f w ds r
 |none::ds,_::r=>af' f w ds r
 | _,_=>True
theorem ck' (f:Nat->Value):∀ (bs:List Bool) (vs r:List Value) (i:Nat),bs.length=vs.length->r.length=vs.length->
  (∀j,j < r.length->bs.getD j false=true->r.getD j undef=f (i+j))->(∀j,j < r.length->bs.getD j false=false->r.getD j undef=vs.getD j undef)->Y' bs vs i f=r
 |[],[],[],_,_,_,_,_=>rfl
 |[],[],_:: _,_,_,h,_,_=>by simp at h
 | _:: _,[],_,_,h,_,_,_=>by simp at h
 |[],_:: _,_,_,h,_,_,_=>by simp at h
 | _:: _,_:: _,[],_,_,h,_,_=>by simp at h
 |b::bs,v::vs,t::r,i,h1,h2,h3,h4=>by
  have ih:=ck' f bs vs r (i+1) (by simpa using h1) (by simpa using h2)
   (fun j hj z=>by have:=h3 (j+1) (by simpa using hj) (by simpa using z);simpa[Nat.add_assoc,Nat.add_comm 1 j]using this)
   (fun j hj z=>by have:=h4 (j+1) (by simpa using hj) (by simpa using z);simpa using this)
  cases b
  ·have:=h4 0 (by simp) rfl;simp at this;simp[Y',ih,this]
  ·have:=h3 0 (by simp) rfl;simp at this;simp[Y',ih,this]
theorem cH' {f:Nat->Value} {w:World}:∀ {os:List Oper} {L:List (Value->World->Prop)},(∀i o d,os[i]? =some o->o.dst=some d->L.getD i (fun _ _=>True) (f d) w)->af' f w (os.map (·.dst)) L
 |[],_,_=>by simp[af']
 |o::os,[],_=>by cases h:o.dst <;> simp[af',h]
 |o::os,F::r,h=>by
  have ih:=cH' (os:=os) (L:=r) (fun i z d D hd=>h (i+1) z d (by simpa using D) hd);cases hd:o.dst with
  |none=>simpa[af',hd]using ih
  |some d=>simpa[af',hd]using ⟨h 0 o d rfl hd,ih⟩
theorem cz' {id:Nat} {a0:Act} {w0:World} (H:P.follows .mixedOrders=true) (L:List (Value->World->Prop)) (z:List (List (Tmp×Option Nat))) (F:List (Option Tmp)) (D:List Bool)
  (I:bz' ops a0.tmps.size=true) (J:bZ' ops=z) (M:eu' ops=F) (G:bl' ops a0.tmps.size=D) (O:bD' L) (U:gj' P ops Q L a0 w0 ops.toList z L)
  (V:∀f w,Below w0.heap.size w0 w->af' f w F L->Q .normal {tmps:=(Y' D a0.tmps.toList 0 f).toArray,defers:=a0.defers} w):
  (Code.region id ops true).wp P Q a0 w0:=by
 refine km' H L z I J O U ?_;intro a w r X Y hd hs;have h:=V (fun t=>a.tmps.getD t undef) w r (by rw[<-M];exact cH' (fun i o d Z aa=>X i o d (by simpa using Z) aa));have e:Y' D a0.tmps.toList 0 (fun t=>a.tmps.getD t undef)=a.tmps.toList:=by
  refine ck' _ _ _ _ _ (by rw[<-G];simp[bl']) (by simpa using hs) ?_ ?_
  ·intro j hj _;simp[Array.getD_eq_getD_getElem?,List.getD_eq_getElem?_getD]
  ·intro j hj r;rw[<-G]at r;have ab:j < a0.tmps.size:=by rw[<-hs];simpa using hj
   have ac:wr ops j=none:=by unfold bl' at r;simp[List.getD_eq_getElem?_getD,List.getElem?_map,List.getElem?_range ab]at r;exact r
   have:=Y j ac;simpa[Array.getD_eq_getD_getElem?,List.getD_eq_getElem?_getD]using this
 rw[e,<-hd]at h;exact h
theorem ag' {id:Nat} {a0:Act} {w0:World} (O:P.follows .mixedOrders=true) (L:List (Value->World->Prop)) (F:List (List (Tmp×Option Nat))) (I:List (Option Tmp)) (G:List Bool) (last:Nat) (ol:Oper) (U:ops[last]? =some ol) (V:ol.guard=none)
  (J:ops.size=last+1) (X:eU' ops last=true)
  (Y:bz' ops a0.tmps.size=true) (Z:bZ' ops=F) (aa:eu' ops=I) (M:bl' ops a0.tmps.size=G) (ab:bD' L) (ac:gj' P ops Q L a0 w0 (ops.toList.take last) F L)
  (ad:∀f w,Below w0.heap.size w0 w->af' f w (I.take last) L->ol.wp P {tmps:=(Y' G a0.tmps.toList 0 f).toArray,defers:=a0.defers} w (Q .normal) Q):
  (Code.region id ops true).wp P Q a0 w0:=by
 refine wp_region_any O (mq' (w0:=w0) (fun i=>L.getD i (fun _ _=>True)) Y last J X (fun i=>bo' ab i) ?_ ?_ ops.size _ a0 _ ⟨by simp,(Below.refl _ _).drew,?_,?_,fun _ _=>rfl,rfl,rfl⟩ ?_ ?_)
 ·intro i o H z a w D ah;have ai:i < ops.size:=(Array.getElem?_eq_some_iff.1 z).1;have aj:F[i]? =some ((o.looksAt ops).map fun t=>(t,match wr ops t with
     |some j=>if av' ops i j=true then some j else none
     |none=>none)):=by
   rw[<-Z];unfold bZ';rw[List.getElem?_map,List.getElem?_range ai,Option.map_some,z]
  exact ei' ac i o _ (by rw[List.getElem?_take,if_pos H];simpa using z) aj a w D (bk' rfl (o:=o) _ ah)
 ·intro a w D ak ao hd hs;have h:=ad (fun t=>a.tmps.getD t undef) w D (by
   rw[<-aa,eu',<-List.map_take];exact cH' (fun i o d z ap=>by
    rw[List.getElem?_take]at z;split at z
    ·rename_i H;exact ak i o d H (by simpa using z) ap
    ·cases z))
  have e:Y' G a0.tmps.toList 0 (fun t=>a.tmps.getD t undef)=a.tmps.toList:=by
   refine ck' _ _ _ _ _ (by rw[<-M];simp[bl']) (by simpa using hs) ?_ ?_
   ·intro j hj _;simp[Array.getD_eq_getD_getElem?,List.getD_eq_getElem?_getD]
   ·intro j hj D;rw[<-M]at D;have aq:j < a0.tmps.size:=by rw[<-hs];simpa using hj
    have au:wr ops j=none:=by unfold bl' at D;simp[List.getD_eq_getElem?_getD,List.getElem?_map,List.getElem?_range aq]at D;exact D
    have:=ao j (fun k r=>by rw[au]at r;cases r);simpa[Array.getD_eq_getD_getElem?,List.getD_eq_getElem?_getD]using this
  rw[e,<-hd]at h;unfold wpOp;rw[U];simp only[];rw[if_pos (by simp[Region.wanted,V])];exact .inl h
 ·intro k r;simp[Array.getD_eq_getD_getElem?]at r;rcases h:(Array.replicate ops.size false)[k]? with _|b <;> simp[h]at r;subst r;obtain⟨h1,h2⟩:=Array.getElem?_eq_some_iff.1 h;simp at h2
 ·intro i o d z hd r;exfalso;simp[Array.getD_eq_getD_getElem?]at r;rcases h:(Array.replicate ops.size false)[i]? with _|b <;> simp[h]at r;subst r;obtain⟨h1,h2⟩:=Array.getElem?_eq_some_iff.1 h;simp at h2
 ·simp[Array.getD_eq_getD_getElem?,J]
 ·exact Nat.le_trans List.countP_le_length (by simp)
end
def ef' (n:Int):ByteArray:=⟨#[UInt8.ofNat (n.toNat % 256),UInt8.ofNat (n.toNat / 256 % 256),UInt8.ofNat (n.toNat / 65536 % 256),UInt8.ofNat (n.toNat / 16777216 % 256)]⟩
theorem tF' (n:Int):(ef' n).data.toList=Wire.le4 n:=rfl
theorem tG' (x:Int):(ef' x).size=4:=rfl
theorem jI' (S:ByteArray):S.toList=S.data.toList:=ByteArray.toList_eq S
theorem R' {w w':World} {B:Nat} {e:TypeId} {v:Value} {n:Nat} {xs:List Value} (h:w.ownsRow B e 1 v n xs) (r:∀g,v.ownBlock=some g->w'.heap[g]? =w.heap[g]?):w'.ownsRow B e 1 v n xs:=by
 obtain⟨h1,h2⟩:=h;refine⟨h1,?_⟩;rcases h2 with h2|⟨g,cap,z,rfl,D,F,G⟩
 ·exact .inl h2
 ·exact .inr ⟨g,cap,z,rfl,D,by rw[r g rfl];exact F,G⟩
structure App (w w':World) (v v':Value):Prop where
 grown:w.grownBy w' v.ownBlock
 where_:v'.ownBlock=v.ownBlock\/(w.grownBy w' none/\∃g,v'.ownBlock=some g/\w.heap.size<=g)
theorem t' {w:World} {p i:Nat} {c:Array Value} {e:TypeId} {fr:Nat×Nat} (h:w.heap[p]? =some (.cells c e fr)):w.cell? ⟨p,i,none⟩=c[i]? :=by simp[World.cell?,h]
theorem I' {w:World} {p i:Nat} {c:Array Value} {e:TypeId} (h:w.heap[p]? =some (.cells c e (0,0))):w.frozen? ⟨p,i,none⟩=false:=by simp[World.frozen?,h]
def A' (p:Nat):Value:= .pointer (some ⟨p,0,none⟩)
theorem xo' {w:World} {e z:TypeId} {v:Value} {n p:Nat} {xs:List Value} {c:Array Value} {fr:Nat×Nat} (h:w.ownsRow 0 e 1 v n xs) (r:w.heap[p]? =some (.cells c z fr)) (F:e≠z):v.ownBlock≠some p:=by
 intro D;obtain⟨_,h2⟩:=h;rcases h2 with ⟨rfl,_⟩|⟨g,cap,H,rfl,_,G,_⟩
 ·cases D
 ·cases D;rw[G]at r;injection r with r;injection r with _ r _;exact F r
theorem gk' {w:World} {e:TypeId} {v:Value} {n:Nat} {xs:List Value} (h:w.ownsRow 0 e 1 v n xs) (r:0 < n):∃g cap,v= .slice (some ⟨g,0,none⟩) n cap:=by
 obtain⟨_,h2⟩:=h;rcases h2 with ⟨_,h2⟩|⟨g,cap,z,e,_⟩
 ·omega
 ·exact⟨g,cap,e⟩
theorem ah' {w:World} {q j:Nat} {c:Array Value} {e:TypeId} {fr:Nat×Nat} {v:Value} (h:w.heap[q]? =some (.cells c e fr)):(w.setCell ⟨q,j,none⟩ v).heap[q]? =some (.cells (c.setIfInBounds j v) e fr):=by
 simp[World.setCell,Array.getElem?_modify,h]
theorem aa' {w:World} {q j k:Nat} {v:Value} (h:k≠q):(w.setCell ⟨q,j,none⟩ v).heap[k]? =w.heap[k]? :=Below.heap_setCell w ⟨q,j,none⟩ v k h
def Loc (w:World) (v r:Value):Prop:=r.ownBlock=none\/r.ownBlock=v.ownBlock\/∃g,r.ownBlock=some g/\w.heap.size<=g
theorem hS' {w r W:World} {v z:Value} (hs:w.heap.size<=r.heap.size) (D:App r W v z):Loc w v z:=by
 rcases D.where_ with h|⟨_,g,h,F⟩
 ·exact .inr (.inl h)
 ·exact .inr (.inr ⟨g,h,Nat.le_trans hs F⟩)
theorem uG' {w:World} {e r:TypeId} {v z:Value} {n F b:Nat} {xs G:List Value} (h:w.ownsRow 0 e 1 v n xs) (H:w.ownsRow 0 r 1 z F G) (I:e≠r) (D:v.ownBlock=some b):z.ownBlock≠some b:=by
 obtain⟨_,h2⟩:=h;rcases h2 with ⟨rfl,_⟩|⟨g,cap,M,rfl,_,J,_⟩
 ·cases D
 ·cases D;exact xo' H J (fun e=>I e.symm)
section
variable {w X:World} {p q:Nat} {cp cq:Array Value} {tv bv' fv tv2 bv2 fv2:Value} {ts fs ts2 fs2:List Value} {l l2:List UInt8}
end
structure Far (E:Nat->Prop) (w x:World):Prop where
 os:x.os=w.os
 tape:x.tape=w.tape
 output:x.output=w.output
 size:w.heap.size<=x.heap.size
 rest:∀k,k < w.heap.size->¬E k->x.heap[k]? =w.heap[k]?
theorem Far.refl (E:Nat->Prop) (w:World):Far E w w:=⟨rfl,rfl,rfl,Nat.le_refl _,fun _ _ _=>rfl⟩
theorem Far.trans {E E':Nat->Prop} {w x y:World} (h:Far E w x) (r:Far E' x y) (F:∀k,k < w.heap.size->E' k->E k):Far E w y:=
 ⟨r.os.trans h.os,r.tape.trans h.tape,r.output.trans h.output,Nat.le_trans h.size r.size,fun k z D=>(r.rest k (Nat.lt_of_lt_of_le z h.size) (fun e=>D (F k z e))).trans (h.rest k z D)⟩
theorem Far.mono {E E':Nat->Prop} {w x:World} (h:Far E w x) (z:∀k,k < w.heap.size->E k->E' k):Far E' w x:=
 ⟨h.os,h.tape,h.output,h.size,fun k r D=>h.rest k r (fun e=>D (z k r e))⟩
theorem Far.below {E:Nat->Prop} {w x:World} (h:Far E w x) {B:Nat} (z:B<=w.heap.size) (D:∀k,k < B->¬E k):Below B w x:=
 ⟨h.os,h.tape,h.output,h.size,fun k r=>h.rest k (Nat.lt_of_lt_of_le r z) (D k r)⟩
theorem C' {E:Nat->Prop} {w x:World} (h:Below w.heap.size w x):Far E w x:=⟨h.os,h.tape,h.output,h.size,fun k r _=>h.block k r⟩
theorem br' {w x:World} {row:Option Nat} (h:w.grownBy x row):Far (fun k=>row=some k) w x:=⟨h.os,h.tape,h.output,h.size,fun k r z=>h.block k r (fun e=>z e.symm)⟩
theorem S' (w:World) (q j:Nat) (v:Value):Far (fun k=>k=q) w (w.setCell ⟨q,j,none⟩ v):=⟨rfl,rfl,rfl,by rw[World.size_setCell];exact Nat.le_refl _,fun k _ r=>aa' r⟩
theorem Far.blk {E:Nat->Prop} {w x:World} (h:Far E w x) {k:Nat} {o:Obj} (r:w.heap[k]? =some o) (z:¬E k):x.heap[k]? =some o:=(h.rest k (lt_of_block r) z).trans r
def as' (w:World) (e:TypeId) (size:Nat) (v:Value) (n:Nat) (xs:List Value):Prop:=
 xs.length=n * size/\((v= .slice none 0 0/\n=0)\/
  ∃g o cap r,v= .slice (some ⟨g,o,none⟩) n cap/\w.heap[g]? =some (.cells r e (0,0))/\n<=cap/\cap<=maxLen/\o+cap * size<=r.size/\(r.toList.drop o).take (n * size)=xs)
theorem kK' (w:World) (e:TypeId) (size:Nat):as' w e size (.slice none 0 0) 0 []:=⟨by simp, .inl ⟨rfl,rfl⟩⟩
theorem as'.of_own {w:World} {e:TypeId} {size n:Nat} {v:Value} {xs:List Value} (h:w.ownsRow 0 e size v n xs):as' w e size v n xs:=by
 obtain⟨h1,h2⟩:=h;refine⟨h1,?_⟩;rcases h2 with h2|⟨g,cap,r,rfl,_,z,D,F,hs,G⟩
 ·exact .inl h2
 ·exact .inr ⟨g,0,cap,r,rfl,z,D,F,by omega,by simpa using G⟩
theorem as'.keep {w w':World} {e:TypeId} {size n:Nat} {v:Value} {xs:List Value} (h:as' w e size v n xs) (r:∀g,v.ownBlock=some g->w'.heap[g]? =w.heap[g]?):as' w' e size v n xs:=by
 obtain⟨h1,h2⟩:=h;refine⟨h1,?_⟩;rcases h2 with h2|⟨g,o,cap,z,rfl,D,F⟩
 ·exact .inl h2
 ·exact .inr ⟨g,o,cap,z,rfl,by rw[r g rfl];exact D,F⟩
theorem as'.lt {w:World} {e:TypeId} {size n:Nat} {v:Value} {xs:List Value} (h:as' w e size v n xs):∀g,v.ownBlock=some g->g < w.heap.size:=by
 intro g r;obtain⟨_,h2⟩:=h;rcases h2 with ⟨rfl,_⟩|⟨g',o,cap,D,rfl,z,_⟩
 ·cases r
 ·cases r;exact lt_of_block z
theorem as'.ne {w:World} {e z:TypeId} {size n p:Nat} {v:Value} {xs:List Value} {c:Array Value} {fr:Nat×Nat} (h:as' w e size v n xs) (r:w.heap[p]? =some (.cells c z fr)) (F:e≠z):v.ownBlock≠some p:=by
 intro D;obtain⟨_,h2⟩:=h;rcases h2 with ⟨rfl,_⟩|⟨g,o,cap,H,rfl,G,_⟩
 ·cases D
 ·cases D;rw[G]at r;injection r with r;injection r with _ r _;exact F r
theorem as'.ty {w:World} {e r:TypeId} {size F n G b:Nat} {v z:Value} {xs H:List Value} (h:as' w e size v n xs) (I:as' w r F z G H) (J:e≠r) (D:v.ownBlock=some b):z.ownBlock≠some b:=by
 obtain⟨_,h2⟩:=h;rcases h2 with ⟨rfl,_⟩|⟨g,o,cap,O,rfl,M,_⟩
 ·cases D
 ·cases D;exact I.ne M (fun e=>J e.symm)
theorem as'.far {E:Nat->Prop} {w x:World} (h:Far E w x) {e:TypeId} {size n:Nat} {v:Value} {xs:List Value} (r:as' w e size v n xs) (D:∀g,v.ownBlock=some g->¬E g):as' x e size v n xs:=
 r.keep (fun g z=>h.rest g (r.lt g z) (D g z))
theorem as'.shape {w:World} {e:TypeId} {size n:Nat} {v:Value} {xs:List Value} (h:as' w e size v n xs):∃r cap,v= .slice r n cap/\n<=cap/\cap<=maxLen/\
  (0 < n->∃g o,r=some ⟨g,o,none⟩/\∀i,i < n * size->w.cell? ⟨g,o+i,none⟩=xs[i]?):=by
 obtain⟨h1,h2⟩:=h;rcases h2 with ⟨rfl,rfl⟩|⟨g,o,cap,H,rfl,z,D,F,hs,G⟩
 ·exact⟨none,0,rfl,by omega,by unfold maxLen;omega,fun h=>by omega⟩
 ·refine⟨_,cap,rfl,D,F,fun _=>⟨g,o,rfl,fun i hi=>?_⟩⟩;rw[t' z,<-G,List.getElem?_take,if_pos hi,List.getElem?_drop];simp
theorem gA' {P:Program} (w:World) (t ty e:TypeId) (i:TypeInfo) (H:P.underlying t=some (.slice e)) (hi:P.info? e=some i)
  (g o z F:Nat) (D:Array Value) (I:w.heap[g]? =some (.cells D e (0,0)))
  (a:Addr) (m c:Nat) (r:List Value) (hl:r.length=m * i.size) (J:∀j u,r[j]? =some u->w.cell? (a.add j)=some u) (h1:∀u∈r,u.oneCell'=true)
  (M:z+m<=F) (O:o+z * i.size+r.length<=D.size):
  (Builtin.append_ #[t,t] ty #[.slice (some ⟨g,o,none⟩) z F, .slice (some a) m c]).run P w=
   .ok (.slice (some ⟨g,o,none⟩) (z+m) F) (w.setRow g (D.toList.take (o+z * i.size)++r++D.toList.drop (o+z * i.size+r.length)).toArray):=by
 have Q:=run_firstCells_some (P:=P) w i.size m a m c r hl J;have G:=run_storeCells_at P g (o+z * i.size) e r 0 D w I (by simpa using O) h1;simp only[Nat.add_zero]at G;simp[Builtin.append_,run_underlying H,sizeOf,typeInfo,hi,Builtin.lenOf,M,Q,Addr.add_lit,G]
theorem hT' {P:Program} (w:World) (t ty e:TypeId) (i:TypeInfo) (H:Value) (size bytes:Nat) (Q:P.underlying t=some (.slice e)) (hi:P.info? e=some i) (ab:i.zero=some H) (aj:i.size=size) (ak:i.bytes=bytes)
  (ao:H.cells.size=size) (v:Value) (n:Nat) (xs:List Value) (D:as' w e size v n xs) (J:Addr) (m c:Nat) (r:List Value) (hl:r.length=m * size) (U:∀j u,r[j]? =some u->w.cell? (J.add j)=some u)
  (h1:∀u∈r,u.oneCell'=true) (aE:0 < m) (ac:(n+m) * bytes<=140737488355328) (aF:n+m<=140737488355328):
  ∃V w',(Builtin.append_ #[t,t] ty #[v, .slice (some J) m c]).run P w= .ok V w'/\as' w' e size V (n+m) (xs++r)/\App w w' v V:=by
 subst aj ak;have ad:n+m<=maxLen:=by unfold maxLen;omega
 have O:(xs++r).length=(n+m) * i.size:=by rw[List.length_append,D.1,hl,Nat.add_mul]
 have grown:∀ (F:Nat) (row:Option Nat),as' (w.drew.alloc (.cells (xs.toArray++r.toArray++Builtin.zeroCells H.cells (grownCap w (n+m) F e - (n+m))) e)) e i.size
    (.slice (some ⟨w.heap.size,0,none⟩) (n+m) (grownCap w (n+m) F e)) (n+m) (xs++r)/\
   w.grownBy (w.drew.alloc (.cells (xs.toArray++r.toArray++Builtin.zeroCells H.cells (grownCap w (n+m) F e - (n+m))) e)) row:=by
  intro F row;have ap:=grownCap_ge w (n+m) F e;have X:grownCap w (n+m) F e<=maxLen:=grownCap_le_maxLen w (n+m) F e ad;refine⟨⟨O, .inr ⟨w.heap.size,0,_,_,rfl,heap_alloc_new w.drew _,ap,X,?_,?_⟩⟩,⟨rfl,rfl,rfl,by simp,fun k Y _=>Below.heap_alloc w.drew _ k Y⟩⟩
  ·simp only[Array.size_append,List.size_toArray,size_zeroCells,ao,D.1,hl,<-Nat.add_mul,Nat.zero_add];exact Nat.mul_le_mul_right _ (by omega)
  ·simp only[Array.toList_append,List.append_assoc,List.drop_zero];rw[<-List.append_assoc,<-O];exact List.take_left
 rcases D.2 with ⟨rfl,rfl⟩|⟨g,o,cap,I,rfl,ah,aG,X,aH,aq⟩
 ·have au:xs=[]:=List.eq_nil_of_length_eq_zero (by simpa using D.1);subst au;have M:=run_append_nil (P:=P) w t ty e i H Q hi ab J m c r hl U (by omega) (by omega) (by simp only[Nat.zero_add]at ac;omega);have G:=grown 0 none;simp only[Nat.zero_add,List.nil_append,Array.empty_append]at G ⊢;exact⟨_,_,M,G.1,⟨G.2, .inr ⟨G.2,w.heap.size,rfl,Nat.le_refl _⟩⟩⟩
 ·by_cases Z:n+m<=cap
  ·have av:(n+m) * i.size<=cap * i.size:=Nat.mul_le_mul_right _ Z;rw[Nat.add_mul]at av;have ax:o+n * i.size+r.length<=I.size:=by rw[hl];omega
   have M:=gA' (P:=P) w t ty e i Q hi g o n cap I ah J m c r hl U h1 Z ax;refine⟨_,_,M,⟨O, .inr ⟨g,o,cap,_,rfl,setRow_heap w g I _ e _ ah,Z,X,?_,?_⟩⟩,⟨⟨rfl,rfl,rfl,by simp,fun k _ Y=>setRow_other w g k _ (fun e=>Y (by simp[Value.ownBlock,e]))⟩, .inl rfl⟩⟩
   ·simp only[List.size_toArray,List.length_append,List.length_take,List.length_drop,Array.length_toList];omega
   ·have ay:(I.toList.take (o+n * i.size)++r++I.toList.drop (o+n * i.size+r.length)).drop o=xs++(r++I.toList.drop (o+n * i.size+r.length)):=by rw[List.append_assoc,List.drop_append_of_le_length (by simp;omega),List.drop_take];congr 1;rw[<-aq];congr 1;omega
    simp only
    rw[ay,<-List.append_assoc,<-O];exact List.take_left
  ·have aI:grownCap w (n+m) cap e=grownCap w (n+m) cap e:=rfl;have az:∀j u,xs[j]? =some u->w.cell? ((⟨g,o,none⟩:Addr).add j)=some u:=by
    intro j u hj;have ai:j < n * i.size:=by have:=(List.getElem?_eq_some_iff.1 hj).1;rw[D.1]at this;exact this
    obtain⟨aJ,aK,z,_,_,aa⟩:=D.shape;have aA:0 < n:=by
     rcases Nat.eq_zero_or_pos n with h|h
     ·subst h;simp at ai
     ·exact h
    obtain⟨g',aL,aB,aa⟩:=aa aA;injection z with z;rw[aB]at z;injection z with z;injection z with z aC;subst z aC;have:=aa j ai;rw[hj]at this;unfold Addr.add;split
    ·rename_i h0;subst h0;simpa using this
    ·exact this
   have M:=run_append_grow (P:=P) w t ty e i H Q hi ab ⟨g,o,none⟩ n cap xs D.1 az J m c r hl U (by omega) (by unfold maxLen at ad;omega) (growslice_fits (by omega) ac);have G:=grown cap (Value.ownBlock (.slice (some ⟨g,o,none⟩) n cap));have aD:=grown cap none;exact⟨_,_,M,G.1,⟨G.2, .inr ⟨aD.2,w.heap.size,rfl,Nat.le_refl _⟩⟩⟩
def lay (L:List UInt8) (off:Nat) (l:List UInt8):List UInt8:=L.take off++(l++L.drop (off+l.length))
theorem gT' {L l:List UInt8} {off:Nat} (h:off+l.length<=L.length):(lay L off l).length=L.length:=by
 simp[lay];omega
theorem uH' (L:List UInt8) (off:Nat) (l:List UInt8):bv (lay L off l)=(bv L).take off++(bv l++(bv L).drop (off+(bv l).length)):=by
 simp[lay,bv,List.map_take,List.map_drop]
theorem sS':(Tryz.prog.info? 5).map (·.size)=some 1:=by kernel_rfl
theorem iX':(Tryz.prog.info? 214).map (·.size)=some 64:=by kernel_rfl
theorem cO' (b o j:Nat):(⟨b,o,none⟩:Addr).add j=⟨b,o+j,none⟩:=by
 unfold Addr.add;split
 ·rename_i h;subst h;rfl
 ·rfl
theorem dr' {o:Oper} {a:Act} {w:World} {K:Act->World->Prop} {H:Exit->Act->World->Prop} (d s:Operand)
  (D:o.op= .call {callee:= .builtin .copy,args:= #[d,s],argTypes:= #[48,48]}) (g off n cap:Nat) (L l:List UInt8) (t:TypeId) (v:Value)
  (r:w.heap[g]? =some (.cells (bv L).toArray t (0,0))) (hd:a.eval d= .slice (some ⟨g,off,none⟩) n cap) (I:ab' w v l) (hs:a.eval s=v) (hl:l.length<=n) (V:off+n<=L.length)
  (h:∀w',w'.heap[g]? =some (.cells (bv (lay L off l)).toArray t (0,0))->Far (fun k=>k=g) w w'->K (a.put o.dst (.int .i64 l.length)) w'):o.wp Tryz.prog a w K H:=by
 obtain⟨J,F,rfl,X,Y,M⟩:=I;by_cases h0:l.length=0
 ·obtain rfl:l=[]:=List.eq_nil_of_length_eq_zero h0;have z:=run_copy_none (P:=Tryz.prog) w 48 48 o.type 5 (some ⟨g,off,none⟩) J n cap 0 F Tryz.underlying48 sS' (by simp);unfold Oper.wp;simp[execOp,D,resolve,invoke,builtin,hd,hs,z,Result.andThen];exact h w (by rw[uH'];simpa[bv]using r) (Far.refl _ _)
 ·obtain⟨b,O,rfl,Q⟩:=M (by omega);have z:=run_copy_row (P:=Tryz.prog) w 48 48 o.type 5 g off n cap ⟨b,O,none⟩ l.length F (bv L).toArray t (bv l) Tryz.underlying48 sS' r (by rw[ap'];exact(Nat.min_eq_left hl).symm) (by
   intro j u hj;have G:j < l.length:=by have:=(List.getElem?_eq_some_iff.1 hj).1;rw[ap']at this;exact this
   rw[iW' G]at hj;cases hj;rw[cO'];exact Q j G) (by rw[ap',List.size_toArray,ap'];omega) (cA' l)
  unfold Oper.wp;simp[execOp,D,resolve,invoke,builtin,hd,hs,z,Result.andThen];rw[ap'];refine h _ ?_ ⟨rfl,rfl,rfl,by simp,fun k _ U=>setRow_other w g k _ U⟩;rw[uH'];have:=setRow_heap w g (bv L).toArray ((bv L).take off++(bv l++(bv L).drop (off+(bv l).length))).toArray t (0,0) r;rw[ap']at this ⊢;simpa using this
theorem hV' {r:Array Oper} {rest:List Oper} {o:Oper} {a:Act} {w:World} {z:Exit->Act->World->Prop} (D:o.guard=none) (d s:Operand)
  (F:o.op= .call {callee:= .builtin .copy,args:= #[d,s],argTypes:= #[48,48]}) (g off n cap:Nat) (L l:List UInt8) (t:TypeId) (v:Value)
  (G:w.heap[g]? =some (.cells (bv L).toArray t (0,0))) (hd:a.eval d= .slice (some ⟨g,off,none⟩) n cap) (H:ab' w v l) (hs:a.eval s=v) (hl:l.length<=n) (I:off+n<=L.length)
  (h:∀w',w'.heap[g]? =some (.cells (bv (lay L off l)).toArray t (0,0))->Far (fun k=>k=g) w w'->wpList Tryz.prog r z rest (a.put o.dst (.int .i64 l.length)) w'):wpList Tryz.prog r z (o::rest) a w:=
 wpList_plain D fun _ hK=>dr' d s F g off n cap L l t v G hd H hs hl I (fun w' h1 h2=>hK _ _ (h w' h1 h2))
theorem bW' {r:Array Oper} {rest:List Oper} {o:Oper} {a:Act} {w:World} {z:Exit->Act->World->Prop} (D:o.guard=none) (x:Operand) (F:o.op= .load 214 x)
  (g:Nat) (G:a.eval x= .pointer (some ⟨g,0,none⟩)) (t:TypeId) (L:List UInt8) (H:L.length=64) (I:w.heap[g]? =some (.cells (bv L).toArray t (0,0)))
  (h:wpList Tryz.prog r z rest (a.put o.dst (.agg (bv L).toArray)) w):wpList Tryz.prog r z (o::rest) a w:=
 wpList_load_row D 214 x F g G t _ (0,0) _ I Tryz.underlying214 rfl (by rw[iX'];simp[bv,H]) h
theorem cw' {o:Oper} {a:Act} {w:World} {K:Act->World->Prop} {r:Exit->Act->World->Prop} (x:Operand) (z:o.op= .load 214 x)
  (g:Nat) (D:a.eval x= .pointer (some ⟨g,0,none⟩)) (t:TypeId) (L:List UInt8) (F:L.length=64) (G:w.heap[g]? =some (.cells (bv L).toArray t (0,0)))
  (h:K (a.put o.dst (.agg (bv L).toArray)) w):o.wp Tryz.prog a w K r:=
 wp_load_row 214 x z g D t _ (0,0) _ G Tryz.underlying214 rfl (by rw[iX'];simp[bv,F]) h
theorem uI' (l:List UInt8):(bv l).toArray.all (·.oneCell')=true:=by
 rw[Array.all_eq_true_iff_forall_mem];intro v r;exact cA' l v (by simpa using r)
theorem cW' {z:Array Oper} {rest:List Oper} {o:Oper} {a:Act} {w:World} {D:Exit->Act->World->Prop} (H:o.guard=none) (x y:Operand) (I:o.op= .store 214 x y)
  (g:Nat) (J:a.eval x= .pointer (some ⟨g,0,none⟩)) (L:List UInt8) (F:L.length=64) (M:a.eval y= .agg (bv L).toArray) (t:TypeId) (r:Array Value) (O:r.size=64) (G:w.heap[g]? =some (.cells r t (0,0)))
  (h:∀w',w'.heap[g]? =some (.cells (bv L).toArray t (0,0))->Far (fun k=>k=g) w w'->wpList Tryz.prog z D rest (a.put o.dst undef) w'):wpList Tryz.prog z D (o::rest) a w:=
 wpList_store_row H 214 x y I g (bv L).toArray J M t r G (by rw[iX'];simp[bv,F]) (by rw[O];simp[bv,F]) (uI' L)
  (h _ (setRow_heap w g r _ t (0,0) G) ⟨rfl,rfl,rfl,by simp,fun k _ Q=>setRow_other w g k _ Q⟩)
theorem kL' {o:Oper} {a:Act} {w:World} {K:Act->World->Prop} {F:Exit->Act->World->Prop} (x y:Operand) (G:o.op= .store 214 x y)
  (g:Nat) (H:a.eval x= .pointer (some ⟨g,0,none⟩)) (L:List UInt8) (z:L.length=64) (I:a.eval y= .agg (bv L).toArray) (t:TypeId) (r:Array Value) (J:r.size=64) (D:w.heap[g]? =some (.cells r t (0,0)))
  (h:∀w',w'.heap[g]? =some (.cells (bv L).toArray t (0,0))->Far (fun k=>k=g) w w'->K (a.put o.dst undef) w'):o.wp Tryz.prog a w K F:=
 wp_store_row 214 x y G g (bv L).toArray H I t r D (by rw[iX'];simp[bv,z]) (by rw[J];simp[bv,z]) (uI' L)
  (h _ (setRow_heap w g r _ t (0,0) D) ⟨rfl,rfl,rfl,by simp,fun k _ M=>setRow_other w g k _ M⟩)
theorem ej' {fn:Func} {p:Tmp} (h:fn.results= #[.cell p 214]) (tmps:Array Value) (w:World) (g:Nat) (t:TypeId) (L:List UInt8) (r:L.length=64)
  (z:tmps.getD p undef= .pointer (some ⟨g,0,none⟩)) (D:w.heap[g]? =some (.cells (bv L).toArray t (0,0))):(results fn tmps).run Tryz.prog w= .ok (.agg (bv L).toArray) w:=
 results_cell_row h tmps w g t _ (0,0) _ z D Tryz.underlying214 rfl (by rw[iX'];simp[bv,r])
theorem kM' (o c:Nat) (ai:o < 4294967296) (aj:c < 18446744073709551616) (w:World):
  Calls Tryz.prog 200 #[.agg #[.int .u32 o, .int .u64 c]] w fun G w'=>∃v,G= .returned v/\ax' (w.heap.size+1) w' v (Mod.stampB o c)/\Below w.heap.size w w':=by
 go_enter Tryz.func200,Tryz.ntmps200;go_upto_region 1 with fail;refine H' (fun x=>x.heap[w.heap.size]? =some (.cells #[.int .u32 o, .int .u64 c] 188 (0,0))/\Below w.heap.size w x) ?_ ?_
 ·exact⟨heap_alloc_new w _,(Below.refl _ _).alloc (Nat.le_refl _) _⟩
 rintro x ⟨H,Q⟩;have ak:=lt_of_block H;have c0:x.cell? ⟨w.heap.size,0,none⟩=some (.int .u32 o):=t' (i:=0) H;have U:=y' H;have V:=y' Q;clear H Q;have I:=fun(v:Value) (l:List UInt8) (n:Int) (y:World) (h1:l.length<=1000) (h2:w.heap.size+1<=y.heap.size) (h3:0<=n) (h4:ax' (w.heap.size+1) y v l)=>y' (aF' (w.heap.size+1) n v l y h1 h2 h3 h4);have J:=fun(v:Value) (l:List UInt8) (y F:World) (h2:w.heap.size+1<=y.heap.size) (h4:ax' (w.heap.size+1) y v l) (r:y.grownBy F v.ownBlock)=>ac' (B:=w.heap.size+1) r h2 (fun g r=>(h4.lt g r).1);go_upto_region 2 with (go_at_call 103;refine(i' (I (.slice none 0 0) [] (o:Int) x (by simp) (by omega) (by omega) (hJ' _ _))).mono ?_;rintro G y ⟨ab,rfl,D,r⟩);have z:=J _ _ x y (by omega) (hJ' _ _) r;have M:=(z.block _ (Nat.lt_succ_self _)).trans (i' U);have c1:y.cell? ⟨w.heap.size,1,none⟩=some (.int .u64 c):=t' (i:=1) M;have ao:=z.size;have X:=y' ((i' V).trans (z.mono (by omega)));have O:=y' D;have Y:=y' M;clear D r z M c0 U V;have ac:IntKind.u32.wrap (c:Int)=((c % 4294967296:Nat):Int):=by rw[IntKind.wrap_u32];omega
 go_upto_region 3 with (go_at_call 103;refine(i' (I ab _ ((c % 4294967296:Nat):Int) y (by simp[Wire.length_le4]) (by omega) (by omega) (i' O))).mono ?_;rintro G F ⟨ad,rfl,D,r⟩)
 have z:=J _ _ y F (by omega) (i' O) r;have Z:=(z.block _ (Nat.lt_succ_self _)).trans (i' Y);have c2:F.cell? ⟨w.heap.size,1,none⟩=some (.int .u64 c):=t' (i:=1) Z;have ap:=z.size;have ah:=y' ((i' X).trans (z.mono (by omega)));have aa:=y' D;clear D r z Z c1 Y X O ac;go_wp2_with (go_at_call 103;refine(i' (I ad _ ((c / 4294967296:Nat):Int) F (by simp[Wire.length_le4]) (by omega) (by omega) (i' aa))).mono ?_;rintro G u ⟨v3,rfl,D,r⟩);have z:=J _ _ F u (by omega) (i' aa) r;go_ret;exact⟨v3,rfl,by simpa[Mod.stampB]using D,(i' ah).trans (z.mono (by omega))⟩
theorem sT' {l:List UInt8} {i:Nat} (h:i < l.length):(bv l).toArray[i]? =some (.int .u8 (l.getD i 0).toNat):=by
 rw[List.getElem?_toArray];exact iW' h
theorem pj' (S T:List UInt8) (w:World):∀ (r:List Nat),(∀i∈r,i < S.length/\i < T.length)->
  (Op.eqItems 9999 5 1 (bv S).toArray (bv T).toArray r).run Tryz.prog w= .ok (r.all fun i=>S.getD i 0==T.getD i 0) w
 |[],_=>by simp[Op.eqItems]
 |i::r,h=>by
  have h0:=h i (.head _);have z:=run_part_plain (P:=Tryz.prog) w (e:=5) (by kernel_rfl) (xs:=(bv S).toArray) (off:=i) (sT' h0.1);have D:=run_part_plain (P:=Tryz.prog) w (e:=5) (by kernel_rfl) (xs:=(bv T).toArray) (off:=i) (sT' h0.2);have F:=run_equalIn_int (P:=Tryz.prog) w 9998 5 .u8 .u8 ((S.getD i 0).toNat:Int) ((T.getD i 0).toNat:Int) Tryz.underlying5;have ih:=pj' S T w r (fun j hj=>h j (.tail _ hj));simp only[Op.eqItems,Nat.mul_one,Sem.run_bind,z,D,F,Result.andThen_ok,List.all_cons];have e:(((S.getD i 0).toNat:Int) == ((T.getD i 0).toNat:Int))=(S.getD i 0==T.getD i 0):=by
   rw[Bool.eq_iff_iff,beq_iff_eq,beq_iff_eq];constructor
   ·intro e;exact UInt8.toNat_inj.1 (by omega)
   ·intro e;rw[e]
  rw[e];cases G:(S.getD i 0==T.getD i 0)
  ·simp
  ·simpa using ih
theorem xp' {S T:List UInt8} {n:Nat} (r:S.length=n) (z:T.length=n):((List.range n).all fun i=>S.getD i 0==T.getD i 0)=decide (S=T):=by
 rw[Bool.eq_iff_iff,decide_eq_true_eq,List.all_eq_true];constructor
 ·intro h;apply List.ext_getElem (by omega);intro i h1 h2;have:=h i (List.mem_range.2 (by omega));simpa[h1,h2]using this
 ·rintro rfl i _;simp
theorem iY' {S T:List UInt8} (r:S.length=64) (z:T.length=64) (w:World):(Op.equalIn 10000 214 (.agg (bv S).toArray) (.agg (bv T).toArray)).run Tryz.prog w= .ok (decide (S=T)) w:=by
 obtain⟨i,hi⟩:∃i,Tryz.prog.info? 5=some i:=by
  have:=sS';cases h:Tryz.prog.info? 5 with
  |none=>rw[h]at this;cases this
  |some i=>exact⟨i,rfl⟩
 have D:Tryz.prog.cellsOf 5=1:=by kernel_rfl
 have e:=pj' S T w (List.range 64) (fun i hi=>by have:=List.mem_range.1 hi;omega);rw[xp' r z,<-D]at e;exact(run_equalIn_array (P:=Tryz.prog) w 9999 (bv S).toArray (bv T).toArray Tryz.underlying214 hi).trans e
theorem kN' (off:Nat):∀ (l:List Value) (i:Nat) (r:Array Value),off+i+l.length<=r.size->
  (l.zipIdx i).foldl (fun r (p:Value×Nat)=>r.setIfInBounds (off+p.2) p.1) r=(r.toList.take (off+i)++l++r.toList.drop (off+i+l.length)).toArray
 |[],i,r,_=>by simp
 |v::l,i,r,h=>by
  rw[List.zipIdx_cons,List.foldl_cons,kN' off l (i+1) _ (by simp at h ⊢;omega)];have:=list_seg_step r.toList (off+i) v l (by simp at h ⊢;omega);congr 1;rw[Array.toList_setIfInBounds];have z:off+(i+1)=off+i+1:=by omega
  rw[z,this,List.length_cons]
def aS':List UInt8:=List.replicate 64 0
theorem az':aS'.length=64:=by simp[aS']
theorem uJ' (r:List (Nat×Value)):Tryz.prog.built 254 r=Instr.fill (fun x=>(#[(0,1),(1,64)]:Array (Nat×Nat))[x]?) (Value.int .i64 0::bv aS').toArray r:=by kernel_rfl
theorem pk' (k:Int) (S:List UInt8) (D:S.length=64):Tryz.prog.built 254 [(0, .int .i64 k),(1, .agg (bv S).toArray)]=some (.int .i64 k::bv S).toArray:=by
 rw[uJ'];have z:(bv aS').length=64:=by rw[ap',az']
 have r:(bv S).length=64:=by rw[ap',D]
 have F:=kN' 1 (bv S) 0 (Value.int .i64 k::bv aS').toArray (by simp[z,r]);generalize H:bv aS'=I at *;generalize J:bv S=G at *;have M:G.toArray.size=64:=by simpa using r
 simp only[Instr.fill,Value.cells];simp[z,r];rw[F];simp[z,r]
theorem uK' (o c:Nat) (ins:List UInt8) (h:ins.length<=40):lay (lay (lay (List.replicate 64 0) 0 (Mod.stampB o c)) 12 ins) 52 (Mod.stampB o c)=Mod.sealB o c ins:=by
 have r:lay (List.replicate 64 (0:UInt8)) 0 (Mod.stampB o c)=Mod.stampB o c++List.replicate 52 0:=by simp[lay,Mod.length_stampB]
 rw[r];have z:lay (Mod.stampB o c++List.replicate 52 0) 12 ins=Mod.stampB o c++ins++List.replicate (52 - ins.length) 0:=by unfold lay;rw[List.take_left' (Mod.length_stampB o c),List.drop_append,List.drop_eq_nil_of_le (by rw[Mod.length_stampB];omega),Mod.length_stampB,List.drop_replicate,List.nil_append,List.append_assoc];congr 3;omega
 rw[z];unfold lay Mod.sealB;have hl:(Mod.stampB o c++ins).length=12+ins.length:=by rw[List.length_append,Mod.length_stampB]
 rw[List.take_append,List.take_of_length_le (by omega),List.take_replicate,List.drop_append,List.drop_eq_nil_of_le (by rw[hl,Mod.length_stampB];omega),List.drop_replicate,hl,Mod.length_stampB];have D:min (52 - (12+ins.length)) (52 - ins.length)=40 - ins.length:=by omega
 have F:52 - ins.length - (52+12 - (12+ins.length))=0:=by omega
 rw[D,F];simp
theorem fw' (w:World) (A B C:Obj):(((w.alloc A).alloc B).alloc C).heap[w.heap.size]? =some A/\(((w.alloc A).alloc B).alloc C).heap[w.heap.size+1]? =some B/\(((w.alloc A).alloc B).alloc C).heap[w.heap.size+2]? =some C/\Below w.heap.size w (((w.alloc A).alloc B).alloc C):=by
 have h1:=heap_alloc_new (w.alloc A) B;have h2:=heap_alloc_new ((w.alloc A).alloc B) C;have r:(w.alloc A).heap.size=w.heap.size+1:=by simp
 have z:((w.alloc A).alloc B).heap.size=w.heap.size+2:=by simp
 rw[r]at h1;rw[z]at h2;refine⟨?_,?_,h2,(((Below.refl _ _).alloc (Nat.le_refl _) _).alloc (by omega) _).alloc (by omega) _⟩
 ·rw[hao _ _ (by omega),hao _ _ (by omega)];exact heap_alloc_new w A
 ·rw[hao _ _ (by omega)];exact h1
theorem fx' {o:Option Obj} {c r:Array Value} {t:TypeId} {fr:Nat×Nat} (h:o=some (.cells c t fr)) (e:c=r):o=some (.cells r t fr):=by rw[<-e];exact h
def pm' (B:Nat) (l:List UInt8) (v:Value) (w:World):Prop:=ax' B w v l/\∀g,v.ownBlock=some g->g < w.heap.size
theorem eV' (B:Nat) (l:List UInt8):bL' (pm' B l):=fun _ _ _ h r=>⟨h.1.below r h.2,fun g z=>Nat.lt_of_lt_of_le (h.2 g z) r.size⟩
theorem pn' (o c:Nat) (ins:List UInt8) (v:Value) (w:World) (aC:o < 4294967296) (aD:c < 18446744073709551616) (hi:ins.length<=40) (ai:ab' w v ins):
  Calls Tryz.prog 171 #[.agg #[.int .u32 o, .int .u64 c],v] w fun U w'=>U= .returned (.agg (bv (Mod.sealB o c ins)).toArray)/\Below w.heap.size w w':=by
 have aj:=fun y=>y' (kM' o c aC aD y);go_enter Tryz.func171,Tryz.ntmps171;go_upto_region 2 with fail;refine H' (fun x=>x.heap[w.heap.size]? =some (.cells #[.int .u32 o, .int .u64 c] 188 (0,0))/\x.heap[w.heap.size+1]? =some (.cells (bv aS').toArray 214 (0,0))/\x.heap[w.heap.size+2]? =some (.cells (bv aS').toArray 214 (0,0))/\Below w.heap.size w x) ?_ ?_
 ·exact⟨(fw' _ _ _ _).1,fx' (fw' _ _ _ _).2.1 (by kernel_rfl),fx' (fw' _ _ _ _).2.2.1 (by kernel_rfl),(fw' _ _ _ _).2.2.2⟩
 rintro x ⟨h0,h1,h2,ak⟩;have ao:=y' h0;have ap:=y' h1;have aq:=y' h2;have V:=y' ak;have aM:=lt_of_block h2;have c0:x.cell? ⟨w.heap.size,0,none⟩=some (.int .u32 o):=t' (i:=0) h0;have c1:x.cell? ⟨w.heap.size,1,none⟩=some (.int .u64 c):=t' (i:=1) h0;have aE:=y' ai;clear h0 h1 h2 ak ai;refine ag' (by kernel_rfl)
  [fun v _=>v= .slice (some ⟨w.heap.size+2,0,none⟩) 64 64,fun v _=>v= .agg #[.int .u32 o, .int .u64 c],pm' (w.heap.size+3) (Mod.stampB o c),fun _ _=>True]
  [[(5,none)],[(2,none)],[(7,some 1)],[(6,some 0),(8,some 2)]] [some 6,some 7,some 8,some 9] [false,false,false,false,false,false,true,true,true,true,false,false,false,false,false,false,false,false]
  3 _ rfl rfl (by kernel_rfl) (by kernel_rfl) (by kernel_rfl) (by kernel_rfl) (by kernel_rfl) (by kernel_rfl) ?_ ?_ ?_
 ·repeat' (first|exact O' _|exact eV' _ _|exact X'|exact trivial|apply And.intro)
 ·refine⟨?_,?_,?_,trivial⟩;all_goals
   intro a y r F;have aF:=(r.cell (p:=⟨w.heap.size,0,none⟩) (by show w.heap.size < _;omega)).trans c0;have aG:=(r.cell (p:=⟨w.heap.size,1,none⟩) (by show w.heap.size < _;omega)).trans c1;have X:=r.size;clear r;simp only[M',List.getD_cons_zero,List.getD_cons_succ,Array.getD_eq_getD_getElem?]at F;try simp at F
   try go_simp
   try exact Below.refl _ _
  ·refine(i' (aj _)).mono ?_;rintro U aH ⟨Y,rfl,G,Z⟩;exact⟨Y,rfl,Z,G.mono (by omega),fun g aa=>(G.lt g aa).2⟩
 ·intro f y r z;simp only[af',List.take]at z;have au:=z.1;have av:=z.2.2.1;simp only[Y',au];have g0:=(r.block _ (by show w.heap.size < _;omega)).trans (i' ao);have g1:=(r.block _ (by show w.heap.size+1 < _;omega)).trans (i' ap);have g2:=(r.block _ (by show w.heap.size+2 < _;omega)).trans (i' aq);have H:=y' ((i' V).trans (r.mono (by have:=(i' V).size;omega)));generalize f 8=v8 at *;generalize f 7=aN at *;have X:=r.size;refine dr' (.tmp 6) (.tmp 8) rfl (w.heap.size+2) 0 64 64 aS' (Mod.stampB o c) 214 v8 g2 rfl av.1.at rfl (by rw[Mod.length_stampB];omega) (by rw[az'];omega) ?_;intro ax D hF;have M:=y' (hF.blk g0 (by omega));have I:=y' (hF.blk g1 (by omega));have J:=y' D;have ab:=y' ((i' H).trans (hF.below (by omega) (fun k ac e=>by omega)));have aO:=hF.size;clear r au av g0 g1 g2 hF D H ao ap aq V c0 c1;clear z;have c0:ax.cell? ⟨w.heap.size,0,none⟩=some (.int .u32 o):=t' (i:=0) (i' M);have c1:ax.cell? ⟨w.heap.size,1,none⟩=some (.int .u64 c):=t' (i:=1) (i' M);have ay:(lay aS' 0 (Mod.stampB o c)).length=64:=by rw[gT' (by rw[Mod.length_stampB,az'];omega),az']
  have O:=y' ay;clear ay;go_simp;go_upto_region 4 with (refine hV' rfl (.tmp 10) (.tmp 11) rfl (w.heap.size+2) 12 40 52 (lay aS' 0 (Mod.stampB o c)) ins 214 v (i' J) rfl ((i' aE).below (i' ab)) rfl hi (by rw[i' O];omega) ?_;intro u hu hF;go_simp);have az:(lay (lay aS' 0 (Mod.stampB o c)) 12 ins).length=64:=by rw[gT' (by rw[i' O];omega),i' O]
  have ad:=y' az;have ah:=y' ((i' ab).trans (hF.below (by omega) (fun k ac e=>by omega)));have g0:=hF.blk (i' M) (by omega);have I:=y' (hF.blk (i' I) (by omega));have J:=y' hu;have aP:=hF.size;have c0:u.cell? ⟨w.heap.size,0,none⟩=some (.int .u32 o):=t' (i:=0) g0;have c1:u.cell? ⟨w.heap.size,1,none⟩=some (.int .u64 c):=t' (i:=1) g0;clear az hu hF g0 ab M O;refine ag' (by kernel_rfl)
   [fun v _=>v= .slice (some ⟨w.heap.size+2,52,none⟩) 12 12,fun v _=>v= .agg #[.int .u32 o, .int .u64 c],pm' (w.heap.size+3) (Mod.stampB o c),fun _ _=>True]
   [[(5,none)],[(2,none)],[(14,some 1)],[(13,some 0),(15,some 2)]] [some 13,some 14,some 15,some 16] [false,false,false,false,false,false,false,false,false,false,false,false,false,true,true,true,true,false]
   3 _ rfl rfl (by kernel_rfl) (by kernel_rfl) (by kernel_rfl) (by kernel_rfl) (by kernel_rfl) (by kernel_rfl) ?_ ?_ ?_
  ·repeat' (first|exact O' _|exact eV' _ _|exact X'|exact trivial|apply And.intro)
  ·refine⟨?_,?_,?_,trivial⟩;all_goals
    intro a y r F;have aF:=(r.cell (p:=⟨w.heap.size,0,none⟩) (by show w.heap.size < _;omega)).trans c0;have aG:=(r.cell (p:=⟨w.heap.size,1,none⟩) (by show w.heap.size < _;omega)).trans c1;have X:=r.size;clear r;simp only[M',List.getD_cons_zero,List.getD_cons_succ,Array.getD_eq_getD_getElem?]at F;try simp at F
    try go_simp
    try exact Below.refl _ _
   ·refine(i' (aj _)).mono ?_;rintro U aH ⟨Y,rfl,G,Z⟩;exact⟨Y,rfl,Z,G.mono (by omega),fun g aa=>(G.lt g aa).2⟩
  ·intro f y r z;simp only[af',List.take]at z;have aA:=z.1;have aB:=z.2.2.1;simp only[Y',aA];have g1:=(r.block _ (by show w.heap.size+1 < _;omega)).trans (i' I);have g2:=(r.block _ (by show w.heap.size+2 < _;omega)).trans (i' J);have H:=y' ((i' ah).trans (r.mono (by have:=(i' ah).size;omega)));generalize f 15=aI at *;generalize f 14=aQ at *;have X:=r.size;refine dr' (.tmp 13) (.tmp 15) rfl (w.heap.size+2) 52 12 12 _ (Mod.stampB o c) 214 aI g2 rfl aB.1.at rfl (by rw[Mod.length_stampB];omega) (by rw[i' ad];omega) ?_;intro z3 D hF;have Q:(lay (lay (lay aS' 0 (Mod.stampB o c)) 12 ins) 52 (Mod.stampB o c)).length=64:=by rw[gT' (by rw[i' ad,Mod.length_stampB];omega),i' ad]
   have g1:=hF.blk g1 (by omega);have aJ:=y' ((i' H).trans (hF.below (by omega) (fun k ac e=>by omega)));have aR:=hF.size;rw[show lay (lay (lay aS' 0 (Mod.stampB o c)) 12 ins) 52 (Mod.stampB o c)=Mod.sealB o c ins from uK' o c ins hi]at D Q;have I:=y' g1;have J:=y' D;clear r aA aB g1 g2 hF D H ah c0 c1;clear z;go_simp;go_wp2_with (first
    |(refine bW' rfl (.tmp 5) rfl (w.heap.size+2) rfl 214 (Mod.sealB o c ins) Q (i' J) ?_)
    |(refine cW' rfl (.tmp 4) (.tmp 17) rfl (w.heap.size+1) rfl (Mod.sealB o c ins) Q rfl 214 _ (by simp[ap',az']) (i' I) ?_;intro z4 aK aL;go_simp))
   exact bodyPost_ret (ej' Tryz.results171 _ _ (w.heap.size+1) _ _ Q rfl aK) rfl ⟨rfl,(i' aJ).trans (aL.below (by omega) (fun k ac e=>by omega))⟩
end Go.Proofs.YtamafdcnbcoegabGreat
