/-
  Part 2 of a proof: Mono, R1, R3, H1, H2, H3, H4, H6, H10, X1, D2, D3, D5, D4.
-/
import Derived.Below
import Derived.Orders
import Derived.Laws.ResultCell
import Derived.Deep.RegionHeld3
import Derived.Laws.CopyOwn
import Derived.DeepKeys
import Derived.Laws.StructEq
import Derived.Test.YtamafdcnbcoegaaGreatSf1
set_option maxRecDepth 100000
set_option maxHeartbeats 40000000
namespace Go.Proofs.YtamafdcnbcoegaaGreat
open Go.RowKit
theorem hao (w:World) (o:Obj) {f:Nat} (h:f < w.heap.size):(w.alloc o).heap[f]? =w.heap[f]? :=by
 show(w.heap.push o)[f]? = _;rw[Array.getElem?_push_lt h,Array.getElem?_eq_getElem h]
def wr (f:Array Oper) (t:Tmp):Option Nat:=(List.range f.size).find? fun j=>((f[j]?).bind (·.dst)) ==some t
def ar' (f:Array Oper) (i j:Nat):Bool:=match f[i]? with
 |some o=>o.after.any fun e=>Region.binds .any e&&e.on==j
 |none=>false
def bq' (f:Array Oper) (size:Nat):Bool:=
 Region.noSelect f&& (List.range f.size).all fun i=>match f[i]? with
  |none=>false
  |some o=>(match o.dst with
    |none=>true
    |some d=>decide (d < size) &&wr f d==some i)
   && ((o.looksAt f).all fun t=>match wr f t with
    |none=>true
    |some j=>ar' f i j||ar' f j i)
   &&o.after.all fun e=> !Region.binds .any e||decide (e.on < i)
theorem cd' {D:Type} {p q:D->Bool}:∀ {l:List D},(∀x∈l,q x=true->p x=true)->(∃x∈l,p x=true/\q x=false)->l.countP q < l.countP p
 |[],_,⟨_,h,_⟩=>by cases h
 |y::l,h,⟨x,f,h1,h2⟩=>by
  have F:l.countP q<=l.countP p:=List.countP_mono_left (fun r u=>h r (List.mem_cons_of_mem _ u));rcases List.mem_cons.1 f with rfl|f
  ·rw[List.countP_cons_of_pos h1,List.countP_cons_of_neg (by simp[h2])];omega
  ·have ih:=cd' (fun r u=>h r (List.mem_cons_of_mem _ u)) ⟨x,f,h1,h2⟩;by_cases z:q y=true
   ·rw[List.countP_cons_of_pos z,List.countP_cons_of_pos (h y (List.mem_cons_self ..) z)];omega
   ·rw[List.countP_cons_of_neg z];have:List.countP p (y::l)=l.countP p+if p y=true then 1 else 0:=by rw[List.countP_cons]
    rw[this];split <;> omega
section
variable {P:Program} {ops:Array Oper} {Q:Exit->Act->World->Prop}
def bo' (ops:Array Oper) (f:Nat->Value->World->Prop) (a0:Act) (i:Nat) (o:Oper) (a:Act) (w:World):Prop:=
 ∀t∈o.looksAt ops,match wr ops t with
  |some j=>if ar' ops i j=true then f j (a.tmps.getD t undef) w else a.tmps.getD t undef=a0.tmps.getD t undef
  |none=>a.tmps.getD t undef=a0.tmps.getD t undef
structure bp' (ops:Array Oper) (Φ:Nat->Value->World->Prop) (a0:Act) (w0:World) (L:Array Bool) (a:Act) (w:World):Prop where
 size:L.size=ops.size
 ext:Below w0.heap.size w0 w
 closed:∀k,L.getD k false=true->∀j,ar' ops k j=true->L.getD j false=true
 vals:∀i o d,ops[i]? =some o->o.dst=some d->L.getD i false=true->Φ i (a.tmps.getD d undef) w
 rest:∀t,(∀j,wr ops t=some j->L.getD j false=false)->a.tmps.getD t undef=a0.tmps.getD t undef
 defers:a.defers=a0.defers
 tsize:a.tmps.size=a0.tmps.size
theorem ah' {size:Nat} (h:bq' ops size=true) {i:Nat} {o:Oper} (f:ops[i]? =some o):
  (∀d,o.dst=some d->d < size/\wr ops d=some i)/\(∀t∈o.looksAt ops,∀j,wr ops t=some j->ar' ops i j=true\/ar' ops j i=true)/\(∀j,ar' ops i j=true->j < i):=by
 unfold bq' at h;rw[Bool.and_eq_true]at h;have hi:i < ops.size:=(Array.getElem?_eq_some_iff.1 f).1;have h1:=List.all_eq_true.1 h.2 i (List.mem_range.2 hi);simp only[f,Bool.and_eq_true]at h1;obtain⟨⟨h1,h2⟩,h3⟩:=h1;refine⟨fun d hd=>?_,fun t u j hj=>?_,fun j hj=>?_⟩
 ·rw[hd]at h1;simp only[Bool.and_eq_true,decide_eq_true_eq,beq_iff_eq]at h1;exact h1
 ·have:=List.all_eq_true.1 h2 t u;rw[hj]at this;simpa using this
 ·unfold ar' at hj;rw[f]at hj;obtain⟨e,z,r⟩:=Array.any_eq_true'.1 hj;simp only[Bool.and_eq_true,beq_iff_eq]at r;have:=Array.all_eq_true_iff_forall_mem.1 h3 e z;simp[r.1]at this;omega
theorem tf' {a0:Act} {w0:World} (z:Nat->Value->World->Prop) (V:bq' ops a0.tmps.size=true)
  (ay:∀i v w w',z i v w->Below w.heap.size w w'->z i v w')
  (az:∀i o,ops[i]? =some o->∀a w,Below w0.heap.size w0 w->bo' ops z a0 i o a w->
   if Region.wanted o (yielded ops a.tmps)=true then o.wp P a w (fun a' w'=>∃v,a'=a.put o.dst v/\Below w.heap.size w w'/\z i v w') Q else z i undef w)
  (aA:∀a w,Below w0.heap.size w0 w->(∀i o d,ops[i]? =some o->o.dst=some d->z i (a.tmps.getD d undef) w)->(∀t,wr ops t=none->a.tmps.getD t undef=a0.tmps.getD t undef)->a.defers=a0.defers->a.tmps.size=a0.tmps.size->Q .normal a w):
  ∀ (H:Nat) (L:Array Bool) (a:Act) (w:World),bp' ops z a0 w0 L a w->(List.range ops.size).countP (fun i=> !L.getD i false)<=H->wpAny P .any ops Q H L a w:=by
 have aj:∀ (L:Array Bool) (a:Act) (w:World),bp' ops z a0 w0 L a w->Region.ready .any ops L=[]->Q .normal a w:=by
  intro L a w f M;have aB:∀n i,i < n->i < ops.size->L.getD i false=true:=by
   intro n;induction n with
   |zero=>intro i h;omega
   |succ n ih=>
    intro i h hi;by_cases aC:i < n
    ·exact ih i aC hi
    ·have e:i=n:=by omega
     subst e;cases ak:L.getD i false
     ·exfalso;have u:ops[i]? =some ops[i]:=Array.getElem?_eq_getElem hi;obtain⟨_,_,h3⟩:=ah' V u;have:i∈Region.ready .any ops L:=mem_ready.2 ⟨by
       have hs:i < L.size:=by rw[f.size];exact hi
       rw[Array.getD_eq_getD_getElem?,Array.getElem?_eq_getElem hs]at ak ⊢;exact ak,ops[i],u,fun e X D=>by
       have hd:ar' ops i e.on=true:=by unfold ar';rw[u];exact Array.any_eq_true'.2 ⟨e,X,by simp[D]⟩
       have G:=h3 _ hd;exact ih e.on G (by omega)⟩
      rw[M]at this;cases this
     ·rfl
  refine aA a w f.ext (fun i o d u hd=>f.vals i o d u hd (aB ops.size i (Array.getElem?_eq_some_iff.1 u).1 (Array.getElem?_eq_some_iff.1 u).1)) (fun t I=>f.rest t (fun j hj=>by rw[I]at hj;cases hj)) f.defers f.tsize
 intro H;induction H with
 |zero=>
  intro L a w f aD;have M:Region.ready .any ops L=[]:=by
   apply List.eq_nil_iff_forall_not_mem.2;intro i hi;obtain⟨h0,o,u,_⟩:=mem_ready.1 hi;have G:i < ops.size:=(Array.getElem?_eq_some_iff.1 u).1;have J:L.getD i false=false:=by
    have hs:i < L.size:=by rw[f.size];exact G
    rw[Array.getD_eq_getD_getElem?,Array.getElem?_eq_getElem hs]at h0 ⊢;exact h0
   have:0 < (List.range ops.size).countP (fun i=> !L.getD i false):=List.countP_pos_iff.2 ⟨i,List.mem_range.2 G,by simp[J]⟩;omega
  exact⟨M,aj L a w f M⟩
 |succ H ih=>
  intro L a w f aD;refine⟨aj L a w f,fun i hi=>?_⟩;obtain⟨h0,o,u,aE⟩:=mem_ready.1 hi;have G:i < ops.size:=(Array.getElem?_eq_some_iff.1 u).1;have Y:i < L.size:=by rw[f.size];exact G
  have J:L.getD i false=false:=by rw[Array.getD_eq_getD_getElem?,Array.getElem?_eq_getElem Y]at h0 ⊢;exact h0
  obtain⟨hd,hl,aJ⟩:=ah' V u;have ao:∀j,ar' ops i j=true->L.getD j false=true:=by intro j hj;unfold ar' at hj;rw[u]at hj;obtain⟨e,X,D⟩:=Array.any_eq_true'.1 hj;simp only[Bool.and_eq_true,beq_iff_eq]at D;rw[<-D.2];exact aE e X D.1
  have aF:bo' ops z a0 i o a w:=by
   intro t I;cases F:wr ops t with
   |none=>exact f.rest t (fun j hj=>by rw[F]at hj;cases hj)
   |some j=>
    simp only[];have hj:=List.find?_some F;simp only[beq_iff_eq]at hj;split
    ·rename_i Z;cases aa:ops[j]? with
     |none=>rw[aa]at hj;cases hj
     |some aG=>rw[aa]at hj;exact f.vals j aG t aa hj (ao j Z)
    ·rename_i Z;refine f.rest t (fun aK ap=>?_);rw[F]at ap;cases ap;rcases hl t I j F with h|h
     ·exact absurd h Z
     ·cases ab:L.getD j false
      ·rfl
      ·have:=f.closed j ab i h;rw[J]at this;cases this
  have aq:∀v w',Below w.heap.size w w'->z i v w'->bp' ops z a0 w0 (L.setIfInBounds i true) (a.put o.dst v) w':=by
   intro v w' D ac;have O:∀k,(L.setIfInBounds i true).getD k false=true↔ (k=i\/L.getD k false=true):=by
    intro k;by_cases r:k=i
    ·subst r;simp[Array.getD_eq_getD_getElem?,Y]
    ·rw[getD_set_ne false (fun e=>r e.symm)];simp[r]
   have au:∀t,(a.put o.dst v).tmps.getD t undef=if o.dst=some t then v else a.tmps.getD t undef:=by
    intro t;cases aH:o.dst with
    |none=>simp[Act.put]
    |some d=>
     simp only[Act.put,Option.some.injEq];have aI:d < a.tmps.size:=by rw[f.tsize];exact(hd d aH).1
     by_cases h:d=t
     ·subst h;simp[Array.getD_eq_getD_getElem?,aI]
     ·simp[Array.getD_eq_getD_getElem?,h]
   refine⟨by simp[f.size],f.ext.trans (D.mono f.ext.size),?_,?_,?_,?_,?_⟩
   ·intro k r j hj;rw[O]at r ⊢;rcases r with rfl|r
    ·exact .inr (ao j hj)
    ·exact .inr (f.closed k r j hj)
   ·intro k ok d U ad r;rw[O]at r;rw[au];rcases r with rfl|r
    ·rw[u]at U;cases U;rw[if_pos ad];exact ac
    ·have ah:o.dst≠some d:=by intro e;have h1:=(hd d e).2;have h2:=((ah' V U).1 d ad).2;rw[h1]at h2;cases h2;rw[J]at r;cases r
     rw[if_neg ah];exact ay k _ _ _ (f.vals k ok d U ad r) D
   ·intro t I;rw[au];have ah:o.dst≠some t:=by intro e;have:=I i (hd t e).2;have h2:=(O i).2 (.inl rfl);rw[this]at h2;cases h2
    rw[if_neg ah];refine f.rest t (fun j hj=>?_);cases ab:L.getD j false
    ·rfl
    ·have:=I j hj;rw[(O j).2 (.inr ab)]at this;cases this
   ·cases o.dst <;> exact f.defers
   ·rw[<-f.tsize];cases o.dst <;> simp[Act.put]
  have av:(List.range ops.size).countP (fun k=> !(L.setIfInBounds i true).getD k false)<=H:=by
   have:=cd' (l:=List.range ops.size) (p:=fun k=> !L.getD k false) (q:=fun k=> !(L.setIfInBounds i true).getD k false)
    (fun k _ r=>by
     by_cases ax:k=i
     ·subst ax;simp[J]
     ·rw[getD_set_ne false (fun e=>ax e.symm)]at r;exact r)
    ⟨i,List.mem_range.2 G,by simp[J],by simp[Array.getD_eq_getD_getElem?,Y]⟩
   omega
  have ai:=az i o u a w f.ext aF;unfold wpOp;rw[u];simp only[];split at ai
  ·rename_i F;rw[if_pos F];refine .inl (Oper.wp_mono ?_ ai);rintro a' w' ⟨v,rfl,D,ac⟩;exact ih _ _ _ (aq v w' D ac) av
  ·rename_i F;rw[if_neg F];exact ih _ _ _ (aq undef w (Below.refl _ _) ai) av
def eE' (ops:Array Oper) (last:Nat):Bool:=(List.range last).all fun i=>(List.range (last+1)).any fun k=>ar' ops k i
theorem lE' {a0:Act} {w0:World} (u:Nat->Value->World->Prop) (V:bq' ops a0.tmps.size=true) (last:Nat) (aZ:ops.size=last+1) (ap:eE' ops last=true)
  (aF:∀i v w w',u i v w->Below w.heap.size w w'->u i v w')
  (aG:∀i o,i < last->ops[i]? =some o->∀a w,Below w0.heap.size w0 w->bo' ops u a0 i o a w->
   if Region.wanted o (yielded ops a.tmps)=true then o.wp P a w (fun a' w'=>∃v,a'=a.put o.dst v/\Below w.heap.size w w'/\u i v w') Q else u i undef w)
  (aH:∀a w,Below w0.heap.size w0 w->(∀i o d,i < last->ops[i]? =some o->o.dst=some d->u i (a.tmps.getD d undef) w)->(∀t,(∀j,wr ops t=some j->j=last)->a.tmps.getD t undef=a0.tmps.getD t undef)->a.defers=a0.defers->a.tmps.size=a0.tmps.size->wpOp P ops Q last (Q .normal) a w):
  ∀ (I:Nat) (L:Array Bool) (a:Act) (w:World),bp' ops u a0 w0 L a w->L.getD last false=false->(List.range ops.size).countP (fun i=> !L.getD i false)<=I->wpAny P .any ops Q I L a w:=by
 have aI:∀ (L:Array Bool) (a:Act) (w:World),bp' ops u a0 w0 L a w->L.getD last false=false->Region.ready .any ops L=[]->False:=by
  intro L a w f G aJ;have X:∀n i,i < n->i < ops.size->L.getD i false=true:=by
   intro n;induction n with
   |zero=>intro i h;omega
   |succ n ih=>
    intro i h hi;by_cases aK:i < n
    ·exact ih i aK hi
    ·have e:i=n:=by omega
     subst e;cases aq:L.getD i false
     ·exfalso;have z:ops[i]? =some ops[i]:=Array.getElem?_eq_getElem hi;obtain⟨_,_,h3⟩:=ah' V z;have:i∈Region.ready .any ops L:=mem_ready.2 ⟨by
       have hs:i < L.size:=by rw[f.size];exact hi
       rw[Array.getD_eq_getD_getElem?,Array.getElem?_eq_getElem hs]at aq ⊢;exact aq,ops[i],z,fun e ab D=>by
       have hd:ar' ops i e.on=true:=by unfold ar';rw[z];exact Array.any_eq_true'.2 ⟨e,ab,by simp[D]⟩
       have M:=h3 _ hd;exact ih e.on M (by omega)⟩
      rw[aJ]at this;cases this
     ·rfl
  have:=X ops.size last (by omega) (by omega);rw[G]at this;cases this
 have aL:∀ (L:Array Bool) (a:Act) (w:World),bp' ops u a0 w0 L a w->(∀j,ar' ops last j=true->L.getD j false=true)->∀n i,last<=i+n->i < last->L.getD i false=true:=by
  intro L a w f O n;induction n with
  |zero=>intro i h hi;omega
  |succ n ih=>
   intro i h hi;unfold eE' at ap;have h1:=List.all_eq_true.1 ap i (List.mem_range.2 hi);obtain⟨k,r,hd⟩:=List.any_eq_true.1 h1;have ba:k < last+1:=List.mem_range.1 r;by_cases aM:k=last
   ·subst aM;exact O i hd
   ·have M:i < k:=by
     unfold ar' at hd;cases H:ops[k]? with
     |none=>rw[H]at hd;cases hd
     |some ok=>obtain⟨_,_,h3⟩:=ah' V H;exact h3 i (by unfold ar';exact hd)
    exact f.closed k (ih k (by omega) (by omega)) i hd
 intro I;induction I with
 |zero=>intro L a w f G aN;have:0 < (List.range ops.size).countP (fun i=> !L.getD i false):=List.countP_pos_iff.2 ⟨last,List.mem_range.2 (by omega),by simp only[G];rfl⟩;omega
 |succ I ih=>
  intro L a w f G aN;refine⟨fun h=>(aI L a w f G h).elim,fun i hi=>?_⟩;obtain⟨h0,o,z,aO⟩:=mem_ready.1 hi;have M:i < ops.size:=(Array.getElem?_eq_some_iff.1 z).1;have Y:i < L.size:=by rw[f.size];exact M
  have Z:L.getD i false=false:=by rw[Array.getD_eq_getD_getElem?,Array.getElem?_eq_getElem Y]at h0 ⊢;exact h0
  obtain⟨hd,hl,bb⟩:=ah' V z;have O:∀j,ar' ops i j=true->L.getD j false=true:=by intro j hj;unfold ar' at hj;rw[z]at hj;obtain⟨e,ab,D⟩:=Array.any_eq_true'.1 hj;simp only[Bool.and_eq_true,beq_iff_eq]at D;rw[<-D.2];exact aO e ab D.1
  by_cases au:i=last
  ·subst au;have X:=aL L a w f O i;refine wpOp_mono ?_ (aH a w f.ext (fun j aP d hj aQ aR=>f.vals j aP d aQ aR (X j (by omega) hj)) (fun t J=>f.rest t (fun j hj=>by rw[J j hj];exact G)) f.defers f.tsize);intro a' w' aS;refine wpAny_done ?_ aS _;apply List.eq_nil_iff_forall_not_mem.2;intro j hj;obtain⟨av,ax,U,_⟩:=mem_ready.1 hj;have aT:j < ops.size:=(Array.getElem?_eq_some_iff.1 U).1;have aU:j < L.size:=by rw[f.size];exact aT
   have ac:(L.setIfInBounds i true).getD j false=false:=by rw[Array.getD_eq_getD_getElem?,Array.getElem?_eq_getElem (by simpa using aU)]at av ⊢;exact av
   by_cases ay:j=i
   ·subst ay;simp[Array.getD_eq_getD_getElem?,Y]at ac
   ·rw[getD_set_ne false (fun e=>ay e.symm),X j (by omega) (by omega)]at ac;cases ac
  have aV:i < last:=by omega
  have aW:bo' ops u a0 i o a w:=by
   intro t J;cases F:wr ops t with
   |none=>exact f.rest t (fun j hj=>by rw[F]at hj;cases hj)
   |some j=>
    simp only[];have hj:=List.find?_some F;simp only[beq_iff_eq]at hj;split
    ·rename_i ad;cases U:ops[j]? with
     |none=>rw[U]at hj;cases hj
     |some ax=>rw[U]at hj;exact f.vals j ax t U hj (O j ad)
    ·rename_i ad;refine f.rest t (fun bc az=>?_);rw[F]at az;cases az;rcases hl t J j F with h|h
     ·exact absurd h ad
     ·cases ah:L.getD j false
      ·rfl
      ·have:=f.closed j ah i h;rw[Z]at this;cases this
  have aA:∀v w',Below w.heap.size w w'->u i v w'->bp' ops u a0 w0 (L.setIfInBounds i true) (a.put o.dst v) w':=by
   intro v w' D ai;have aa:∀k,(L.setIfInBounds i true).getD k false=true↔ (k=i\/L.getD k false=true):=by
    intro k;by_cases r:k=i
    ·subst r;simp[Array.getD_eq_getD_getElem?,Y]
    ·rw[getD_set_ne false (fun e=>r e.symm)];simp[r]
   have aB:∀t,(a.put o.dst v).tmps.getD t undef=if o.dst=some t then v else a.tmps.getD t undef:=by
    intro t;cases aX:o.dst with
    |none=>simp[Act.put]
    |some d=>
     simp only[Act.put,Option.some.injEq];have aY:d < a.tmps.size:=by rw[f.tsize];exact(hd d aX).1
     by_cases h:d=t
     ·subst h;simp[Array.getD_eq_getD_getElem?,aY]
     ·simp[Array.getD_eq_getD_getElem?,h]
   refine⟨by simp[f.size],f.ext.trans (D.mono f.ext.size),?_,?_,?_,?_,?_⟩
   ·intro k r j hj;rw[aa]at r ⊢;rcases r with rfl|r
    ·exact .inr (O j hj)
    ·exact .inr (f.closed k r j hj)
   ·intro k ok d H aj r;rw[aa]at r;rw[aB];rcases r with rfl|r
    ·rw[z]at H;cases H;rw[if_pos aj];exact ai
    ·have ak:o.dst≠some d:=by intro e;have h1:=(hd d e).2;have h2:=((ah' V H).1 d aj).2;rw[h1]at h2;cases h2;rw[Z]at r;cases r
     rw[if_neg ak];exact aF k _ _ _ (f.vals k ok d H aj r) D
   ·intro t J;rw[aB];have ak:o.dst≠some t:=by intro e;have:=J i (hd t e).2;have h2:=(aa i).2 (.inl rfl);rw[this]at h2;cases h2
    rw[if_neg ak];refine f.rest t (fun j hj=>?_);cases ah:L.getD j false
    ·rfl
    ·have:=J j hj;rw[(aa j).2 (.inr ah)]at this;cases this
   ·cases o.dst <;> exact f.defers
   ·rw[<-f.tsize];cases o.dst <;> simp[Act.put]
  have aC:(List.range ops.size).countP (fun k=> !(L.setIfInBounds i true).getD k false)<=I:=by
   have:=cd' (l:=List.range ops.size) (p:=fun k=> !L.getD k false) (q:=fun k=> !(L.setIfInBounds i true).getD k false)
    (fun k _ r=>by
     by_cases aD:k=i
     ·subst aD;simp[Z]
     ·rw[getD_set_ne false (fun e=>aD e.symm)]at r;exact r)
    ⟨i,List.mem_range.2 M,by simp[Z],by simp[Array.getD_eq_getD_getElem?,Y]⟩
   omega
  have aE:(L.setIfInBounds i true).getD last false=false:=by rw[getD_set_ne false au];exact G
  have ao:=aG i o aV z a w f.ext aW;unfold wpOp;rw[z];simp only[];split at ao
  ·rename_i F;rw[if_pos F];refine .inl (Oper.wp_mono ?_ ao);rintro a' w' ⟨v,rfl,D,ai⟩;exact ih _ _ _ (aA v w' D ai) aE aC
  ·rename_i F;rw[if_neg F];exact ih _ _ _ (aA undef w (Below.refl _ _) ao) aE aC
theorem jX' {id:Nat} {a0:Act} {w0:World} (u:P.follows .mixedOrders=true) (f:Nat->Value->World->Prop) (z:bq' ops a0.tmps.size=true)
  (D:∀i v w w',f i v w->Below w.heap.size w w'->f i v w')
  (F:∀i o,ops[i]? =some o->∀a w,Below w0.heap.size w0 w->bo' ops f a0 i o a w->
   if Region.wanted o (yielded ops a.tmps)=true then o.wp P a w (fun a' w'=>∃v,a'=a.put o.dst v/\Below w.heap.size w w'/\f i v w') Q else f i undef w)
  (G:∀a w,Below w0.heap.size w0 w->(∀i o d,ops[i]? =some o->o.dst=some d->f i (a.tmps.getD d undef) w)->(∀t,wr ops t=none->a.tmps.getD t undef=a0.tmps.getD t undef)->a.defers=a0.defers->a.tmps.size=a0.tmps.size->Q .normal a w):
  (Code.region id ops true).wp P Q a0 w0:=by
 refine wp_region_any u (tf' (w0:=w0) f z D F G ops.size _ a0 _ ⟨by simp,(Below.refl _ _).drew,?_,?_,fun _ _=>rfl,rfl,rfl⟩ ?_)
 ·intro k r;simp[Array.getD_eq_getD_getElem?]at r;rcases h:(Array.replicate ops.size false)[k]? with _|b <;> simp[h]at r;subst r;have:=Array.getElem?_eq_some_iff.1 h;obtain⟨h1,h2⟩:=this;simp at h2
 ·intro i o d H hd r;exfalso;simp[Array.getD_eq_getD_getElem?]at r;rcases h:(Array.replicate ops.size false)[i]? with _|b <;> simp[h]at r;subst r;have:=Array.getElem?_eq_some_iff.1 h;obtain⟨h1,h2⟩:=this;simp at h2
 ·exact Nat.le_trans List.countP_le_length (by simp)
def bR' (ops:Array Oper):List (List (Tmp×Option Nat)):=
 (List.range ops.size).map fun i=>match ops[i]? with
  |some o=>(o.looksAt ops).map fun t=>(t,match wr ops t with
    |some j=>if ar' ops i j=true then some j else none
    |none=>none)
  |none=>[]
def I' (L:List (Value->World->Prop)) (a0 a:Act) (w:World):List (Tmp×Option Nat)->Prop
 |[]=>True
 |(t,some j)::f=>L.getD j (fun _ _=>True) (a.tmps.getD t undef) w/\I' L a0 a w f
 |(t,none)::f=>a.tmps.getD t undef=a0.tmps.getD t undef/\I' L a0 a w f
def fO' (P:Program) (ops:Array Oper) (Q:Exit->Act->World->Prop) (L:List (Value->World->Prop)) (a0:Act) (w0:World):List Oper->List (List (Tmp×Option Nat))->List (Value->World->Prop)->Prop
 |o::os,r::u,f::z=>(∀a w,Below w0.heap.size w0 w->I' L a0 a w r->
   if Region.wanted o (yielded ops a.tmps)=true then o.wp P a w (fun a' w'=>∃v,a'=a.put o.dst v/\Below w.heap.size w w'/\f v w') Q else f undef w)/\fO' P ops Q L a0 w0 os u z
 |[],_,_=>True
 | _,_,_=>False
def bA' (f:Value->World->Prop):Prop:=∀v w w',f v w->Below w.heap.size w w'->f v w'
theorem J' (c:Value):bA' (fun v _=>v=c):=fun _ _ _ h _=>h
theorem Z':bA' (fun _ _=>True):=fun _ _ _ _ _=>trivial
def bs':List (Value->World->Prop)->Prop
 |[]=>True
 |f::r=>bA' f/\bs' r
theorem bi' {L:List (Value->World->Prop)} (h:bs' L) (i:Nat):bA' (L.getD i (fun _ _=>True)):=by
 induction L generalizing i with
 |nil=>exact Z'
 |cons f r ih=>
  cases i with
  |zero=>exact h.1
  |succ i=>exact ih h.2 i
theorem bd' {f:Nat->Value->World->Prop} {L:List (Value->World->Prop)} (r:f=fun i=>L.getD i (fun _ _=>True)) {a0 a:Act} {w:World} {i:Nat} {o:Oper}:
  ∀ (l:List Tmp),(∀t∈l,match wr ops t with
   |some j=>if ar' ops i j=true then f j (a.tmps.getD t undef) w else a.tmps.getD t undef=a0.tmps.getD t undef
   |none=>a.tmps.getD t undef=a0.tmps.getD t undef)->
  I' L a0 a w (l.map fun t=>(t,match wr ops t with
    |some j=>if ar' ops i j=true then some j else none
    |none=>none))
 |[],_=>trivial
 |t::l,h=>by
  have h1:=h t (List.mem_cons_self ..);have h2:=bd' r (o:=o) l (fun t z=>h t (List.mem_cons_of_mem _ z));simp only[List.map_cons];cases u:wr ops t with
  |none=>rw[u]at h1;exact⟨h1,h2⟩
  |some j=>
   rw[u]at h1;simp only[]at h1 ⊢;split
   ·rename_i hd;rw[if_pos hd,r]at h1;exact⟨h1,h2⟩
   ·rename_i hd;rw[if_neg hd]at h1;exact⟨h1,h2⟩
theorem dU' {L:List (Value->World->Prop)} {a0:Act} {w0:World}:∀ {os:List Oper} {u:List (List (Tmp×Option Nat))} {z:List (Value->World->Prop)},fO' P ops Q L a0 w0 os u z->
  ∀ (i:Nat) o f,os[i]? =some o->u[i]? =some f->∀a w,Below w0.heap.size w0 w->I' L a0 a w f->
   if Region.wanted o (yielded ops a.tmps)=true then o.wp P a w (fun a' w'=>∃v,a'=a.put o.dst v/\Below w.heap.size w w'/\z.getD i (fun _ _=>True) v w') Q else z.getD i (fun _ _=>True) undef w
 |[],_,_,_,i,o,f,r,_=>by simp at r
 |o::os,[],_,h,_,_,_,_,_=>h.elim
 |o::os,f::u,[],h,_,_,_,_,_=>h.elim
 |o::os,f::u,G::z,h,0,F,pl',r,D=>by simp at r D;subst r;subst D;exact h.1
 |o::os,f::u,G::z,h,i+1,F,pl',r,D=>dU' h.2 i F pl' (by simpa using r) (by simpa using D)
theorem jv' {id:Nat} {a0:Act} {w0:World} (u:P.follows .mixedOrders=true) (L:List (Value->World->Prop)) (f:List (List (Tmp×Option Nat))) (z:bq' ops a0.tmps.size=true)
  (D:bR' ops=f) (F:bs' L) (G:fO' P ops Q L a0 w0 ops.toList f L)
  (H:∀a w,Below w0.heap.size w0 w->(∀i o d,ops[i]? =some o->o.dst=some d->L.getD i (fun _ _=>True) (a.tmps.getD d undef) w)->(∀t,wr ops t=none->a.tmps.getD t undef=a0.tmps.getD t undef)->a.defers=a0.defers->a.tmps.size=a0.tmps.size->Q .normal a w):
  (Code.region id ops true).wp P Q a0 w0:=by
 refine jX' u (fun i=>L.getD i (fun _ _=>True)) z (fun i=>bi' F i) ?_ H;intro i o r a w I J;have M:i < ops.size:=(Array.getElem?_eq_some_iff.1 r).1;have O:f[i]? =some ((o.looksAt ops).map fun t=>(t,match wr ops t with
    |some j=>if ar' ops i j=true then some j else none
    |none=>none)):=by
  rw[<-D];unfold bR';rw[List.getElem?_map,List.getElem?_range M,Option.map_some,r]
 exact dU' G i o _ (by simpa using r) O a w I (bd' rfl (o:=o) _ J)
def be' (ops:Array Oper) (n:Nat):List Bool:=(List.range n).map fun t=>(wr ops t).isSome
def ei' (ops:Array Oper):List (Option Tmp):=ops.toList.map (·.dst)
def R':List Bool->List Value->Nat->(Nat->Value)->List Value
 |true::bs,_::vs,i,f=>f i::R' bs vs (i+1) f
 |false::bs,v::vs,i,f=>v::R' bs vs (i+1) f
 | _,vs,_,_=>vs
def ae' (f:Nat->Value) (w:World):List (Option Tmp)->List (Value->World->Prop)->Prop
 |some d::ds,u::r=>u (f d) w/\ae' f w ds r
 |none::ds,_::r=>ae' f w ds r
 | _,_=>True
theorem ce' (r:Nat->Value):∀ (bs:List Bool) (vs f:List Value) (i:Nat),bs.length=vs.length->f.length=vs.length->
  (∀j,j < f.length->bs.getD j false=true->f.getD j undef=r (i+j))->(∀j,j < f.length->bs.getD j false=false->f.getD j undef=vs.getD j undef)->R' bs vs i r=f
 |[],[],[],_,_,_,_,_=>rfl
 |[],[],_:: _,_,_,h,_,_=>by simp at h
 | _:: _,[],_,_,h,_,_,_=>by simp at h
 |[],_:: _,_,_,h,_,_,_=>by simp at h
 | _:: _,_:: _,[],_,_,h,_,_=>by simp at h
 |b::bs,v::vs,t::f,i,h1,h2,h3,h4=>by
  have ih:=ce' r bs vs f (i+1) (by simpa using h1) (by simpa using h2)
   (fun j hj u=>by have:=h3 (j+1) (by simpa using hj) (by simpa using u);simpa[Nat.add_assoc,Nat.add_comm 1 j]using this)
   (fun j hj u=>by have:=h4 (j+1) (by simpa using hj) (by simpa using u);simpa using this)
  cases b
  ·have:=h4 0 (by simp) rfl;simp at this;simp[R',ih,this]
  ·have:=h3 0 (by simp) rfl;simp at this;simp[R',ih,this]
theorem cx' {f:Nat->Value} {w:World}:∀ {os:List Oper} {L:List (Value->World->Prop)},(∀i o d,os[i]? =some o->o.dst=some d->L.getD i (fun _ _=>True) (f d) w)->ae' f w (os.map (·.dst)) L
 |[],_,_=>by simp[ae']
 |o::os,[],_=>by cases h:o.dst <;> simp[ae',h]
 |o::os,D::r,h=>by
  have ih:=cx' (os:=os) (L:=r) (fun i u d z hd=>h (i+1) u d (by simpa using z) hd);cases hd:o.dst with
  |none=>simpa[ae',hd]using ih
  |some d=>simpa[ae',hd]using ⟨h 0 o d rfl hd,ih⟩
theorem cp' {id:Nat} {a0:Act} {w0:World} (G:P.follows .mixedOrders=true) (L:List (Value->World->Prop)) (r:List (List (Tmp×Option Nat))) (z:List (Option Tmp)) (u:List Bool)
  (H:bq' ops a0.tmps.size=true) (I:bR' ops=r) (J:ei' ops=z) (D:be' ops a0.tmps.size=u) (M:bs' L) (O:fO' P ops Q L a0 w0 ops.toList r L)
  (U:∀F w,Below w0.heap.size w0 w->ae' F w z L->Q .normal {tmps:=(R' u a0.tmps.toList 0 F).toArray,defers:=a0.defers} w):
  (Code.region id ops true).wp P Q a0 w0:=by
 refine jv' G L r H I M O ?_;intro a w f V X hd hs;have h:=U (fun t=>a.tmps.getD t undef) w f (by rw[<-J];exact cx' (fun i o d Y Z=>V i o d (by simpa using Y) Z));have e:R' u a0.tmps.toList 0 (fun t=>a.tmps.getD t undef)=a.tmps.toList:=by
  refine ce' _ _ _ _ _ (by rw[<-D];simp[be']) (by simpa using hs) ?_ ?_
  ·intro j hj _;simp[Array.getD_eq_getD_getElem?,List.getD_eq_getElem?_getD]
  ·intro j hj f;rw[<-D]at f;have aa:j < a0.tmps.size:=by rw[<-hs];simpa using hj
   have ab:wr ops j=none:=by unfold be' at f;simp[List.getD_eq_getElem?_getD,List.getElem?_map,List.getElem?_range aa]at f;exact f
   have:=X j ab;simpa[Array.getD_eq_getD_getElem?,List.getD_eq_getElem?_getD]using this
 rw[e,<-hd]at h;exact h
theorem aj' {id:Nat} {a0:Act} {w0:World} (M:P.follows .mixedOrders=true) (L:List (Value->World->Prop)) (z:List (List (Tmp×Option Nat))) (G:List (Option Tmp)) (D:List Bool) (last:Nat) (ol:Oper) (O:ops[last]? =some ol) (U:ol.guard=none)
  (H:ops.size=last+1) (V:eE' ops last=true)
  (X:bq' ops a0.tmps.size=true) (Y:bR' ops=z) (Z:ei' ops=G) (I:be' ops a0.tmps.size=D) (aa:bs' L) (ab:fO' P ops Q L a0 w0 (ops.toList.take last) z L)
  (ac:∀J w,Below w0.heap.size w0 w->ae' J w (G.take last) L->ol.wp P {tmps:=(R' D a0.tmps.toList 0 J).toArray,defers:=a0.defers} w (Q .normal) Q):
  (Code.region id ops true).wp P Q a0 w0:=by
 refine wp_region_any M (lE' (w0:=w0) (fun i=>L.getD i (fun _ _=>True)) X last H V (fun i=>bi' aa i) ?_ ?_ ops.size _ a0 _ ⟨by simp,(Below.refl _ _).drew,?_,?_,fun _ _=>rfl,rfl,rfl⟩ ?_ ?_)
 ·intro i o F r a w u ad;have ah:i < ops.size:=(Array.getElem?_eq_some_iff.1 r).1;have ai:z[i]? =some ((o.looksAt ops).map fun t=>(t,match wr ops t with
     |some j=>if ar' ops i j=true then some j else none
     |none=>none)):=by
   rw[<-Y];unfold bR';rw[List.getElem?_map,List.getElem?_range ah,Option.map_some,r]
  exact dU' ab i o _ (by rw[List.getElem?_take,if_pos F];simpa using r) ai a w u (bd' rfl (o:=o) _ ad)
 ·intro a w u aj ak hd hs;have h:=ac (fun t=>a.tmps.getD t undef) w u (by
   rw[<-Z,ei',<-List.map_take];exact cx' (fun i o d r ao=>by
    rw[List.getElem?_take]at r;split at r
    ·rename_i F;exact aj i o d F (by simpa using r) ao
    ·cases r))
  have e:R' D a0.tmps.toList 0 (fun t=>a.tmps.getD t undef)=a.tmps.toList:=by
   refine ce' _ _ _ _ _ (by rw[<-I];simp[be']) (by simpa using hs) ?_ ?_
   ·intro j hj _;simp[Array.getD_eq_getD_getElem?,List.getD_eq_getElem?_getD]
   ·intro j hj u;rw[<-I]at u;have ap:j < a0.tmps.size:=by rw[<-hs];simpa using hj
    have aq:wr ops j=none:=by unfold be' at u;simp[List.getD_eq_getElem?_getD,List.getElem?_map,List.getElem?_range ap]at u;exact u
    have:=ak j (fun k f=>by rw[aq]at f;cases f);simpa[Array.getD_eq_getD_getElem?,List.getD_eq_getElem?_getD]using this
  rw[e,<-hd]at h;unfold wpOp;rw[O];simp only[];rw[if_pos (by simp[Region.wanted,U])];exact .inl h
 ·intro k f;simp[Array.getD_eq_getD_getElem?]at f;rcases h:(Array.replicate ops.size false)[k]? with _|b <;> simp[h]at f;subst f;obtain⟨h1,h2⟩:=Array.getElem?_eq_some_iff.1 h;simp at h2
 ·intro i o d r hd f;exfalso;simp[Array.getD_eq_getD_getElem?]at f;rcases h:(Array.replicate ops.size false)[i]? with _|b <;> simp[h]at f;subst f;obtain⟨h1,h2⟩:=Array.getElem?_eq_some_iff.1 h;simp at h2
 ·simp[Array.getD_eq_getD_getElem?,H]
 ·exact Nat.le_trans List.countP_le_length (by simp)
end
def dR' (n:Int):ByteArray:=⟨#[UInt8.ofNat (n.toNat % 256),UInt8.ofNat (n.toNat / 256 % 256),UInt8.ofNat (n.toNat / 65536 % 256),UInt8.ofNat (n.toNat / 16777216 % 256)]⟩
theorem sg' (n:Int):(dR' n).data.toList=Wire.le4 n:=rfl
theorem si' (x:Int):(dR' x).size=4:=rfl
theorem iW' (S:ByteArray):S.toList=S.data.toList:=ByteArray.toList_eq S
theorem M' {w w':World} {B:Nat} {e:TypeId} {v:Value} {n:Nat} {xs:List Value} (h:w.ownsRow B e 1 v n xs) (f:∀g,v.ownBlock=some g->w'.heap[g]? =w.heap[g]?):w'.ownsRow B e 1 v n xs:=by
 obtain⟨h1,h2⟩:=h;refine⟨h1,?_⟩;rcases h2 with h2|⟨g,cap,r,rfl,u,z,D⟩
 ·exact .inl h2
 ·exact .inr ⟨g,cap,r,rfl,u,by rw[f g rfl];exact z,D⟩
structure App (w w':World) (v v':Value):Prop where
 grown:w.grownBy w' v.ownBlock
 where_:v'.ownBlock=v.ownBlock\/(w.grownBy w' none/\∃g,v'.ownBlock=some g/\w.heap.size<=g)
theorem m' {w:World} {p i:Nat} {c:Array Value} {e:TypeId} {fr:Nat×Nat} (h:w.heap[p]? =some (.cells c e fr)):w.cell? ⟨p,i,none⟩=c[i]? :=by simp[World.cell?,h]
theorem D' {w:World} {p i:Nat} {c:Array Value} {e:TypeId} (h:w.heap[p]? =some (.cells c e (0,0))):w.frozen? ⟨p,i,none⟩=false:=by simp[World.frozen?,h]
def y' (p:Nat):Value:= .pointer (some ⟨p,0,none⟩)
theorem vG' {w:World} {e r:TypeId} {v:Value} {n p:Nat} {xs:List Value} {c:Array Value} {fr:Nat×Nat} (h:w.ownsRow 0 e 1 v n xs) (f:w.heap[p]? =some (.cells c r fr)) (z:e≠r):v.ownBlock≠some p:=by
 intro u;obtain⟨_,h2⟩:=h;rcases h2 with ⟨rfl,_⟩|⟨g,cap,F,rfl,_,D,_⟩
 ·cases u
 ·cases u;rw[D]at f;injection f with f;injection f with _ f _;exact z f
theorem fP' {w:World} {e:TypeId} {v:Value} {n:Nat} {xs:List Value} (h:w.ownsRow 0 e 1 v n xs) (f:0 < n):∃g cap,v= .slice (some ⟨g,0,none⟩) n cap:=by
 obtain⟨_,h2⟩:=h;rcases h2 with ⟨_,h2⟩|⟨g,cap,r,e,_⟩
 ·omega
 ·exact⟨g,cap,e⟩
theorem af' {w:World} {q j:Nat} {c:Array Value} {e:TypeId} {fr:Nat×Nat} {v:Value} (h:w.heap[q]? =some (.cells c e fr)):(w.setCell ⟨q,j,none⟩ v).heap[q]? =some (.cells (c.setIfInBounds j v) e fr):=by
 simp[World.setCell,Array.getElem?_modify,h]
theorem S' {w:World} {q j k:Nat} {v:Value} (h:k≠q):(w.setCell ⟨q,j,none⟩ v).heap[k]? =w.heap[k]? :=Below.heap_setCell w ⟨q,j,none⟩ v k h
def Loc (w:World) (v f:Value):Prop:=f.ownBlock=none\/f.ownBlock=v.ownBlock\/∃g,f.ownBlock=some g/\w.heap.size<=g
theorem gQ' {w f W:World} {v r:Value} (hs:w.heap.size<=f.heap.size) (u:App f W v r):Loc w v r:=by
 rcases u.where_ with h|⟨_,g,h,z⟩
 ·exact .inr (.inl h)
 ·exact .inr (.inr ⟨g,h,Nat.le_trans hs z⟩)
theorem tg' {w:World} {e f:TypeId} {v r:Value} {n z b:Nat} {xs D:List Value} (h:w.ownsRow 0 e 1 v n xs) (F:w.ownsRow 0 f 1 r z D) (G:e≠f) (u:v.ownBlock=some b):r.ownBlock≠some b:=by
 obtain⟨_,h2⟩:=h;rcases h2 with ⟨rfl,_⟩|⟨g,cap,I,rfl,_,H,_⟩
 ·cases u
 ·cases u;exact vG' F H (fun e=>G e.symm)
section
variable {w X:World} {p q:Nat} {cp cq:Array Value} {tv bv' fv tv2 bv2 fv2:Value} {ts fs ts2 fs2:List Value} {l l2:List UInt8}
end
structure Far (E:Nat->Prop) (w x:World):Prop where
 os:x.os=w.os
 tape:x.tape=w.tape
 output:x.output=w.output
 size:w.heap.size<=x.heap.size
 rest:∀k,k < w.heap.size->¬E k->x.heap[k]? =w.heap[k]?
theorem Far.refl (E:Nat->Prop) (w:World):Far E w w:=⟨rfl,rfl,rfl,Nat.le_refl _,fun _ _ _=>rfl⟩
theorem Far.trans {E E':Nat->Prop} {w x y:World} (h:Far E w x) (f:Far E' x y) (z:∀k,k < w.heap.size->E' k->E k):Far E w y:=
 ⟨f.os.trans h.os,f.tape.trans h.tape,f.output.trans h.output,Nat.le_trans h.size f.size,fun k r u=>(f.rest k (Nat.lt_of_lt_of_le r h.size) (fun e=>u (z k r e))).trans (h.rest k r u)⟩
theorem Far.mono {E E':Nat->Prop} {w x:World} (h:Far E w x) (r:∀k,k < w.heap.size->E k->E' k):Far E' w x:=
 ⟨h.os,h.tape,h.output,h.size,fun k f u=>h.rest k f (fun e=>u (r k f e))⟩
theorem Far.below {E:Nat->Prop} {w x:World} (h:Far E w x) {B:Nat} (r:B<=w.heap.size) (u:∀k,k < B->¬E k):Below B w x:=
 ⟨h.os,h.tape,h.output,h.size,fun k f=>h.rest k (Nat.lt_of_lt_of_le f r) (u k f)⟩
theorem A' {E:Nat->Prop} {w x:World} (h:Below w.heap.size w x):Far E w x:=⟨h.os,h.tape,h.output,h.size,fun k f _=>h.block k f⟩
theorem bl' {w x:World} {row:Option Nat} (h:w.grownBy x row):Far (fun k=>row=some k) w x:=⟨h.os,h.tape,h.output,h.size,fun k f r=>h.block k f (fun e=>r e.symm)⟩
theorem O' (w:World) (q j:Nat) (v:Value):Far (fun k=>k=q) w (w.setCell ⟨q,j,none⟩ v):=⟨rfl,rfl,rfl,by rw[World.size_setCell];exact Nat.le_refl _,fun k _ f=>S' f⟩
theorem Far.blk {E:Nat->Prop} {w x:World} (h:Far E w x) {k:Nat} {o:Obj} (f:w.heap[k]? =some o) (r:¬E k):x.heap[k]? =some o:=(h.rest k (lt_of_block f) r).trans f
def ao' (w:World) (e:TypeId) (size:Nat) (v:Value) (n:Nat) (xs:List Value):Prop:=
 xs.length=n * size/\((v= .slice none 0 0/\n=0)\/
  ∃g o cap f,v= .slice (some ⟨g,o,none⟩) n cap/\w.heap[g]? =some (.cells f e (0,0))/\n<=cap/\cap<=maxLen/\o+cap * size<=f.size/\(f.toList.drop o).take (n * size)=xs)
theorem jY' (w:World) (e:TypeId) (size:Nat):ao' w e size (.slice none 0 0) 0 []:=⟨by simp, .inl ⟨rfl,rfl⟩⟩
theorem ao'.of_own {w:World} {e:TypeId} {size n:Nat} {v:Value} {xs:List Value} (h:w.ownsRow 0 e size v n xs):ao' w e size v n xs:=by
 obtain⟨h1,h2⟩:=h;refine⟨h1,?_⟩;rcases h2 with h2|⟨g,cap,f,rfl,_,r,u,z,hs,D⟩
 ·exact .inl h2
 ·exact .inr ⟨g,0,cap,f,rfl,r,u,z,by omega,by simpa using D⟩
theorem ao'.keep {w w':World} {e:TypeId} {size n:Nat} {v:Value} {xs:List Value} (h:ao' w e size v n xs) (f:∀g,v.ownBlock=some g->w'.heap[g]? =w.heap[g]?):ao' w' e size v n xs:=by
 obtain⟨h1,h2⟩:=h;refine⟨h1,?_⟩;rcases h2 with h2|⟨g,o,cap,r,rfl,u,z⟩
 ·exact .inl h2
 ·exact .inr ⟨g,o,cap,r,rfl,by rw[f g rfl];exact u,z⟩
theorem ao'.lt {w:World} {e:TypeId} {size n:Nat} {v:Value} {xs:List Value} (h:ao' w e size v n xs):∀g,v.ownBlock=some g->g < w.heap.size:=by
 intro g f;obtain⟨_,h2⟩:=h;rcases h2 with ⟨rfl,_⟩|⟨g',o,cap,u,rfl,r,_⟩
 ·cases f
 ·cases f;exact lt_of_block r
theorem ao'.ne {w:World} {e r:TypeId} {size n p:Nat} {v:Value} {xs:List Value} {c:Array Value} {fr:Nat×Nat} (h:ao' w e size v n xs) (f:w.heap[p]? =some (.cells c r fr)) (z:e≠r):v.ownBlock≠some p:=by
 intro u;obtain⟨_,h2⟩:=h;rcases h2 with ⟨rfl,_⟩|⟨g,o,cap,F,rfl,D,_⟩
 ·cases u
 ·cases u;rw[D]at f;injection f with f;injection f with _ f _;exact z f
theorem ao'.ty {w:World} {e f:TypeId} {size z n D b:Nat} {v r:Value} {xs F:List Value} (h:ao' w e size v n xs) (G:ao' w f z r D F) (H:e≠f) (u:v.ownBlock=some b):r.ownBlock≠some b:=by
 obtain⟨_,h2⟩:=h;rcases h2 with ⟨rfl,_⟩|⟨g,o,cap,J,rfl,I,_⟩
 ·cases u
 ·cases u;exact G.ne I (fun e=>H e.symm)
theorem ao'.far {E:Nat->Prop} {w x:World} (h:Far E w x) {e:TypeId} {size n:Nat} {v:Value} {xs:List Value} (f:ao' w e size v n xs) (u:∀g,v.ownBlock=some g->¬E g):ao' x e size v n xs:=
 f.keep (fun g r=>h.rest g (f.lt g r) (u g r))
theorem ao'.shape {w:World} {e:TypeId} {size n:Nat} {v:Value} {xs:List Value} (h:ao' w e size v n xs):∃f cap,v= .slice f n cap/\n<=cap/\cap<=maxLen/\
  (0 < n->∃g o,f=some ⟨g,o,none⟩/\∀i,i < n * size->w.cell? ⟨g,o+i,none⟩=xs[i]?):=by
 obtain⟨h1,h2⟩:=h;rcases h2 with ⟨rfl,rfl⟩|⟨g,o,cap,F,rfl,r,u,z,hs,D⟩
 ·exact⟨none,0,rfl,by omega,by unfold maxLen;omega,fun h=>by omega⟩
 ·refine⟨_,cap,rfl,u,z,fun _=>⟨g,o,rfl,fun i hi=>?_⟩⟩;rw[m' r,<-D,List.getElem?_take,if_pos hi,List.getElem?_drop];simp
theorem ge' {P:Program} (w:World) (t ty e:TypeId) (i:TypeInfo) (G:P.underlying t=some (.slice e)) (hi:P.info? e=some i)
  (g o r D:Nat) (u:Array Value) (H:w.heap[g]? =some (.cells u e (0,0)))
  (a:Addr) (m c:Nat) (f:List Value) (hl:f.length=m * i.size) (I:∀j z,f[j]? =some z->w.cell? (a.add j)=some z) (h1:∀z∈f,z.oneCell'=true)
  (J:r+m<=D) (M:o+r * i.size+f.length<=u.size):
  (Builtin.append_ #[t,t] ty #[.slice (some ⟨g,o,none⟩) r D, .slice (some a) m c]).run P w=
   .ok (.slice (some ⟨g,o,none⟩) (r+m) D) (w.setRow g (u.toList.take (o+r * i.size)++f++u.toList.drop (o+r * i.size+f.length)).toArray):=by
 have O:=run_firstCells_some (P:=P) w i.size m a m c f hl I;have F:=run_storeCells_at P g (o+r * i.size) e f 0 u w H (by simpa using M) h1;simp only[Nat.add_zero]at F;simp[Builtin.append_,run_underlying G,sizeOf,typeInfo,hi,Builtin.lenOf,J,O,Addr.add_lit,F]
theorem gR' {P:Program} (w:World) (t ty e:TypeId) (i:TypeInfo) (G:Value) (size bytes:Nat) (O:P.underlying t=some (.slice e)) (hi:P.info? e=some i) (aa:i.zero=some G) (ai:i.size=size) (aj:i.bytes=bytes)
  (ak:G.cells.size=size) (v:Value) (n:Nat) (xs:List Value) (z:ao' w e size v n xs) (I:Addr) (m c:Nat) (f:List Value) (hl:f.length=m * size) (Q:∀j r,f[j]? =some r->w.cell? (I.add j)=some r)
  (h1:∀r∈f,r.oneCell'=true) (aD:0 < m) (ab:(n+m) * bytes<=140737488355328) (aE:n+m<=140737488355328):
  ∃U w',(Builtin.append_ #[t,t] ty #[v, .slice (some I) m c]).run P w= .ok U w'/\ao' w' e size U (n+m) (xs++f)/\App w w' v U:=by
 subst ai aj;have ac:n+m<=maxLen:=by unfold maxLen;omega
 have M:(xs++f).length=(n+m) * i.size:=by rw[List.length_append,z.1,hl,Nat.add_mul]
 have grown:∀ (D:Nat) (row:Option Nat),ao' (w.drew.alloc (.cells (xs.toArray++f.toArray++Builtin.zeroCells G.cells (grownCap w (n+m) D e - (n+m))) e)) e i.size
    (.slice (some ⟨w.heap.size,0,none⟩) (n+m) (grownCap w (n+m) D e)) (n+m) (xs++f)/\
   w.grownBy (w.drew.alloc (.cells (xs.toArray++f.toArray++Builtin.zeroCells G.cells (grownCap w (n+m) D e - (n+m))) e)) row:=by
  intro D row;have ao:=grownCap_ge w (n+m) D e;have V:grownCap w (n+m) D e<=maxLen:=grownCap_le_maxLen w (n+m) D e ac;refine⟨⟨M, .inr ⟨w.heap.size,0,_,_,rfl,heap_alloc_new w.drew _,ao,V,?_,?_⟩⟩,⟨rfl,rfl,rfl,by simp,fun k X _=>Below.heap_alloc w.drew _ k X⟩⟩
  ·simp only[Array.size_append,List.size_toArray,size_zeroCells,ak,z.1,hl,<-Nat.add_mul,Nat.zero_add];exact Nat.mul_le_mul_right _ (by omega)
  ·simp only[Array.toList_append,List.append_assoc,List.drop_zero];rw[<-List.append_assoc,<-M];exact List.take_left
 rcases z.2 with ⟨rfl,rfl⟩|⟨g,o,cap,H,rfl,ad,aF,V,aG,ap⟩
 ·have aq:xs=[]:=List.eq_nil_of_length_eq_zero (by simpa using z.1);subst aq;have J:=run_append_nil (P:=P) w t ty e i G O hi aa I m c f hl Q (by omega) (by omega) (by simp only[Nat.zero_add]at ab;omega);have F:=grown 0 none;simp only[Nat.zero_add,List.nil_append,Array.empty_append]at F ⊢;exact⟨_,_,J,F.1,⟨F.2, .inr ⟨F.2,w.heap.size,rfl,Nat.le_refl _⟩⟩⟩
 ·by_cases Y:n+m<=cap
  ·have au:(n+m) * i.size<=cap * i.size:=Nat.mul_le_mul_right _ Y;rw[Nat.add_mul]at au;have av:o+n * i.size+f.length<=H.size:=by rw[hl];omega
   have J:=ge' (P:=P) w t ty e i O hi g o n cap H ad I m c f hl Q h1 Y av;refine⟨_,_,J,⟨M, .inr ⟨g,o,cap,_,rfl,setRow_heap w g H _ e _ ad,Y,V,?_,?_⟩⟩,⟨⟨rfl,rfl,rfl,by simp,fun k _ X=>setRow_other w g k _ (fun e=>X (by simp[Value.ownBlock,e]))⟩, .inl rfl⟩⟩
   ·simp only[List.size_toArray,List.length_append,List.length_take,List.length_drop,Array.length_toList];omega
   ·have ax:(H.toList.take (o+n * i.size)++f++H.toList.drop (o+n * i.size+f.length)).drop o=xs++(f++H.toList.drop (o+n * i.size+f.length)):=by rw[List.append_assoc,List.drop_append_of_le_length (by simp;omega),List.drop_take];congr 1;rw[<-ap];congr 1;omega
    simp only
    rw[ax,<-List.append_assoc,<-M];exact List.take_left
  ·have aH:grownCap w (n+m) cap e=grownCap w (n+m) cap e:=rfl;have ay:∀j r,xs[j]? =some r->w.cell? ((⟨g,o,none⟩:Addr).add j)=some r:=by
    intro j r hj;have ah:j < n * i.size:=by have:=(List.getElem?_eq_some_iff.1 hj).1;rw[z.1]at this;exact this
    obtain⟨aI,aJ,u,_,_,Z⟩:=z.shape;have az:0 < n:=by
     rcases Nat.eq_zero_or_pos n with h|h
     ·subst h;simp at ah
     ·exact h
    obtain⟨g',aK,aA,Z⟩:=Z az;injection u with u;rw[aA]at u;injection u with u;injection u with u aB;subst u aB;have:=Z j ah;rw[hj]at this;unfold Addr.add;split
    ·rename_i h0;subst h0;simpa using this
    ·exact this
   have J:=run_append_grow (P:=P) w t ty e i G O hi aa ⟨g,o,none⟩ n cap xs z.1 ay I m c f hl Q (by omega) (by unfold maxLen at ac;omega) (growslice_fits (by omega) ab);have F:=grown cap (Value.ownBlock (.slice (some ⟨g,o,none⟩) n cap));have aC:=grown cap none;exact⟨_,_,J,F.1,⟨F.2, .inr ⟨aC.2,w.heap.size,rfl,Nat.le_refl _⟩⟩⟩
def lay (L:List UInt8) (off:Nat) (l:List UInt8):List UInt8:=L.take off++(l++L.drop (off+l.length))
theorem gx' {L l:List UInt8} {off:Nat} (h:off+l.length<=L.length):(lay L off l).length=L.length:=by
 simp[lay];omega
theorem th' (L:List UInt8) (off:Nat) (l:List UInt8):bv (lay L off l)=(bv L).take off++(bv l++(bv L).drop (off+(bv l).length)):=by
 simp[lay,bv,List.map_take,List.map_drop]
theorem rz':(Tryz.prog.info? 5).map (·.size)=some 1:=by kernel_rfl
theorem ir':(Tryz.prog.info? 207).map (·.size)=some 64:=by kernel_rfl
theorem cE' (b o j:Nat):(⟨b,o,none⟩:Addr).add j=⟨b,o+j,none⟩:=by
 unfold Addr.add;split
 ·rename_i h;subst h;rfl
 ·rfl
theorem dd' {o:Oper} {a:Act} {w:World} {K:Act->World->Prop} {F:Exit->Act->World->Prop} (d s:Operand)
  (u:o.op= .call {callee:= .builtin .copy,args:= #[d,s],argTypes:= #[44,44]}) (g off n cap:Nat) (L l:List UInt8) (t:TypeId) (v:Value)
  (f:w.heap[g]? =some (.cells (bv L).toArray t (0,0))) (hd:a.eval d= .slice (some ⟨g,off,none⟩) n cap) (G:Y' w v l) (hs:a.eval s=v) (hl:l.length<=n) (Q:off+n<=L.length)
  (h:∀w',w'.heap[g]? =some (.cells (bv (lay L off l)).toArray t (0,0))->Far (fun k=>k=g) w w'->K (a.put o.dst (.int .i64 l.length)) w'):o.wp Tryz.prog a w K F:=by
 obtain⟨H,z,rfl,U,V,I⟩:=G;by_cases h0:l.length=0
 ·obtain rfl:l=[]:=List.eq_nil_of_length_eq_zero h0;have r:=run_copy_none (P:=Tryz.prog) w 44 44 o.type 5 (some ⟨g,off,none⟩) H n cap 0 z Tryz.underlying44 rz' (by simp);unfold Oper.wp;simp[execOp,u,resolve,invoke,builtin,hd,hs,r,Result.andThen];exact h w (by rw[th'];simpa[bv]using f) (Far.refl _ _)
 ·obtain⟨b,J,rfl,M⟩:=I (by omega);have r:=run_copy_row (P:=Tryz.prog) w 44 44 o.type 5 g off n cap ⟨b,J,none⟩ l.length z (bv L).toArray t (bv l) Tryz.underlying44 rz' f (by rw[am'];exact(Nat.min_eq_left hl).symm) (by
   intro j X hj;have D:j < l.length:=by have:=(List.getElem?_eq_some_iff.1 hj).1;rw[am']at this;exact this
   rw[iq' D]at hj;cases hj;rw[cE'];exact M j D) (by rw[am',List.size_toArray,am'];omega) (cq' l)
  unfold Oper.wp;simp[execOp,u,resolve,invoke,builtin,hd,hs,r,Result.andThen];rw[am'];refine h _ ?_ ⟨rfl,rfl,rfl,by simp,fun k _ O=>setRow_other w g k _ O⟩;rw[th'];have:=setRow_heap w g (bv L).toArray ((bv L).take off++(bv l++(bv L).drop (off+(bv l).length))).toArray t (0,0) f;rw[am']at this ⊢;simpa using this
theorem gS' {f:Array Oper} {rest:List Oper} {o:Oper} {a:Act} {w:World} {r:Exit->Act->World->Prop} (u:o.guard=none) (d s:Operand)
  (z:o.op= .call {callee:= .builtin .copy,args:= #[d,s],argTypes:= #[44,44]}) (g off n cap:Nat) (L l:List UInt8) (t:TypeId) (v:Value)
  (D:w.heap[g]? =some (.cells (bv L).toArray t (0,0))) (hd:a.eval d= .slice (some ⟨g,off,none⟩) n cap) (F:Y' w v l) (hs:a.eval s=v) (hl:l.length<=n) (G:off+n<=L.length)
  (h:∀w',w'.heap[g]? =some (.cells (bv (lay L off l)).toArray t (0,0))->Far (fun k=>k=g) w w'->wpList Tryz.prog f r rest (a.put o.dst (.int .i64 l.length)) w'):wpList Tryz.prog f r (o::rest) a w:=
 wpList_plain u fun _ hK=>dd' d s z g off n cap L l t v D hd F hs hl G (fun w' h1 h2=>hK _ _ (h w' h1 h2))
theorem bO' {f:Array Oper} {rest:List Oper} {o:Oper} {a:Act} {w:World} {r:Exit->Act->World->Prop} (u:o.guard=none) (x:Operand) (z:o.op= .load 207 x)
  (g:Nat) (D:a.eval x= .pointer (some ⟨g,0,none⟩)) (t:TypeId) (L:List UInt8) (F:L.length=64) (G:w.heap[g]? =some (.cells (bv L).toArray t (0,0)))
  (h:wpList Tryz.prog f r rest (a.put o.dst (.agg (bv L).toArray)) w):wpList Tryz.prog f r (o::rest) a w:=
 wpList_load_row u 207 x z g D t _ (0,0) _ G Tryz.underlying207 rfl (by rw[ir'];simp[bv,F]) h
theorem co' {o:Oper} {a:Act} {w:World} {K:Act->World->Prop} {f:Exit->Act->World->Prop} (x:Operand) (r:o.op= .load 207 x)
  (g:Nat) (u:a.eval x= .pointer (some ⟨g,0,none⟩)) (t:TypeId) (L:List UInt8) (z:L.length=64) (D:w.heap[g]? =some (.cells (bv L).toArray t (0,0)))
  (h:K (a.put o.dst (.agg (bv L).toArray)) w):o.wp Tryz.prog a w K f:=
 wp_load_row 207 x r g u t _ (0,0) _ D Tryz.underlying207 rfl (by rw[ir'];simp[bv,z]) h
theorem ti' (l:List UInt8):(bv l).toArray.all (·.oneCell')=true:=by
 rw[Array.all_eq_true_iff_forall_mem];intro v f;exact cq' l v (by simpa using f)
theorem cL' {r:Array Oper} {rest:List Oper} {o:Oper} {a:Act} {w:World} {u:Exit->Act->World->Prop} (F:o.guard=none) (x y:Operand) (G:o.op= .store 207 x y)
  (g:Nat) (H:a.eval x= .pointer (some ⟨g,0,none⟩)) (L:List UInt8) (z:L.length=64) (I:a.eval y= .agg (bv L).toArray) (t:TypeId) (f:Array Value) (J:f.size=64) (D:w.heap[g]? =some (.cells f t (0,0)))
  (h:∀w',w'.heap[g]? =some (.cells (bv L).toArray t (0,0))->Far (fun k=>k=g) w w'->wpList Tryz.prog r u rest (a.put o.dst undef) w'):wpList Tryz.prog r u (o::rest) a w:=
 wpList_store_row F 207 x y G g (bv L).toArray H I t f D (by rw[ir'];simp[bv,z]) (by rw[J];simp[bv,z]) (ti' L)
  (h _ (setRow_heap w g f _ t (0,0) D) ⟨rfl,rfl,rfl,by simp,fun k _ M=>setRow_other w g k _ M⟩)
theorem jZ' {o:Oper} {a:Act} {w:World} {K:Act->World->Prop} {z:Exit->Act->World->Prop} (x y:Operand) (D:o.op= .store 207 x y)
  (g:Nat) (F:a.eval x= .pointer (some ⟨g,0,none⟩)) (L:List UInt8) (r:L.length=64) (G:a.eval y= .agg (bv L).toArray) (t:TypeId) (f:Array Value) (H:f.size=64) (u:w.heap[g]? =some (.cells f t (0,0)))
  (h:∀w',w'.heap[g]? =some (.cells (bv L).toArray t (0,0))->Far (fun k=>k=g) w w'->K (a.put o.dst undef) w'):o.wp Tryz.prog a w K z:=
 wp_store_row 207 x y D g (bv L).toArray F G t f u (by rw[ir'];simp[bv,r]) (by rw[H];simp[bv,r]) (ti' L)
  (h _ (setRow_heap w g f _ t (0,0) u) ⟨rfl,rfl,rfl,by simp,fun k _ I=>setRow_other w g k _ I⟩)
theorem dV' {fn:Func} {p:Tmp} (h:fn.results= #[.cell p 207]) (tmps:Array Value) (w:World) (g:Nat) (t:TypeId) (L:List UInt8) (f:L.length=64)
  (r:tmps.getD p undef= .pointer (some ⟨g,0,none⟩)) (u:w.heap[g]? =some (.cells (bv L).toArray t (0,0))):(results fn tmps).run Tryz.prog w= .ok (.agg (bv L).toArray) w:=
 results_cell_row h tmps w g t _ (0,0) _ r u Tryz.underlying207 rfl (by rw[ir'];simp[bv,f])
theorem ka' (o c:Nat) (ah:o < 4294967296) (ai:c < 18446744073709551616) (w:World):
  Calls Tryz.prog 216 #[.agg #[.int .u32 o, .int .u64 c]] w fun D w'=>∃v,D= .returned v/\as' (w.heap.size+1) w' v (Mod.stampB o c)/\Below w.heap.size w w':=by
 go_enter Tryz.func216,Tryz.ntmps216;go_upto_region 1 with fail;refine C' (fun x=>x.heap[w.heap.size]? =some (.cells #[.int .u32 o, .int .u64 c] 201 (0,0))/\Below w.heap.size w x) ?_ ?_
 ·exact⟨heap_alloc_new w _,(Below.refl _ _).alloc (Nat.le_refl _) _⟩
 rintro x ⟨F,M⟩;have aj:=lt_of_block F;have c0:x.cell? ⟨w.heap.size,0,none⟩=some (.int .u32 o):=m' (i:=0) F;have O:=t' F;have Q:=t' M;clear F M;have G:=fun(v:Value) (l:List UInt8) (n:Int) (y:World) (h1:l.length<=1000) (h2:w.heap.size+1<=y.heap.size) (h3:0<=n) (h4:as' (w.heap.size+1) y v l)=>t' (aC' (w.heap.size+1) n v l y h1 h2 h3 h4);have H:=fun(v:Value) (l:List UInt8) (y z:World) (h2:w.heap.size+1<=y.heap.size) (h4:as' (w.heap.size+1) y v l) (f:y.grownBy z v.ownBlock)=>X' (B:=w.heap.size+1) f h2 (fun g f=>(h4.lt g f).1);go_upto_region 2 with (go_at_call 135;refine(i' (G (.slice none 0 0) [] (o:Int) x (by simp) (by omega) (by omega) (gL' _ _))).mono ?_;rintro D y ⟨Z,rfl,u,f⟩);have r:=H _ _ x y (by omega) (gL' _ _) f;have I:=(r.block _ (Nat.lt_succ_self _)).trans (i' O);have c1:y.cell? ⟨w.heap.size,1,none⟩=some (.int .u64 c):=m' (i:=1) I;have ak:=r.size;have U:=t' ((i' Q).trans (r.mono (by omega)));have J:=t' u;have V:=t' I;clear u f r I c0 O Q;have aa:IntKind.u32.wrap (c:Int)=((c % 4294967296:Nat):Int):=by rw[IntKind.wrap_u32];omega
 go_upto_region 3 with (go_at_call 135;refine(i' (G Z _ ((c % 4294967296:Nat):Int) y (by simp[Wire.length_le4]) (by omega) (by omega) (i' J))).mono ?_;rintro D z ⟨ab,rfl,u,f⟩)
 have r:=H _ _ y z (by omega) (i' J) f;have X:=(r.block _ (Nat.lt_succ_self _)).trans (i' V);have c2:z.cell? ⟨w.heap.size,1,none⟩=some (.int .u64 c):=m' (i:=1) X;have ao:=r.size;have ac:=t' ((i' U).trans (r.mono (by omega)));have Y:=t' u;clear u f r X c1 V U J aa;go_wp2_with (go_at_call 135;refine(i' (G ab _ ((c / 4294967296:Nat):Int) z (by simp[Wire.length_le4]) (by omega) (by omega) (i' Y))).mono ?_;rintro D ad ⟨v3,rfl,u,f⟩);have r:=H _ _ z ad (by omega) (i' Y) f;go_ret;exact⟨v3,rfl,by simpa[Mod.stampB]using u,(i' ac).trans (r.mono (by omega))⟩
theorem rA' {l:List UInt8} {i:Nat} (h:i < l.length):(bv l).toArray[i]? =some (.int .u8 (l.getD i 0).toNat):=by
 rw[List.getElem?_toArray];exact iq' h
theorem og' (S T:List UInt8) (w:World):∀ (f:List Nat),(∀i∈f,i < S.length/\i < T.length)->
  (Op.eqItems 9999 5 1 (bv S).toArray (bv T).toArray f).run Tryz.prog w= .ok (f.all fun i=>S.getD i 0==T.getD i 0) w
 |[],_=>by simp[Op.eqItems]
 |i::f,h=>by
  have h0:=h i (.head _);have r:=run_part_plain (P:=Tryz.prog) w (e:=5) (by kernel_rfl) (xs:=(bv S).toArray) (off:=i) (rA' h0.1);have u:=run_part_plain (P:=Tryz.prog) w (e:=5) (by kernel_rfl) (xs:=(bv T).toArray) (off:=i) (rA' h0.2);have z:=run_equalIn_int (P:=Tryz.prog) w 9998 5 .u8 .u8 ((S.getD i 0).toNat:Int) ((T.getD i 0).toNat:Int) Tryz.underlying5;have ih:=og' S T w f (fun j hj=>h j (.tail _ hj));simp only[Op.eqItems,Nat.mul_one,Sem.run_bind,r,u,z,Result.andThen_ok,List.all_cons];have e:(((S.getD i 0).toNat:Int) == ((T.getD i 0).toNat:Int))=(S.getD i 0==T.getD i 0):=by
   rw[Bool.eq_iff_iff,beq_iff_eq,beq_iff_eq];constructor
   ·intro e;exact UInt8.toNat_inj.1 (by omega)
   ·intro e;rw[e]
  rw[e];cases D:(S.getD i 0==T.getD i 0)
  ·simp
  ·simpa using ih
theorem vH' {S T:List UInt8} {n:Nat} (f:S.length=n) (r:T.length=n):((List.range n).all fun i=>S.getD i 0==T.getD i 0)=decide (S=T):=by
 rw[Bool.eq_iff_iff,decide_eq_true_eq,List.all_eq_true];constructor
 ·intro h;apply List.ext_getElem (by omega);intro i h1 h2;have:=h i (List.mem_range.2 (by omega));simpa[h1,h2]using this
 ·rintro rfl i _;simp
theorem is' {S T:List UInt8} (f:S.length=64) (r:T.length=64) (w:World):(Op.equalIn 10000 207 (.agg (bv S).toArray) (.agg (bv T).toArray)).run Tryz.prog w= .ok (decide (S=T)) w:=by
 obtain⟨i,hi⟩:∃i,Tryz.prog.info? 5=some i:=by
  have:=rz';cases h:Tryz.prog.info? 5 with
  |none=>rw[h]at this;cases this
  |some i=>exact⟨i,rfl⟩
 have u:Tryz.prog.cellsOf 5=1:=by kernel_rfl
 have e:=og' S T w (List.range 64) (fun i hi=>by have:=List.mem_range.1 hi;omega);rw[vH' f r,<-u]at e;exact(run_equalIn_array (P:=Tryz.prog) w 9999 (bv S).toArray (bv T).toArray Tryz.underlying207 hi).trans e
theorem kb' (off:Nat):∀ (l:List Value) (i:Nat) (f:Array Value),off+i+l.length<=f.size->
  (l.zipIdx i).foldl (fun f (p:Value×Nat)=>f.setIfInBounds (off+p.2) p.1) f=(f.toList.take (off+i)++l++f.toList.drop (off+i+l.length)).toArray
 |[],i,f,_=>by simp
 |v::l,i,f,h=>by
  rw[List.zipIdx_cons,List.foldl_cons,kb' off l (i+1) _ (by simp at h ⊢;omega)];have:=list_seg_step f.toList (off+i) v l (by simp at h ⊢;omega);congr 1;rw[Array.toList_setIfInBounds];have r:off+(i+1)=off+i+1:=by omega
  rw[r,this,List.length_cons]
def aP':List UInt8:=List.replicate 64 0
theorem ax':aP'.length=64:=by simp[aP']
theorem tj' (f:List (Nat×Value)):Tryz.prog.built 261 f=Instr.fill (fun x=>(#[(0,1),(1,64)]:Array (Nat×Nat))[x]?) (Value.int .i64 0::bv aP').toArray f:=by kernel_rfl
theorem oh' (k:Int) (S:List UInt8) (u:S.length=64):Tryz.prog.built 261 [(0, .int .i64 k),(1, .agg (bv S).toArray)]=some (.int .i64 k::bv S).toArray:=by
 rw[tj'];have r:(bv aP').length=64:=by rw[am',ax']
 have f:(bv S).length=64:=by rw[am',u]
 have z:=kb' 1 (bv S) 0 (Value.int .i64 k::bv aP').toArray (by simp[r,f]);generalize F:bv aP'=G at *;generalize H:bv S=D at *;have I:D.toArray.size=64:=by simpa using f
 simp only[Instr.fill,Value.cells];simp[r,f];rw[z];simp[r,f]
theorem tk' (o c:Nat) (ins:List UInt8) (h:ins.length<=40):lay (lay (lay (List.replicate 64 0) 0 (Mod.stampB o c)) 12 ins) 52 (Mod.stampB o c)=Mod.sealB o c ins:=by
 have f:lay (List.replicate 64 (0:UInt8)) 0 (Mod.stampB o c)=Mod.stampB o c++List.replicate 52 0:=by simp[lay,Mod.length_stampB]
 rw[f];have r:lay (Mod.stampB o c++List.replicate 52 0) 12 ins=Mod.stampB o c++ins++List.replicate (52 - ins.length) 0:=by unfold lay;rw[List.take_left' (Mod.length_stampB o c),List.drop_append,List.drop_eq_nil_of_le (by rw[Mod.length_stampB];omega),Mod.length_stampB,List.drop_replicate,List.nil_append,List.append_assoc];congr 3;omega
 rw[r];unfold lay Mod.sealB;have hl:(Mod.stampB o c++ins).length=12+ins.length:=by rw[List.length_append,Mod.length_stampB]
 rw[List.take_append,List.take_of_length_le (by omega),List.take_replicate,List.drop_append,List.drop_eq_nil_of_le (by rw[hl,Mod.length_stampB];omega),List.drop_replicate,hl,Mod.length_stampB];have u:min (52 - (12+ins.length)) (52 - ins.length)=40 - ins.length:=by omega
 have z:52 - ins.length - (52+12 - (12+ins.length))=0:=by omega
 rw[u,z];simp
theorem fh' (w:World) (A B C:Obj):(((w.alloc A).alloc B).alloc C).heap[w.heap.size]? =some A/\(((w.alloc A).alloc B).alloc C).heap[w.heap.size+1]? =some B/\(((w.alloc A).alloc B).alloc C).heap[w.heap.size+2]? =some C/\Below w.heap.size w (((w.alloc A).alloc B).alloc C):=by
 have h1:=heap_alloc_new (w.alloc A) B;have h2:=heap_alloc_new ((w.alloc A).alloc B) C;have f:(w.alloc A).heap.size=w.heap.size+1:=by simp
 have r:((w.alloc A).alloc B).heap.size=w.heap.size+2:=by simp
 rw[f]at h1;rw[r]at h2;refine⟨?_,?_,h2,(((Below.refl _ _).alloc (Nat.le_refl _) _).alloc (by omega) _).alloc (by omega) _⟩
 ·rw[hao _ _ (by omega),hao _ _ (by omega)];exact heap_alloc_new w A
 ·rw[hao _ _ (by omega)];exact h1
theorem fi' {o:Option Obj} {c f:Array Value} {t:TypeId} {fr:Nat×Nat} (h:o=some (.cells c t fr)) (e:c=f):o=some (.cells f t fr):=by rw[<-e];exact h
def oi' (B:Nat) (l:List UInt8) (v:Value) (w:World):Prop:=as' B w v l/\∀g,v.ownBlock=some g->g < w.heap.size
theorem eF' (B:Nat) (l:List UInt8):bA' (oi' B l):=fun _ _ _ h f=>⟨h.1.below f h.2,fun g r=>Nat.lt_of_lt_of_le (h.2 g r) f.size⟩
theorem oj' (o c:Nat) (ins:List UInt8) (v:Value) (w:World) (aC:o < 4294967296) (aD:c < 18446744073709551616) (hi:ins.length<=40) (ah:Y' w v ins):
  Calls Tryz.prog 184 #[.agg #[.int .u32 o, .int .u64 c],v] w fun Q w'=>Q= .returned (.agg (bv (Mod.sealB o c ins)).toArray)/\Below w.heap.size w w':=by
 have ai:=fun y=>t' (ka' o c aC aD y);go_enter Tryz.func184,Tryz.ntmps184;go_upto_region 2 with fail;refine C' (fun x=>x.heap[w.heap.size]? =some (.cells #[.int .u32 o, .int .u64 c] 201 (0,0))/\x.heap[w.heap.size+1]? =some (.cells (bv aP').toArray 207 (0,0))/\x.heap[w.heap.size+2]? =some (.cells (bv aP').toArray 207 (0,0))/\Below w.heap.size w x) ?_ ?_
 ·exact⟨(fh' _ _ _ _).1,fi' (fh' _ _ _ _).2.1 (by kernel_rfl),fi' (fh' _ _ _ _).2.2.1 (by kernel_rfl),(fh' _ _ _ _).2.2.2⟩
 rintro x ⟨h0,h1,h2,aj⟩;have ak:=t' h0;have ao:=t' h1;have ap:=t' h2;have U:=t' aj;have aM:=lt_of_block h2;have c0:x.cell? ⟨w.heap.size,0,none⟩=some (.int .u32 o):=m' (i:=0) h0;have c1:x.cell? ⟨w.heap.size,1,none⟩=some (.int .u64 c):=m' (i:=1) h0;have aE:=t' ah;clear h0 h1 h2 aj ah;refine aj' (by kernel_rfl)
  [fun v _=>v= .slice (some ⟨w.heap.size+2,0,none⟩) 64 64,fun v _=>v= .agg #[.int .u32 o, .int .u64 c],oi' (w.heap.size+3) (Mod.stampB o c),fun _ _=>True]
  [[(5,none)],[(2,none)],[(7,some 1)],[(6,some 0),(8,some 2)]] [some 6,some 7,some 8,some 9] [false,false,false,false,false,false,true,true,true,true,false,false,false,false,false,false,false,false]
  3 _ rfl rfl (by kernel_rfl) (by kernel_rfl) (by kernel_rfl) (by kernel_rfl) (by kernel_rfl) (by kernel_rfl) ?_ ?_ ?_
 ·repeat' (first|exact J' _|exact eF' _ _|exact Z'|exact trivial|apply And.intro)
 ·refine⟨?_,?_,?_,trivial⟩;all_goals
   intro a y f z;have aF:=(f.cell (p:=⟨w.heap.size,0,none⟩) (by show w.heap.size < _;omega)).trans c0;have aG:=(f.cell (p:=⟨w.heap.size,1,none⟩) (by show w.heap.size < _;omega)).trans c1;have V:=f.size;clear f;simp only[I',List.getD_cons_zero,List.getD_cons_succ,Array.getD_eq_getD_getElem?]at z;try simp at z
   try go_simp
   try exact Below.refl _ _
  ·refine(i' (ai _)).mono ?_;rintro Q aH ⟨X,rfl,D,Y⟩;exact⟨X,rfl,Y,D.mono (by omega),fun g Z=>(D.lt g Z).2⟩
 ·intro F y f r;simp only[ae',List.take]at r;have aq:=r.1;have au:=r.2.2.1;simp only[R',aq];have g0:=(f.block _ (by show w.heap.size < _;omega)).trans (i' ak);have g1:=(f.block _ (by show w.heap.size+1 < _;omega)).trans (i' ao);have g2:=(f.block _ (by show w.heap.size+2 < _;omega)).trans (i' ap);have G:=t' ((i' U).trans (f.mono (by have:=(i' U).size;omega)));generalize F 8=v8 at *;generalize F 7=aN at *;have V:=f.size;refine dd' (.tmp 6) (.tmp 8) rfl (w.heap.size+2) 0 64 64 aP' (Mod.stampB o c) 207 v8 g2 rfl au.1.at rfl (by rw[Mod.length_stampB];omega) (by rw[ax'];omega) ?_;intro av u hF;have J:=t' (hF.blk g0 (by omega));have H:=t' (hF.blk g1 (by omega));have I:=t' u;have aa:=t' ((i' G).trans (hF.below (by omega) (fun k ab e=>by omega)));have aO:=hF.size;clear f aq au g0 g1 g2 hF u G ak ao ap U c0 c1;clear r;have c0:av.cell? ⟨w.heap.size,0,none⟩=some (.int .u32 o):=m' (i:=0) (i' J);have c1:av.cell? ⟨w.heap.size,1,none⟩=some (.int .u64 c):=m' (i:=1) (i' J);have ax:(lay aP' 0 (Mod.stampB o c)).length=64:=by rw[gx' (by rw[Mod.length_stampB,ax'];omega),ax']
  have M:=t' ax;clear ax;go_simp;go_upto_region 4 with (refine gS' rfl (.tmp 10) (.tmp 11) rfl (w.heap.size+2) 12 40 52 (lay aP' 0 (Mod.stampB o c)) ins 207 v (i' I) rfl ((i' aE).below (i' aa)) rfl hi (by rw[i' M];omega) ?_;intro ay hu hF;go_simp);have az:(lay (lay aP' 0 (Mod.stampB o c)) 12 ins).length=64:=by rw[gx' (by rw[i' M];omega),i' M]
  have ac:=t' az;have ad:=t' ((i' aa).trans (hF.below (by omega) (fun k ab e=>by omega)));have g0:=hF.blk (i' J) (by omega);have H:=t' (hF.blk (i' H) (by omega));have I:=t' hu;have aP:=hF.size;have c0:ay.cell? ⟨w.heap.size,0,none⟩=some (.int .u32 o):=m' (i:=0) g0;have c1:ay.cell? ⟨w.heap.size,1,none⟩=some (.int .u64 c):=m' (i:=1) g0;clear az hu hF g0 aa J M;refine aj' (by kernel_rfl)
   [fun v _=>v= .slice (some ⟨w.heap.size+2,52,none⟩) 12 12,fun v _=>v= .agg #[.int .u32 o, .int .u64 c],oi' (w.heap.size+3) (Mod.stampB o c),fun _ _=>True]
   [[(5,none)],[(2,none)],[(14,some 1)],[(13,some 0),(15,some 2)]] [some 13,some 14,some 15,some 16] [false,false,false,false,false,false,false,false,false,false,false,false,false,true,true,true,true,false]
   3 _ rfl rfl (by kernel_rfl) (by kernel_rfl) (by kernel_rfl) (by kernel_rfl) (by kernel_rfl) (by kernel_rfl) ?_ ?_ ?_
  ·repeat' (first|exact J' _|exact eF' _ _|exact Z'|exact trivial|apply And.intro)
  ·refine⟨?_,?_,?_,trivial⟩;all_goals
    intro a y f z;have aF:=(f.cell (p:=⟨w.heap.size,0,none⟩) (by show w.heap.size < _;omega)).trans c0;have aG:=(f.cell (p:=⟨w.heap.size,1,none⟩) (by show w.heap.size < _;omega)).trans c1;have V:=f.size;clear f;simp only[I',List.getD_cons_zero,List.getD_cons_succ,Array.getD_eq_getD_getElem?]at z;try simp at z
    try go_simp
    try exact Below.refl _ _
   ·refine(i' (ai _)).mono ?_;rintro Q aH ⟨X,rfl,D,Y⟩;exact⟨X,rfl,Y,D.mono (by omega),fun g Z=>(D.lt g Z).2⟩
  ·intro F y f r;simp only[ae',List.take]at r;have aA:=r.1;have aB:=r.2.2.1;simp only[R',aA];have g1:=(f.block _ (by show w.heap.size+1 < _;omega)).trans (i' H);have g2:=(f.block _ (by show w.heap.size+2 < _;omega)).trans (i' I);have G:=t' ((i' ad).trans (f.mono (by have:=(i' ad).size;omega)));generalize F 15=aI at *;generalize F 14=aQ at *;have V:=f.size;refine dd' (.tmp 13) (.tmp 15) rfl (w.heap.size+2) 52 12 12 _ (Mod.stampB o c) 207 aI g2 rfl aB.1.at rfl (by rw[Mod.length_stampB];omega) (by rw[i' ac];omega) ?_;intro z3 u hF;have O:(lay (lay (lay aP' 0 (Mod.stampB o c)) 12 ins) 52 (Mod.stampB o c)).length=64:=by rw[gx' (by rw[i' ac,Mod.length_stampB];omega),i' ac]
   have g1:=hF.blk g1 (by omega);have aJ:=t' ((i' G).trans (hF.below (by omega) (fun k ab e=>by omega)));have aR:=hF.size;rw[show lay (lay (lay aP' 0 (Mod.stampB o c)) 12 ins) 52 (Mod.stampB o c)=Mod.sealB o c ins from tk' o c ins hi]at u O;have H:=t' g1;have I:=t' u;clear f aA aB g1 g2 hF u G ad c0 c1;clear r;go_simp;go_wp2_with (first
    |(refine bO' rfl (.tmp 5) rfl (w.heap.size+2) rfl 207 (Mod.sealB o c ins) O (i' I) ?_)
    |(refine cL' rfl (.tmp 4) (.tmp 17) rfl (w.heap.size+1) rfl (Mod.sealB o c ins) O rfl 207 _ (by simp[am',ax']) (i' H) ?_;intro z4 aK aL;go_simp))
   exact bodyPost_ret (dV' Tryz.results184 _ _ (w.heap.size+1) _ _ O rfl aK) rfl ⟨rfl,(i' aJ).trans (aL.below (by omega) (fun k ab e=>by omega))⟩
end Go.Proofs.YtamafdcnbcoegaaGreat
