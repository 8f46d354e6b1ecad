/-
  Part 3 of a proof: MonoFoot, D6, D7, M1, X2, X4, X5, M2, Y3, Y4, Y5, Y6, S1, Shelf.
-/
import Derived.Laws.OwnMore
import Derived.Maps.OwnIn
import Derived.Shelf.Small.Wraps
import Derived.Shelf.LaysM
import Derived.Shelf.Strconv.Clone
import Derived.Shelf.Slices.Reverse
import Derived.Ground.Names2Prog
import Derived.Shelf.Slices.Clone
import Derived.Shelf.Slices.SearchI
import Derived.Shelf.Slices.Delete
import Derived.Shelf.Slices.Cells
import Derived.Shelf.Slices.Empties
import Derived.Test.YtamafdcnbcoegaaGreatProg
import Derived.Shelf.Spec.SlicesInsertGrow
import Derived.Test.YtamafdcnbcoegaaGreatSf2
set_option maxRecDepth 100000
set_option maxHeartbeats 40000000
namespace Go.Proofs.YtamafdcnbcoegaaGreat
open Go.RowKit
def iX' (d:Option Tmp) (v:Value):Value:=match d with|some _=>v|none=>undef
section
variable {P:Program} {ops:Array Oper} {Q:Exit->Act->World->Prop}
structure fQ' (ops:Array Oper) (Φ:Nat->Value->World->Prop) (E:Nat->Nat->Prop) (a0:Act) (w0:World) (L:Array Bool) (a:Act) (w:World):Prop where
 size:L.size=ops.size
 ext:Far (fun b=>∃k,L.getD k false=true/\E k b) w0 w
 closed:∀k,L.getD k false=true->∀j,ar' ops k j=true->L.getD j false=true
 vals:∀i o,ops[i]? =some o->L.getD i false=true->Φ i (match o.dst with|some d=>a.tmps.getD d undef|none=>undef) w
 rest:∀t,(∀j,wr ops t=some j->L.getD j false=false)->a.tmps.getD t undef=a0.tmps.getD t undef
 defers:a.defers=a0.defers
 tsize:a.tmps.size=a0.tmps.size
theorem sj' {a0:Act} {w0:World} (z:Nat->Value->World->Prop) (E:Nat->Nat->Prop) (ab:bq' ops a0.tmps.size=true)
  (aD:∀i j v w w',i≠j->ar' ops j i=false->z j v w->Far (E i) w w'->z j v w')
  (aE:∀i o,ops[i]? =some o->∀a w,Far (fun b=>∃k,k≠i/\ar' ops k i=false/\E k b) w0 w->bo' ops z a0 i o a w->
   if Region.wanted o (yielded ops a.tmps)=true then o.wp P a w (fun a' w'=>∃v,a'=a.put o.dst v/\Far (E i) w w'/\z i (iX' o.dst v) w') Q else z i undef w)
  (aF:∀a w,Far (fun b=>∃k,E k b) w0 w->(∀i o,ops[i]? =some o->z i (match o.dst with|some d=>a.tmps.getD d undef|none=>undef) w)->(∀t,wr ops t=none->a.tmps.getD t undef=a0.tmps.getD t undef)->a.defers=a0.defers->a.tmps.size=a0.tmps.size->Q .normal a w):
  ∀ (I:Nat) (L:Array Bool) (a:Act) (w:World),fQ' ops z E a0 w0 L a w->(List.range ops.size).countP (fun i=> !L.getD i false)<=I->wpAny P .any ops Q I L a w:=by
 have au:∀ (L:Array Bool) (a:Act) (w:World),fQ' ops z E a0 w0 L a w->Region.ready .any ops L=[]->Q .normal a w:=by
  intro L a w f Y;have aG:∀n i,i < n->i < ops.size->L.getD i false=true:=by
   intro n;induction n with
   |zero=>intro i h;omega
   |succ n ih=>
    intro i h hi;by_cases aH:i < n
    ·exact ih i aH hi
    ·have e:i=n:=by omega
     subst e;cases av:L.getD i false
     ·exfalso;have u:ops[i]? =some ops[i]:=Array.getElem?_eq_getElem hi;obtain⟨_,_,h3⟩:=ah' ab u;have:i∈Region.ready .any ops L:=mem_ready.2 ⟨by
       have hs:i < L.size:=by rw[f.size];exact hi
       rw[Array.getD_eq_getD_getElem?,Array.getElem?_eq_getElem hs]at av ⊢;exact av,ops[i],u,fun e ac D=>by
       have hd:ar' ops i e.on=true:=by unfold ar';rw[u];exact Array.any_eq_true'.2 ⟨e,ac,by simp[D]⟩
       have H:=h3 _ hd;exact ih e.on H (by omega)⟩
      rw[Y]at this;cases this
     ·rfl
  refine aF a w (f.ext.mono (fun b _ h=>h.imp fun k h=>h.2)) (fun i o u=>f.vals i o u (aG ops.size i (Array.getElem?_eq_some_iff.1 u).1 (Array.getElem?_eq_some_iff.1 u).1)) (fun t J=>f.rest t (fun j hj=>by rw[J]at hj;cases hj)) f.defers f.tsize
 intro I;induction I with
 |zero=>
  intro L a w f aI;have Y:Region.ready .any ops L=[]:=by
   apply List.eq_nil_iff_forall_not_mem.2;intro i hi;obtain⟨h0,o,u,_⟩:=mem_ready.1 hi;have H:i < ops.size:=(Array.getElem?_eq_some_iff.1 u).1;have F:L.getD i false=false:=by
    have hs:i < L.size:=by rw[f.size];exact H
    rw[Array.getD_eq_getD_getElem?,Array.getElem?_eq_getElem hs]at h0 ⊢;exact h0
   have:0 < (List.range ops.size).countP (fun i=> !L.getD i false):=List.countP_pos_iff.2 ⟨i,List.mem_range.2 H,by simp[F]⟩;omega
  exact⟨Y,au L a w f Y⟩
 |succ I ih=>
  intro L a w f aI;refine⟨au L a w f,fun i hi=>?_⟩;obtain⟨h0,o,u,aJ⟩:=mem_ready.1 hi;have H:i < ops.size:=(Array.getElem?_eq_some_iff.1 u).1;have ad:i < L.size:=by rw[f.size];exact H
  have F:L.getD i false=false:=by rw[Array.getD_eq_getD_getElem?,Array.getElem?_eq_getElem ad]at h0 ⊢;exact h0
  obtain⟨hd,hl,aN⟩:=ah' ab u;have ax:∀j,ar' ops i j=true->L.getD j false=true:=by intro j hj;unfold ar' at hj;rw[u]at hj;obtain⟨e,ac,D⟩:=Array.any_eq_true'.1 hj;simp only[Bool.and_eq_true,beq_iff_eq]at D;rw[<-D.2];exact aJ e ac D.1
  have aK:bo' ops z a0 i o a w:=by
   intro t J;cases G:wr ops t with
   |none=>exact f.rest t (fun j hj=>by rw[G]at hj;cases hj)
   |some j=>
    simp only[];have hj:=List.find?_some G;simp only[beq_iff_eq]at hj;split
    ·rename_i ah;cases ai:ops[j]? with
     |none=>rw[ai]at hj;cases hj
     |some ay=>rw[ai]at hj;have az:=f.vals j ay ai (ax j ah);have Z:ay.dst=some t:=hj;rw[Z]at az;exact az
    ·rename_i ah;refine f.rest t (fun aO Z=>?_);rw[G]at Z;cases Z;rcases hl t J j G with h|h
     ·exact absurd h ah
     ·cases aj:L.getD j false
      ·rfl
      ·have:=f.closed j aj i h;rw[F]at this;cases this
  have aA:∀v w',Far (E i) w w'->z i (iX' o.dst v) w'->fQ' ops z E a0 w0 (L.setIfInBounds i true) (a.put o.dst v) w':=by
   intro v w' D M;have O:∀k,(L.setIfInBounds i true).getD k false=true↔ (k=i\/L.getD k false=true):=by
    intro k;by_cases r:k=i
    ·subst r;simp[Array.getD_eq_getD_getElem?,ad]
    ·rw[getD_set_ne false (fun e=>r e.symm)];simp[r]
   have ak:∀t,(a.put o.dst v).tmps.getD t undef=if o.dst=some t then v else a.tmps.getD t undef:=by
    intro t;cases U:o.dst with
    |none=>simp[Act.put]
    |some d=>
     simp only[Act.put,Option.some.injEq];have aL:d < a.tmps.size:=by rw[f.tsize];exact(hd d U).1
     by_cases h:d=t
     ·subst h;simp[Array.getD_eq_getD_getElem?,aL]
     ·simp[Array.getD_eq_getD_getElem?,h]
   refine⟨by simp[f.size],(f.ext.mono (fun b _ h=>by obtain⟨k,h1,h2⟩:=h;exact⟨k,(O k).2 (.inr h1),h2⟩)).trans D (fun b _ h=>⟨i,(O i).2 (.inl rfl),h⟩),?_,?_,?_,?_,?_⟩
   ·intro k r j hj;rw[O]at r ⊢;rcases r with rfl|r
    ·exact .inr (ax j hj)
    ·exact .inr (f.closed k r j hj)
   ·intro k ok aa r;rw[O]at r;rcases r with rfl|r
    ·rw[u]at aa;cases aa;cases U:o.dst with
     |none=>rw[U]at M;exact M
     |some d=>rw[U]at M;simp only[];have aB:=ak d;rw[if_pos U,U]at aB;rw[aB];exact M
    ·have V:i≠k:=by intro e;subst e;rw[F]at r;cases r
     have aM:ar' ops k i=false:=by
      cases hd:ar' ops k i with
      |false=>rfl
      |true=>have:=f.closed k r i hd;rw[F]at this;cases this
     have X:=aD i k _ _ _ V aM (f.vals k ok aa r) D;cases ao:ok.dst with
     |none=>rw[ao]at X;exact X
     |some d=>
      rw[ao]at X;simp only[]at X ⊢;have ap:o.dst≠some d:=by intro e;have h1:=(hd d e).2;have h2:=((ah' ab aa).1 d ao).2;rw[h1]at h2;cases h2;exact V rfl
      rw[ak,if_neg ap];exact X
   ·intro t J;rw[ak];have ap:o.dst≠some t:=by intro e;have:=J i (hd t e).2;have h2:=(O i).2 (.inl rfl);rw[this]at h2;cases h2
    rw[if_neg ap];refine f.rest t (fun j hj=>?_);cases aj:L.getD j false
    ·rfl
    ·have:=J j hj;rw[(O j).2 (.inr aj)]at this;cases this
   ·cases o.dst <;> exact f.defers
   ·rw[<-f.tsize];cases o.dst <;> simp[Act.put]
  have aC:(List.range ops.size).countP (fun k=> !(L.setIfInBounds i true).getD k false)<=I:=by
   have:=cd' (l:=List.range ops.size) (p:=fun k=> !L.getD k false) (q:=fun k=> !(L.setIfInBounds i true).getD k false)
    (fun k _ r=>by
     by_cases V:k=i
     ·subst V;simp[F]
     ·rw[getD_set_ne false (fun e=>V e.symm)]at r;exact r)
    ⟨i,List.mem_range.2 H,by simp[F],by simp[Array.getD_eq_getD_getElem?,ad]⟩
   omega
  have aq:=aE i o u a w (f.ext.mono (fun b _ h=>by
   obtain⟨k,h1,h2⟩:=h;refine⟨k,fun e=>?_,?_,h2⟩
   ·subst e;rw[F]at h1;cases h1
   ·cases hd:ar' ops k i with
    |false=>rfl
    |true=>have:=f.closed k h1 i hd;rw[F]at this;cases this)) aK
  unfold wpOp;rw[u];simp only[];split at aq
  ·rename_i G;rw[if_pos G];refine .inl (Oper.wp_mono ?_ aq);rintro a' w' ⟨v,rfl,D,M⟩;exact ih _ _ _ (aA v w' D M) aC
  ·rename_i G;rw[if_neg G];exact ih _ _ _ (aA undef w (Far.refl _ _) (by cases o.dst <;> exact aq)) aC
def ej' (f:List (Nat× (Nat->Prop))) (i:Nat) (b:Nat):Prop:=∃p∈f,p.1=i/\p.2 b
def dk' (f:List (Nat× (Nat->Prop))) (ops:Array Oper) (i:Nat) (b:Nat):Prop:=∃p∈f,p.1≠i/\ar' ops p.1 i=false/\p.2 b
def aU' (E:Nat->Prop) (f:Value->World->Prop):Prop:=∀v w w',f v w->Far E w w'->f v w'
theorem ak' (E:Nat->Prop) (c:Value):aU' E (fun v _=>v=c):=fun _ _ _ h _=>h
theorem mU' (E:Nat->Prop):aU' E (fun _ _=>True):=fun _ _ _ _ _=>trivial
def fR' (ops:Array Oper) (i:Nat) (E:Nat->Prop):Nat->List (Value->World->Prop)->Prop
 | _,[]=>True
 |j,f::r=>(i=j\/ar' ops j i=true\/aU' E f)/\fR' ops i E (j+1) r
def eG' (ops:Array Oper) (L:List (Value->World->Prop)):List (Nat× (Nat->Prop))->Prop
 |[]=>True
 |p::f=>fR' ops p.1 p.2 0 L/\eG' ops L f
theorem ek' {ops:Array Oper} {i:Nat} {E:Nat->Prop}:∀ {L:List (Value->World->Prop)} {s:Nat},fR' ops i E s L->∀j,i≠s+j->ar' ops (s+j) i=false->aU' E (L.getD j (fun _ _=>True))
 |[],_,_,_,_,_=>by simpa using mU' E
 |u::f,s,h,0,r,hd=>by
  rcases h.1 with h|h|h
  ·exact absurd h r
  ·rw[Nat.add_zero]at hd;rw[hd]at h;cases h
  ·exact h
 |u::f,s,h,j+1,r,hd=>by have:=ek' (L:=f) (s:=s+1) h.2 j (by omega) (by rw[show s+1+j=s+(j+1) by omega];exact hd);simpa using this
theorem dw' {ops:Array Oper} {L:List (Value->World->Prop)}:∀ {r:List (Nat× (Nat->Prop))},eG' ops L r->∀p∈r,fR' ops p.1 p.2 0 L
 |[],_,_,f=>by cases f
 |q::u,h,p,f=>by
  cases f with
  |head=>exact h.1
  |tail _ f=>exact dw' h.2 p f
def mm' (f:List (Nat× (Nat->Prop))):Bool:=(f.map (·.1)).all fun i=>(f.map (·.1)).count i==1
theorem it' {u:List (Nat× (Nat->Prop))} (h:mm' u=true) {p q:Nat× (Nat->Prop)} (r:p∈u) (f:q∈u) (e:p.1=q.1):p=q:=by
 induction u with
 |nil=>cases r
 |cons x z ih=>
  have D:∀y∈z,y.1≠x.1:=by
   intro y F e;have h1:=List.all_eq_true.1 h x.1 (by simp);rw[beq_iff_eq,List.map_cons,List.count_cons_self]at h1;have:(z.map (·.1)).count x.1=0:=by omega
   exact(List.count_eq_zero.1 this) (List.mem_map.2 ⟨y,F,e⟩)
  have G:mm' z=true:=by unfold mm' at h ⊢;rw[List.all_eq_true]at h ⊢;intro i hi;have h1:=h i (by rw[List.map_cons];exact .tail _ hi);obtain⟨y,F,rfl⟩:=List.mem_map.1 hi;rw[beq_iff_eq,List.map_cons,List.count_cons_of_ne (fun e=>D y F e.symm)]at h1;rw[beq_iff_eq];exact h1
  cases r with
  |head=>
   cases f with
   |head=>rfl
   |tail _ f=>exact absurd e.symm (D q f)
  |tail _ r=>
   cases f with
   |head=>exact absurd e (D p r)
   |tail _ f=>exact ih G r f
def mV' (P:Program) (ops:Array Oper) (Q:Exit->Act->World->Prop) (L:List (Value->World->Prop)) (f:List (Nat× (Nat->Prop))) (a0:Act) (w0:World):Nat->List Oper->List (List (Tmp×Option Nat))->List (Value->World->Prop)->Prop
 |i,o::os,u::z,r::D=>(∀a w,Far (dk' f ops i) w0 w->I' L a0 a w u->
   if Region.wanted o (yielded ops a.tmps)=true then o.wp P a w (fun a' w'=>∃v,a'=a.put o.dst v/\Far (ej' f i) w w'/\r (iX' o.dst v) w') Q else r undef w)/\mV' P ops Q L f a0 w0 (i+1) os z D
 | _,[],_,_=>True
 | _,_,_,_=>False
theorem iY' {L:List (Value->World->Prop)} {F:List (Nat× (Nat->Prop))} {a0:Act} {w0:World}:∀ {s:Nat} {os:List Oper} {u:List (List (Tmp×Option Nat))} {z:List (Value->World->Prop)},mV' P ops Q L F a0 w0 s os u z->
  ∀ (i:Nat) o f,os[i]? =some o->u[i]? =some f->∀a w,Far (dk' F ops (s+i)) w0 w->I' L a0 a w f->
   if Region.wanted o (yielded ops a.tmps)=true then o.wp P a w (fun a' w'=>∃v,a'=a.put o.dst v/\Far (ej' F (s+i)) w w'/\z.getD i (fun _ _=>True) (iX' o.dst v) w') Q else z.getD i (fun _ _=>True) undef w
 | _,[],_,_,_,i,o,f,r,_=>by simp at r
 | _,o::os,[],_,h,_,_,_,_,_=>h.elim
 | _,o::os,f::u,[],h,_,_,_,_,_=>h.elim
 | _,o::os,f::u,H::z,h,0,G,pl',r,D=>by simp at r D;subst r;subst D;exact h.1
 |s,o::os,f::u,H::z,h,i+1,G,pl',r,D=>by have:=iY' h.2 i G pl' (by simpa using r) (by simpa using D);rw[show s+1+i=s+(i+1) by omega]at this;simpa using this
def cf' (f:Nat->Value) (w:World):List (Option Tmp)->List (Value->World->Prop)->Prop
 |some d::ds,r::u=>r (f d) w/\cf' f w ds u
 |none::ds,r::u=>r undef w/\cf' f w ds u
 | _,_=>True
theorem eH' {f:Nat->Value} {w:World}:∀ {os:List Oper} {L:List (Value->World->Prop)},(∀i o,os[i]? =some o->L.getD i (fun _ _=>True) (match o.dst with|some d=>f d|none=>undef) w)->cf' f w (os.map (·.dst)) L
 |[],_,_=>by simp[cf']
 |o::os,[],_=>by cases h:o.dst <;> simp[cf',h]
 |o::os,D::r,h=>by
  have ih:=eH' (os:=os) (L:=r) (fun i u z=>by have:=h (i+1) u (by simpa using z);simpa using this);have h0:=h 0 o rfl;cases hd:o.dst with
  |none=>rw[hd]at h0;simpa[cf',hd]using ⟨h0,ih⟩
  |some d=>rw[hd]at h0;simpa[cf',hd]using ⟨h0,ih⟩
theorem aa' {f:List (Nat× (Nat->Prop))} {ops:Array Oper} {i k:Nat} (h:∀p∈f,¬p.2 k):¬dk' f ops i k:=fun⟨p,r,_,_,h3⟩=>h p r h3
theorem eI' {f:List (Nat× (Nat->Prop))} {ops:Array Oper} {i:Nat} {w r:World} (h:Far (dk' f ops i) w r) (hd:∀p∈f,ar' ops p.1 i=true):Below w.heap.size w r:=
 h.below (Nat.le_refl _) (fun _ _ ⟨p,u,_,h2,_⟩=>by rw[hd p u]at h2;cases h2)
theorem ac' {f:List (Nat× (Nat->Prop))} {i:Nat} {E:Nat->Prop} {w w':World} (r:(i,E) ∈f) (h:Far E w w'):Far (ej' f i) w w':=h.mono (fun _ _ u=>⟨(i,E),r,rfl,u⟩)
theorem Q' {id:Nat} {a0:Act} {w0:World} (U:P.follows .mixedOrders=true) (L:List (Value->World->Prop)) (G:List (List (Tmp×Option Nat))) (J:List (Option Tmp)) (H:List Bool) (u:List (Nat× (Nat->Prop)))
  (V:mm' u=true) (X:bq' ops a0.tmps.size=true) (Y:bR' ops=G) (Z:ei' ops=J) (M:be' ops a0.tmps.size=H) (aa:bs' L) (ab:eG' ops L u) (ac:mV' P ops Q L u a0 w0 0 ops.toList G L)
  (ad:∀O w,Far (fun b=>∃p∈u,p.2 b) w0 w->cf' O w J L->Q .normal {tmps:=(R' H a0.tmps.toList 0 O).toArray,defers:=a0.defers} w):
  (Code.region id ops true).wp P Q a0 w0:=by
 refine wp_region_any U (sj' (w0:=w0) (fun i=>L.getD i (fun _ _=>True)) (ej' u) X ?_ ?_ ?_ ops.size _ a0 _ ⟨by simp,A' ((Below.refl _ _).drew),?_,?_,fun _ _=>rfl,rfl,rfl⟩ ?_)
 ·intro i j v w w' aq hd F hF;by_cases hi:∃p∈u,p.1=i
  ·obtain⟨p,z,rfl⟩:=hi;have hs:=ek' (dw' ab p z) j (by omega) (by rw[Nat.zero_add];exact hd);exact hs v w w' F (hF.mono (fun b _ h=>by obtain⟨q,I,e,f⟩:=h;rw[it' V z I e.symm];exact f))
  ·exact bi' aa j v w w' F (hF.below (Nat.le_refl _) (fun k _ h=>by obtain⟨q,I,e,_⟩:=h;exact hi ⟨q,I,e⟩))
 ·intro i o D a w f ah;have ai:i < ops.size:=(Array.getElem?_eq_some_iff.1 D).1;have aj:G[i]? =some ((o.looksAt ops).map fun t=>(t,match wr ops t with
     |some j=>if ar' ops i j=true then some j else none
     |none=>none)):=by
   rw[<-Y];unfold bR';rw[List.getElem?_map,List.getElem?_range ai,Option.map_some,D];try rfl
  have:=iY' ac i o _ (by simpa using D) aj a w (by rw[Nat.zero_add];exact f.mono (fun b _ h=>by obtain⟨k,h1,h2,p,z,rfl,h3⟩:=h;exact⟨p,z,h1,h2,h3⟩)) (bd' rfl (o:=o) _ ah);rw[Nat.zero_add]at this;exact this
 ·intro a w f F ak hd hs;have h:=ad (fun t=>a.tmps.getD t undef) w (f.mono (fun b _ h=>by obtain⟨k,p,z,_,h3⟩:=h;exact⟨p,z,h3⟩)) (by rw[<-Z];exact eH' (fun i o D=>F i o (by simpa using D)));have e:R' H a0.tmps.toList 0 (fun t=>a.tmps.getD t undef)=a.tmps.toList:=by
   refine ce' _ _ _ _ _ (by rw[<-M];simp[be']) (by simpa using hs) ?_ ?_
   ·intro j hj _;simp[Array.getD_eq_getD_getElem?,List.getD_eq_getElem?_getD]
   ·intro j hj f;rw[<-M]at f;have ao:j < a0.tmps.size:=by rw[<-hs];simpa using hj
    have ap:wr ops j=none:=by unfold be' at f;simp[List.getD_eq_getElem?_getD,List.getElem?_map,List.getElem?_range ao]at f;exact f
    have:=ak j ap;simpa[Array.getD_eq_getD_getElem?,List.getD_eq_getElem?_getD]using this
  rw[e,<-hd]at h;exact h
 ·intro k r;simp[Array.getD_eq_getD_getElem?]at r;rcases h:(Array.replicate ops.size false)[k]? with _|b <;> simp[h]at r;subst r;have:=Array.getElem?_eq_some_iff.1 h;obtain⟨h1,h2⟩:=this;simp at h2
 ·intro i o D r;exfalso;simp[Array.getD_eq_getD_getElem?]at r;rcases h:(Array.replicate ops.size false)[i]? with _|b <;> simp[h]at r;subst r;have:=Array.getElem?_eq_some_iff.1 h;obtain⟨h1,h2⟩:=this;simp at h2
 ·exact Nat.le_trans List.countP_le_length (by simp)
end
theorem bS' (w:World) (A B:Obj):((w.alloc A).alloc B).heap[w.heap.size]? =some A/\((w.alloc A).alloc B).heap[w.heap.size+1]? =some B/\Below w.heap.size w ((w.alloc A).alloc B):=by
 have h1:=heap_alloc_new (w.alloc A) B;have f:(w.alloc A).heap.size=w.heap.size+1:=by simp
 rw[f]at h1;refine⟨?_,h1,((Below.refl _ _).alloc (Nat.le_refl _) _).alloc (by omega) _⟩;rw[hao _ _ (by omega)];exact heap_alloc_new w A
theorem gT' (o c a b d:Nat) (w:World) (ak:o < 4294967296) (ao:c < 18446744073709551616) (av:a < 4294967296) (ax:b < 4294967296) (hd:d < 4294967296):
  Calls Tryz.prog 198 #[.agg #[.int .u32 o, .int .u64 c, .int .i64 a, .int .i64 b, .int .i64 d]] w fun I w'=>I= .returned (.agg (bv (Mod.sealB o c (Mod.headIn a b d))).toArray)/\Below w.heap.size w w':=by
 have ay:∀y:World,(Instr.index 136 (.agg #[.int .i64 a, .int .i64 b, .int .i64 d]) (.int .i64 0)).run Tryz.prog y= .ok (.int .i64 a) y:=fun y=>by kernel_rfl
 have az:∀y:World,(Instr.index 136 (.agg #[.int .i64 a, .int .i64 b, .int .i64 d]) (.int .i64 1)).run Tryz.prog y= .ok (.int .i64 b) y:=fun y=>by kernel_rfl
 have aA:∀y:World,(Instr.index 136 (.agg #[.int .i64 a, .int .i64 b, .int .i64 d]) (.int .i64 2)).run Tryz.prog y= .ok (.int .i64 d) y:=fun y=>by kernel_rfl
 have hl:∀n:Int,(Wire.le4 n).length=4:=fun n=>Wire.length_le4 n;go_enter Tryz.func198,Tryz.ntmps198;go_upto_region 2 with fail;refine C' (fun x=>x.heap[w.heap.size]? =some (.cells #[.int .u32 o, .int .u64 c, .int .i64 a, .int .i64 b, .int .i64 d] 217 (0,0))/\x.heap[w.heap.size+1]? =some (.cells (bv aP').toArray 207 (0,0))/\Below w.heap.size w x) ?_ ?_
 ·exact⟨(bS' _ _ _).1,fi' (bS' _ _ _).2.1 (by kernel_rfl),(bS' _ _ _).2.2⟩
 rintro x ⟨h0,h1,aa⟩;have c2:x.cell? ⟨w.heap.size,2,none⟩=some (.int .i64 a):=m' (i:=2) h0;have c3:x.cell? ⟨w.heap.size,3,none⟩=some (.int .i64 b):=m' (i:=3) h0;have c4:x.cell? ⟨w.heap.size,4,none⟩=some (.int .i64 d):=m' (i:=4) h0;have aB:=lt_of_block h1;have u:=t' h0;have F:=t' h1;have ab:=t' aa;clear h0 h1 aa;go_wp2;go_loopw[3,5,8] (fun v _ i wr=>∃j:Nat,j<=3/\i= .int .i64 j/\as' (w.heap.size+2) wr v ((Mod.headIn a b d).take (4 * j))/\wr.heap[w.heap.size]? =some (.cells #[.int .u32 o, .int .u64 c, .int .i64 a, .int .i64 b, .int .i64 d] 217 (0,0))/\wr.heap[w.heap.size+1]? =some (.cells (bv aP').toArray 207 (0,0))/\Below w.heap.size w wr) (fun _ _ i _=>3 - (intOf i).toNat)
 case atStart=>exact⟨0,by omega,rfl,gL' _ _,i' u,i' F,i' ab⟩
 case round=>
  obtain⟨j,hj,rfl,ac,ad,V,ah⟩:=hrel;clear u F ab c2 c3 c4;have aC:=lt_of_block V;have z:=t' ac;have u:=t' ad;have F:=t' V;have G:=t' ah;clear ac ad V ah;rcases(show j=0\/j=1\/j=2\/j=3 by omega)with rfl|rfl|rfl|rfl
  ·have J:=t' (show(Mod.headIn a b d).take (4 * (0+1))=(Mod.headIn a b d).take (4 * 0)++Wire.le4 a by simp[Mod.headIn,Wire.le4]);go_upto_region 6 with (go_at_call 135;refine(aC' (w.heap.size+2) (a:Int) u3 _ wr (by simp only[List.length_take,Mod.length_headIn];omega) (by omega) (by omega) (i' z)).mono ?_;rintro I H ⟨ai,rfl,D,f⟩;have r:Below (w.heap.size+2) wr H:=X' f (by omega) (fun g f=>((i' z).lt g f).1);have M:=t' D;have O:=t' ((i' G).trans (r.mono (by omega)));have Q:=t' ((r.block _ (by omega)).trans (i' u));have U:=t' ((r.block _ (by omega)).trans (i' F));clear D f r);go_wp2;exact⟨⟨0+1,by omega,by go_num,by rw[i' J];exact i' M,i' Q,i' U,i' O⟩,by simp[intOf]⟩
  ·have J:=t' (show(Mod.headIn a b d).take (4 * (1+1))=(Mod.headIn a b d).take (4 * 1)++Wire.le4 b by simp[Mod.headIn,Wire.le4]);go_upto_region 6 with (go_at_call 135;refine(aC' (w.heap.size+2) (b:Int) u3 _ wr (by simp only[List.length_take,Mod.length_headIn];omega) (by omega) (by omega) (i' z)).mono ?_;rintro I H ⟨ai,rfl,D,f⟩;have r:Below (w.heap.size+2) wr H:=X' f (by omega) (fun g f=>((i' z).lt g f).1);have M:=t' D;have O:=t' ((i' G).trans (r.mono (by omega)));have Q:=t' ((r.block _ (by omega)).trans (i' u));have U:=t' ((r.block _ (by omega)).trans (i' F));clear D f r);go_wp2;exact⟨⟨1+1,by omega,by go_num,by rw[i' J];exact i' M,i' Q,i' U,i' O⟩,by simp[intOf]⟩
  ·have J:=t' (show(Mod.headIn a b d).take (4 * (2+1))=(Mod.headIn a b d).take (4 * 2)++Wire.le4 d by simp[Mod.headIn,Wire.le4]);go_upto_region 6 with (go_at_call 135;refine(aC' (w.heap.size+2) (d:Int) u3 _ wr (by simp only[List.length_take,Mod.length_headIn];omega) (by omega) (by omega) (i' z)).mono ?_;rintro I H ⟨ai,rfl,D,f⟩;have r:Below (w.heap.size+2) wr H:=X' f (by omega) (fun g f=>((i' z).lt g f).1);have M:=t' D;have O:=t' ((i' G).trans (r.mono (by omega)));have Q:=t' ((r.block _ (by omega)).trans (i' u));have U:=t' ((r.block _ (by omega)).trans (i' F));clear D f r);go_wp2;exact⟨⟨2+1,by omega,by go_num,by rw[i' J];exact i' M,i' Q,i' U,i' O⟩,by simp[intOf]⟩
  ·rw[List.take_of_length_le (by rw[Mod.length_headIn];omega)]at z;have c0:wr.cell? ⟨w.heap.size,0,none⟩=some (.int .u32 o):=m' (i:=0) (i' u);have c1:wr.cell? ⟨w.heap.size,1,none⟩=some (.int .u64 c):=m' (i:=1) (i' u);have aj:=t' (oj' o c (Mod.headIn a b d) u3 wr ak ao (by rw[Mod.length_headIn];omega) (i' z).at);have X:(Mod.sealB o c (Mod.headIn a b d)).length=64:=Mod.length_sealB o c (by rw[Mod.length_headIn];omega);obtain⟨S,Y⟩:∃S,S=Mod.sealB o c (Mod.headIn a b d):=⟨_,rfl⟩;rw[<-Y]at aj X;have ap:=t' Y;clear Y;go_wp2_with (first
    |(go_at_call 184;refine(i' aj).mono ?_;rintro I H ⟨rfl,Z⟩)
    |(refine cL' rfl (.tmp 2) (.tmp 19) rfl (w.heap.size+1) rfl S X rfl 207 _ (by simp[am',ax']) ((Z.block _ (by omega)).trans (i' F)) ?_;intro z4 aq au;go_simp))
   exact bodyPost_ret (dV' Tryz.results198 _ _ (w.heap.size+1) _ _ X rfl aq) rfl ⟨by rw[i' ap],((i' G).trans (Z.mono (i' G).size)).trans (au.below (by have:=(i' G).size;have:=Z.size;omega) (fun k aD e=>by omega))⟩
theorem mW' {o:Oper} {a:Act} {K:Act->World->Prop} {u:Exit->Act->World->Prop} {w:World} (s x:Operand)
  (z:o.op= .call {callee:= .builtin .append,args:= #[s,x],argTypes:= #[44,9]}) (B:Nat) (v:Value) (l:List UInt8) (D:as' B w v l) (hs:a.eval s=v)
  (f:ByteArray) (F:a.eval x= .string f) (G:l.length+f.size<=140737488355328) (H:B<=w.heap.size)
  (h:∀r w',as' B w' r (l++f.data.toList)->w.grownBy w' v.ownBlock->K (a.put o.dst r) w'):o.wp Tryz.prog a w K u:=by
 obtain⟨i0,hi,I,J,M⟩:=info_parts jS';obtain⟨r,w',O,h1,h2,_⟩:=Lib.run_append_own_string (P:=Tryz.prog) w B 44 9 o.type 5 i0 Tryz.underlying44 Tryz.underlying9 hi I J M v l.length (bv l) D f
  (by unfold maxLen;omega) G H
 unfold Oper.wp execOp;simp only[z,resolve,invoke,builtin,Sem.run_bind,Sem.run_pure,Result.andThen_ok,List.map_toArray,List.map_cons,List.map_nil,hs,F,O];refine h r w' ?_ h2;unfold as';rw[fN',List.length_append,<-sZ'];have:f.data.toList.length=f.size:=by simp
 rw[this];exact h1
theorem aw' {w w':World} {B size:Nat} {e:TypeId} {v:Value} {n:Nat} {xs:List Value} (h:w.ownsRow B e size v n xs) (f:∀g,v.ownBlock=some g->w'.heap[g]? =w.heap[g]?):w'.ownsRow B e size v n xs:=by
 obtain⟨h1,h2⟩:=h;refine⟨h1,?_⟩;rcases h2 with h2|⟨g,cap,r,rfl,u,z,D⟩
 ·exact .inl h2
 ·exact .inr ⟨g,cap,r,rfl,u,by rw[f g rfl];exact z,D⟩
theorem lF' {B:Nat} {l:List UInt8} {E:Nat->Prop} (r:∀k,E k->k < B):aU' E (oi' B l):=fun _ _ _ h hF=>
 ⟨aw' h.1 (fun g f=>hF.rest g (h.2 g f) (fun e=>by have:=(h.1.lt g f).1;have:=r g e;omega)),fun g f=>Nat.lt_of_lt_of_le (h.2 g f) hF.size⟩
theorem ba' (k:Nat) (o:Obj):bA' (fun _ w=>w.heap[k]? =some o):=fun _ _ _ h f=>(f.block k (lt_of_block h)).trans h
theorem ok' {k:Nat} {o:Obj} {E:Nat->Prop} (f:¬E k):aU' E (fun _ w=>w.heap[k]? =some o):=fun _ _ _ h hF=>hF.blk h f
theorem tl' {B:Nat} (x:World) (f:B<=x.heap.size) (a b:Nat) (r:a < 256) (u:b < 256):as' B (x.alloc (.cells #[.int .u8 a, .int .u8 b] 5)) (.slice (some ⟨x.heap.size,0,none⟩) 2 2) [UInt8.ofNat (a % 256),UInt8.ofNat (b % 256)]:=by
 refine⟨by simp[bv], .inr ⟨x.heap.size,2,_,rfl,f,heap_alloc_new x _,by simp,by unfold maxLen;omega,by simp,?_⟩⟩;have h1:a % 256=a:=by omega
 have h2:b % 256=b:=by omega
 simp[bv,h1,h2]
theorem fj' (o c st q:Nat) (b:ByteArray) (w:World) (aq:o < 4294967296) (au:c < 18446744073709551616) (hs:st < 256) (aG:q < 4294967296) (D:b.size<=20):
  Calls Tryz.prog 131 #[.agg #[.int .u32 o, .int .u64 c], .agg #[.int .i64 st, .int .i64 q, .string b]] w fun Q w'=>Q= .returned (.agg (bv (Mod.sealB o c (Mod.recIn st q b.data.toList))).toArray)/\Below w.heap.size w w':=by
 have aH:IntKind.u8.wrap (st:Int)=(st:Int):=by rw[IntKind.wrap_u8];omega
 have aI:IntKind.u8.wrap (b.size:Int)=(b.size:Int):=by rw[IntKind.wrap_u8];omega
 have aJ:IntKind.u32.wrap (q:Int)=(q:Int):=by rw[IntKind.wrap_u32];omega
 go_enter Tryz.func131,Tryz.ntmps131;go_upto_region 1 with fail;refine C' (fun x=>x.heap[w.heap.size]? =some (.cells #[.int .u32 o, .int .u64 c] 201 (0,0))/\x.heap[w.heap.size+1]? =some (.cells #[.int .i64 st, .int .i64 q, .string b] 155 (0,0))/\x.heap[w.heap.size+2]? =some (.cells (bv aP').toArray 207 (0,0))/\Below w.heap.size w x) ?_ ?_
 ·exact⟨(fh' _ _ _ _).1,(fh' _ _ _ _).2.1,fi' (fh' _ _ _ _).2.2.1 (by kernel_rfl),(fh' _ _ _ _).2.2.2⟩
 rintro x ⟨h0,h1,h2,ad⟩;have aK:=lt_of_block h2;have c0:x.cell? ⟨w.heap.size+1,0,none⟩=some (.int .i64 st):=m' (i:=0) h1;have c1:x.cell? ⟨w.heap.size+1,1,none⟩=some (.int .i64 q):=m' (i:=1) h1;have c2:x.cell? ⟨w.heap.size+1,2,none⟩=some (.string b):=m' (i:=2) h1;have av:∀ah,(x.alloc ah).cell? ⟨w.heap.size+1,1,none⟩=some (.int .i64 q):=fun ah=>by exact(World.cell?_alloc_lt x _ ⟨w.heap.size+1,1,none⟩ (by show w.heap.size+1 < _;omega)).trans c1
 have H:=t' h0;have ax:=t' h1;have U:=t' h2;have V:=t' ad;clear h0 h1 h2 ad;have ay:=fun(v:Value) (l:List UInt8) (n:Int) (y:World) (h1:l.length<=1000) (h2:w.heap.size+3<=y.heap.size) (h3:0<=n) (h4:as' (w.heap.size+3) y v l)=>t' (aC' (w.heap.size+3) n v l y h1 h2 h3 h4);have X:=t' (tl' x (B:=w.heap.size+3) (by omega) st b.size hs (by omega));go_upto_region 2 with (go_at_call 135;refine(i' (ay _ _ (q:Int) _ (by simp) (by simp;omega) (by omega) (i' X))).mono ?_;rintro Q y ⟨v5,rfl,ai,f⟩);have F:Below (w.heap.size+3) x y:=((Below.refl _ _).alloc (by omega) _).trans (X' f (by simp;omega) (fun g f=>((i' X).lt g f).1));have H:=t' ((F.block _ (by omega)).trans (i' H));have aj:=(F.block (w.heap.size+1) (by omega)).trans (i' ax);have U:=t' ((F.block (w.heap.size+2) (by omega)).trans (i' U));have V:=t' ((i' V).trans (F.mono (by omega)));have aL:=F.size;have Y:=t' ai;have c0:y.cell? ⟨w.heap.size,0,none⟩=some (.int .u32 o):=m' (i:=0) (i' H);have aM:y.cell? ⟨w.heap.size,1,none⟩=some (.int .u64 c):=m' (i:=1) (i' H);have c2:y.cell? ⟨w.heap.size+1,2,none⟩=some (.string b):=m' (i:=2) aj;clear ai f X av c1 aj F;have Z:(Mod.recIn st q b.data.toList).length<=40:=by rw[Mod.length_recIn];simp;omega
 have I:(Mod.sealB o c (Mod.recIn st q b.data.toList)).length=64:=Mod.length_sealB o c Z;obtain⟨R,J⟩:∃R,R=Mod.recIn st q b.data.toList:=⟨_,rfl⟩;rw[<-J]at Z I;have aa: [UInt8.ofNat (st % 256),UInt8.ofNat (b.size % 256)]++Wire.le4 q++b.data.toList=R:=by rw[J];simp[Mod.recIn]
 have ak:=fun v y az=>t' (oj' o c R v y aq au Z az);obtain⟨S,ab⟩:∃S,S=Mod.sealB o c R:=⟨_,rfl⟩;rw[<-ab]at ak I;have aA:=t' (show S=Mod.sealB o c (Mod.recIn st q b.data.toList) by rw[ab,J]);have aa:=t' aa;clear ab J;have M:=t' (fun g f=>((i' Y).lt g f).1);have ac:∀k,k < w.heap.size+2->∀p∈ ([(4,fun k=>v5.ownBlock=some k),(6,fun k=>k=w.heap.size+2)]:List (Nat× (Nat->Prop))),¬p.2 k:=by
  intro k ao p r;simp at r;rcases r with rfl|rfl
  ·intro e;have:=(i' M) k e;omega
  ·intro e;have e:k=w.heap.size+2:=e;omega
 refine Q' (by kernel_rfl)
  [fun v _=>v= .agg #[.int .u32 o, .int .u64 c],fun v _=>v=v5,fun v _=>v= .pointer (some ⟨w.heap.size+1,2,none⟩),fun v _=>v= .string b,oi' (w.heap.size+3) R,fun v _=>v= .agg (bv S).toArray,fun _ u=>u.heap[w.heap.size+2]? =some (.cells (bv S).toArray 207 (0,0))]
  [[(2,none)],[(5,none)],[(3,none)],[(20,some 2)],[(19,some 1),(21,some 3)],[(18,some 0),(22,some 4)],[(4,none),(23,some 5)]] [some 18,some 19,some 20,some 21,some 22,some 23,none] [false,false,false,false,false,false,false,false,false,false,false,false,false,false,false,false,false,false,true,true,true,true,true,true]
  [(4,fun k=>v5.ownBlock=some k),(6,fun k=>k=w.heap.size+2)]
  (by kernel_rfl) (by kernel_rfl) (by kernel_rfl) (by kernel_rfl) (by kernel_rfl) ?_ ?_ ?_ ?_
 ·repeat' (first|exact J' _|exact eF' _ _|exact ba' _ _|exact trivial|apply And.intro)
 ·repeat' (first|exact trivial|exact .inl rfl|exact .inr (.inr (ak' _ _))|exact .inr (.inr (lF' (fun k ao=>by omega)))|exact .inr (.inr (ok' (fun e=>by have:=(i' M) _ e;omega)))|apply And.intro)
 ·refine⟨?_,?_,?_,?_,?_,?_,?_,trivial⟩;all_goals
   intro a u D z;have z0:=D.blk (i' H) (aa' (ac _ (by omega)));have aN:u.cell? ⟨w.heap.size,0,none⟩=some (.int .u32 o):=m' (i:=0) z0;have aO:u.cell? ⟨w.heap.size,1,none⟩=some (.int .u64 c):=m' (i:=1) z0;have aP:u.cell? ⟨w.heap.size+1,2,none⟩=some (.string b):=by have:=D.rest (w.heap.size+1) (by omega) (aa' (ac _ (by omega)));unfold World.cell? at c2 ⊢;simp only at c2 ⊢;rw[this];exact c2
   have aQ:=D.size;have O:=t' D;clear D z0;simp only[I',List.getD_cons_zero,List.getD_cons_succ,Array.getD_eq_getD_getElem?]at z;try simp at z
  ·go_simp;exact⟨_,rfl,Far.refl _ _,rfl⟩
  ·go_simp;exact⟨_,rfl,Far.refl _ _,rfl⟩
  ·go_simp;exact⟨_,rfl,Far.refl _ _,rfl⟩
  ·go_simp;exact⟨_,rfl,Far.refl _ _,rfl⟩
  ·have aB:as' (w.heap.size+3) u v5 _:=aw' (i' Y) (fun g f=>(i' O).rest g ((i' Y).lt g f).2 (by
    rintro⟨p,r,h1,_,h3⟩;simp at r;rcases r with rfl|rfl
    ·exact h1 rfl
    ·have:=(i' M) g f;have h3:g=w.heap.size+2:=h3;omega))
   rw[if_pos (by rfl)];refine mW' (.tmp 19) (.tmp 21) rfl (w.heap.size+3) v5 _ aB (by simp[Act.eval,z]) b (by simp[Act.eval,z]) (by simp[Wire.length_le4];omega) (by omega) ?_;intro aC w' h1 h2;rw[show _=R from i' aa]at h1;exact⟨aC,rfl,ac' (.head _) (bl' h2),h1,fun g f=>(h1.lt g f).2⟩
  ·go_simp;refine(i' (ak _ u z.2.1.at)).mono ?_;rintro Q aR ⟨rfl,aD⟩;exact⟨_,rfl,A' aD,rfl⟩
  ·have aE:=(i' O).blk (i' U) (by
    rintro⟨p,r,h1,_,h3⟩;simp at r;rcases r with rfl|rfl
    ·have:=(i' M) _ h3;omega
    ·exact h1 rfl)
   rw[if_pos (by rfl)];refine jZ' (.tmp 4) (.tmp 23) rfl (w.heap.size+2) (by simp[Act.eval,z]) S I (by simp[Act.eval,z]) 207 _ (by simp[am',ax']) aE ?_;intro w' h1 h2;exact⟨_,rfl,ac' (.tail _ (.head _)) h2,h1⟩
 ·intro G u hF ap;have aF:=ap.2.2.2.2.2.2.1;have O:=t' ((i' V).trans (hF.below (by omega) (fun k ao h=>by obtain⟨p,r,h3⟩:=h;exact ac k (by omega) p r h3)));clear ap hF;simp only[R'];generalize G 18=aS;generalize G 19=aT;generalize G 20=aU;generalize G 21=aV;generalize G 22=aW;generalize G 23=aX;go_simp;go_wp2;exact bodyPost_ret (dV' Tryz.results131 _ _ (w.heap.size+2) _ _ I rfl aF) rfl ⟨by rw[i' aA],i' O⟩
theorem lG' {o:Oper} {a:Act} {w:World} {K:Act->World->Prop} {F:Exit->Act->World->Prop} (d s:Operand)
  (G:o.op= .call {callee:= .builtin .copy,args:= #[d,s],argTypes:= #[44,44]}) (g off n cap m:Nat) (f:Array Value) (r:List Value) (t:TypeId) (b u z:Nat)
  (D:w.heap[g]? =some (.cells f t (0,0))) (hd:a.eval d= .slice (some ⟨g,off,none⟩) n cap) (hs:a.eval s= .slice (some ⟨b,u,none⟩) m z) (H:r.length=m) (I:∀j v,r[j]? =some v->w.cell? ⟨b,u+j,none⟩=some v) (hl:m<=n) (J:off+m<=f.size) (h1:∀v∈r,v.oneCell'=true)
  (h:∀w',w'.heap[g]? =some (.cells (f.toList.take off++(r++f.toList.drop (off+m))).toArray t (0,0))->Far (fun k=>k=g) w w'->K (a.put o.dst (.int .i64 m)) w'):o.wp Tryz.prog a w K F:=by
 subst H;have M:=run_copy_row (P:=Tryz.prog) w 44 44 o.type 5 g off n cap ⟨b,u,none⟩ r.length z f t r Tryz.underlying44 rz' D (Nat.min_eq_left hl).symm (by intro j O hj;rw[cE'];exact I j O hj) J h1;unfold Oper.wp;simp[execOp,G,resolve,invoke,builtin,hd,hs,M,Result.andThen];exact h _ (setRow_heap w g f _ t (0,0) D) ⟨rfl,rfl,rfl,by simp,fun k _ Q=>setRow_other w g k _ Q⟩
theorem sk' (w:World) (k:Nat) (S L:List UInt8) (lv:Value) (u:S.length=64) (O:64 * k+64<=L.length) (aa:L.length<=10000) (ab:w.ownsRow 0 5 1 lv L.length (bv L)):
  Calls Tryz.prog 193 #[.agg (.int .i64 k::bv S).toArray,lv] w fun ac w'=>ac= .returned (.tuple #[])/\w'.ownsRow 0 5 1 lv (Mod.setSec L k S).length (bv (Mod.setSec L k S))/\Far (fun j=>lv.ownBlock=some j) w w':=by
 have F:=Mod.length_setSec (l:=L) (k:=k) u O;obtain⟨h1,h2⟩:=ab;rcases h2 with ⟨_,h2⟩|⟨g,cap,r,rfl,az,G,ad,ah,hs,H⟩
 ·omega
 have ai:=lt_of_block G;obtain⟨n,I⟩:∃n,n=L.length:=⟨_,rfl⟩;rw[<-I]at O aa h1 ad H F ⊢;have i0:(0:Int)<=(k:Int) * 64:=by omega
 have aA:(k:Int) * 64<=(n:Int):=by omega
 have aB:((k:Int) * 64).toNat=k * 64:=by omega
 have i2:(n:Int)<=(cap:Int):=by omega
 have aC:IntKind.i64.wrap ((k:Int) * 64)=(k:Int) * 64:=by rw[IntKind.wrap_i64];omega
 have aD:¬cap=k * 64:=by omega
 have aE:¬ (cap:Int)=(k:Int) * 64:=by omega
 have aF:=t' I;have J:=t' F;have aj:=t' H;have ak:=t' G;clear I F H G;go_enter Tryz.func193,Tryz.ntmps193;go_upto_region 1 with fail;refine C' (fun x=>x.heap[w.heap.size]? =some (.cells (.int .i64 k::bv S).toArray 261 (0,0))/\Below w.heap.size w x) ⟨heap_alloc_new w _,(Below.refl _ _).alloc (Nat.le_refl _) _⟩ ?_;rintro x ⟨h0,Q⟩;have c0:x.cell? ⟨w.heap.size,0,none⟩=some (.int .i64 k):=by rw[m' h0];simp
 have M:=lt_of_block h0;have ao:=t' h0;have z:=t' Q;clear h0 Q;refine aj' (by kernel_rfl)
  [fun v _=>v= .slice (some ⟨g,0,none⟩) n cap,fun v _=>v= .pointer (some ⟨w.heap.size,0,none⟩),fun v _=>v= .int .i64 k,fun v _=>v= .int .i64 ((k:Int) * 64),fun v _=>v= .slice (some ⟨g,k * 64,none⟩) (n - k * 64) (cap - k * 64),fun v _=>v= .pointer (some ⟨w.heap.size,1,none⟩),fun v _=>v= .slice (some ⟨w.heap.size,1,none⟩) 64 64,fun _ _=>True]
  [[(1,none)],[(2,none)],[(5,some 1)],[(6,some 2)],[(4,some 0),(7,some 3)],[(2,none)],[(9,some 5)],[(8,some 4),(10,some 6)]] [some 4,some 5,some 6,some 7,some 8,some 9,some 10,some 11] [false,false,false,false,true,true,true,true,true,true,true,true]
  7 _ rfl rfl (by kernel_rfl) (by kernel_rfl) (by kernel_rfl) (by kernel_rfl) (by kernel_rfl) (by kernel_rfl) ?_ ?_ ?_
 ·repeat' (first|exact J' _|exact Z'|exact trivial|apply And.intro)
 ·refine⟨?_,?_,?_,?_,?_,?_,?_,trivial⟩;all_goals
   intro a y f U;have aG:=(f.cell (p:=⟨w.heap.size,0,none⟩) (by show w.heap.size < _;omega)).trans c0;have ap:=f.size;clear f;simp only[I',List.getD_cons_zero,List.getD_cons_succ,Array.getD_eq_getD_getElem?]at U;try simp at U
   try go_simp
   try exact Below.refl _ _
 ·intro aH y f D;simp only[ae',List.take]at D;have V:=D.2.2.2.2.1;have X:=D.2.2.2.2.2.2.1;simp only[R',V,X];have g0:=(f.block _ (by show w.heap.size < _;omega)).trans (i' ao);have Y:=(f.block g (by have:=(i' z).size;omega)).trans (((i' z).block g ai).trans (i' ak));have aq:=t' ((i' z).trans (f.mono (by have:=(i' z).size;omega)));have ap:=f.size;refine lG' (.tmp 8) (.tmp 10) rfl g (k * 64) (n - k * 64) (cap - k * 64) 64 r (bv S) 5 w.heap.size 1 64 Y rfl rfl (by rw[am',u]) ?_ (by omega) (by omega) (cq' S) ?_
  ·intro j v hj;rw[m' g0,List.getElem?_toArray,Nat.add_comm 1 j,List.getElem?_cons_succ];exact hj
  ·intro aI M hF;have au:((r.toList.take (k * 64)++(bv S++r.toList.drop (k * 64+64))).toArray).toList.take (n * 1)=bv (Mod.setSec L k S):=by
    have Z:(r.toList.take (k * 64)).length=k * 64:=by rw[List.length_take,Array.length_toList];omega
    have av:bv (Mod.setSec L k S)=(bv L).take (64 * k)++(bv S++(bv L).drop (64 * k+64)):=by simp[Mod.setSec,bv,List.map_take,List.map_drop]
    rw[List.toList_toArray,av,<-i' aj,Nat.mul_one,List.take_take,List.drop_take,List.take_append,List.take_append,Z,am',u,List.take_of_length_le (l:=r.toList.take (k * 64)) (by rw[Z];omega),List.take_of_length_le (l:=bv S) (by rw[am',u];omega)];rw[show min (64 * k) n=k * 64 by omega,show 64 * k+64=k * 64+64 by omega,show n - k * 64 - 64=n - (k * 64+64) by omega]
   have ax:=t' M;have ay:=t' hF;clear f D V X g0 Y M hF c0;go_simp;go_wp2;refine bodyPost_end (results_none rfl _ _ _) rfl ?_;refine⟨rfl,⟨by rw[am'];omega, .inr ⟨g,cap,_,by rw[i' J],Nat.zero_le _,i' ax,by rw[i' J];omega,ah,by simp[am'];omega,by rw[i' J];exact au⟩⟩,?_⟩;exact(A' (E:=fun j=>(Value.slice (some ⟨g,0,none⟩) n cap).ownBlock=some j) (i' aq)).trans (i' ay) (fun j _ e=>by rw[e];rfl)
structure dS' (w:World) (p:Nat) (d:Mod.Dk) (lv uv:Value):Prop where
 blk:w.heap[p]? =some (.cells #[lv,uv, .int .i64 d.armed, .bool d.dead] 252 (0,0))
 row:w.ownsRow 0 5 1 lv d.bytes.length (bv d.bytes)
 un:ao' w 261 65 uv 0 []
 len:128<=d.bytes.length/\d.bytes.length<=10000
 arm:d.armed<=9223372036854775807
def DkU (p:Nat) (lv f:Value) (k:Nat):Prop:=k=p\/lv.ownBlock=some k\/f.ownBlock=some k
theorem dS'.far {E:Nat->Prop} {w x:World} {p:Nat} {d:Mod.Dk} {lv r:Value} (h:dS' w p d lv r) (u:Far E w x) (z:∀k,DkU p lv r k->¬E k):dS' x p d lv r:=
 ⟨u.blk h.blk (z p (.inl rfl)),aw' h.row (fun g f=>u.rest g (World.ownsRow.lt h.row g f).2 (z g (.inr (.inl f)))),h.un.far u (fun g f=>z g (.inr (.inr f))),h.len,h.arm⟩
theorem dS'.lt {w:World} {p:Nat} {d:Mod.Dk} {lv r:Value} (h:dS' w p d lv r):∀k,DkU p lv r k->k < w.heap.size:=by
 rintro k (rfl|f|f)
 ·exact lt_of_block h.blk
 ·exact(World.ownsRow.lt h.row k f).2
 ·exact h.un.lt k f
theorem kc' (w:World) (p:Nat) (lv u:Value) (n:Int) (k:Nat) (S:List UInt8) (f:w.heap[p]? =some (.cells #[lv,u, .int .i64 n, .bool true] 252 (0,0))):
  Calls Tryz.prog 182 #[.pointer (some ⟨p,0,none⟩), .int .i64 k, .agg (bv S).toArray] w fun z w'=>z= .returned (.int .i64 3)/\Below w.heap.size w w':=by
 have D:=lt_of_block f;have c3:∀r,(w.alloc r).cell? ⟨p,3,none⟩=some (.bool true):=fun r=>(World.cell?_alloc_lt w _ ⟨p,3,none⟩ D).trans (m' (i:=3) f);clear f;go_enter Tryz.func182,Tryz.ntmps182;go_wp2;go_ret;exact⟨rfl,(Below.refl _ _).alloc (Nat.le_refl _) _⟩
theorem kd' (w:World) (p:Nat) (lv z:Value) (k:Nat) (S:List UInt8) (r:w.heap[p]? =some (.cells #[lv,z, .int .i64 1, .bool false] 252 (0,0))):
  Calls Tryz.prog 182 #[.pointer (some ⟨p,0,none⟩), .int .i64 k, .agg (bv S).toArray] w fun F w'=>F= .returned (.int .i64 4)/\w'.heap[p]? =some (.cells #[lv,z, .int .i64 1, .bool true] 252 (0,0))/\Far (fun j=>j=p) w w':=by
 have D:=lt_of_block r;have u:∀f,(w.alloc f).heap[p]? =some (.cells #[lv,z, .int .i64 1, .bool false] 252 (0,0)):=fun f=>(hao _ _ D).trans r;have c3:∀f,(w.alloc f).cell? ⟨p,3,none⟩=some (.bool false):=fun f=>m' (i:=3) (u f);have c2:∀f,(w.alloc f).cell? ⟨p,2,none⟩=some (.int .i64 1):=fun f=>m' (i:=2) (u f);have G:∀f,(w.alloc f).frozen? ⟨p,3,none⟩=false:=fun f=>D' (i:=3) (u f);clear u;replace r:=t' r;go_enter Tryz.func182,Tryz.ntmps182;go_wp2;go_ret;refine⟨rfl,?_,?_⟩
 ·rw[hao _ _ (by rw[World.size_setCell];exact D)];have:=af' (j:=3) (v:= .bool true) (i' r);simpa using this
 ·exact(O' w p 3 _).trans (A' ((Below.refl _ _).alloc (Nat.le_refl _) _)) (fun _ _ h=>h)
end Go.Proofs.YtamafdcnbcoegaaGreat
namespace Go.Proofs.YtamafdcnbcoegaaGreat
namespace Mod
structure Flow where
 base:Nat
 kept:List (ByteArray×Nat)
 held:List Nat
structure Ag where
 epoch:Nat
 ticks:Nat
 welcome:Bool
 fenced:Bool
 fl:Nat->Flow
def upd (f:Nat->Flow) (s:Nat) (x:Flow):Nat->Flow:=fun t=>if t=s then x else f t
theorem pk' (f:Nat->Flow) (s:Nat) (x:Flow):upd f s x s=x:=by simp[upd]
def Ag.room (a:Ag):Nat:=(a.fl 0).kept.length+(a.fl 1).kept.length+(a.fl 2).kept.length
def Ag.refuses (a:Ag) (stream:Int) (size:Nat):Int:=
 if stream < 0\/3<=stream then 5 else if 20 < size then 6 else if 24<=a.room then 7 else 0
def Ag.submit (a:Ag) (s:Nat) (body:ByteArray):Ag:={a with fl:=upd a.fl s {a.fl s with kept:=(a.fl s).kept++[(body,0)]}}
def Ag.spool (a:Ag) (s:Nat):List ByteArray:=(a.fl s).kept.map (·.1)
def due (f:Flow) (ticks i r:Nat):Bool:= !(f.held.contains (f.base+1+i)) && (r==0||decide (r+4<=ticks))
def sendTo (epoch s:Nat) (f:Flow) (ticks:Nat):Nat->List (ByteArray×Nat) ×List (List UInt8)
 |0=>(f.kept,[])
 |i+1=>
  let r:=sendTo epoch s f ticks i
  match f.kept[i]? with
  |none=>r
  |some x=>if due f ticks i x.2 then(r.1.set i (x.1,ticks),r.2++[Wire.bytes 3 epoch s (f.base+1+i:Nat) x.1.data.toList])else r
def Ag.gone (a:Ag) (s:Nat) (vE':Int):Nat:=min (vE' - (a.fl s).base).toNat (a.fl s).kept.length
def Flow.drop (f:Flow) (n:Nat):Flow:={f with base:=f.base+n,kept:=f.kept.drop n}
def dropTo (f:Nat->Flow) (n:Nat->Nat) (s:Nat):Nat->Flow:=fun t=>if t < s then(f t).drop (n t)else f t
theorem dropTo_zero (f:Nat->Flow) (n:Nat->Nat):dropTo f n 0=f:=by funext t;simp[dropTo]
theorem dropTo_self (f:Nat->Flow) (n:Nat->Nat) (s:Nat):dropTo f n s s=f s:=by simp[dropTo]
theorem dropTo_succ (f:Nat->Flow) (n:Nat->Nat) (s:Nat):dropTo f n (s+1)=upd (dropTo f n s) s ((f s).drop (n s)):=by
 funext t;unfold dropTo upd;by_cases h:t=s
 ·subst h;simp
 ·by_cases h2:t < s
  ·simp[h,h2,show t < s+1 by omega]
  ·simp[h,h2,show ¬t < s+1 by omega]
def Ag.drop (a:Ag) (n:Nat->Nat):Ag:={a with fl:=dropTo a.fl n 3}
def Ag.says (a:Ag) (f epoch stream r:Int) (body:ByteArray) (s:Nat):Nat:=
 if epoch≠a.epoch then 0 else if f=2 then a.gone s (Wire.numAt body.data.toList (4 * s))else if f=4/\stream=s/\a.welcome=true then a.gone s r else 0
def fresh (f:Nat->Flow) (s:Nat):Nat->Flow:=fun t=>if t < s then {f t with kept:=(f t).kept.map fun r=>(r.1,0),held:=[]}else f t
def bitsOf (f:Nat) (c:Nat):Nat->List Nat
 |0=>[]
 |i+1=>bitsOf f c i++(if c / 2 ^ i % 2=1 then [f+2+i]else [])
def Ag.ackSeq (a:Ag) (s:Nat) (q:Int):Nat:=min q.toNat ((a.fl s).base+(a.fl s).kept.length)
def Ag.deliver (a:Ag) (k e st q:Int) (b:ByteArray):Ag:=
 if k=5/\(a.epoch:Int) < e then {a with fenced:=true}
 else if e≠a.epoch then a
 else if k=5 then {a with welcome:=false}
 else if k=2 then {a.drop (a.says k e st q b)with welcome:=true,fl:=fresh (a.drop (a.says k e st q b)).fl 3}
 else if k=4 then
  if a.welcome=false\/a.ackSeq st.toNat q < (a.fl st.toNat).base then a
  else {a.drop (a.says k e st q b)with fl:=upd (a.drop (a.says k e st q b)).fl st.toNat {(a.drop (a.says k e st q b)).fl st.toNat with held:=bitsOf (a.ackSeq st.toNat q) (b.data.toList.getD 0 0).toNat 3}}
 else a
def sendFl (epoch ticks:Nat) (f:Nat->Flow) (s:Nat):Nat->Flow:=fun t=>if t < s then {f t with kept:=(sendTo epoch t (f t) ticks 4).1}else f t
def sendOut (epoch ticks:Nat) (f:Nat->Flow):Nat->List (List UInt8)
 |0=>[]
 |s+1=>sendOut epoch ticks f s++(sendTo epoch s (f s) ticks 4).2
def Ag.tick (a:Ag):Ag×List (List UInt8):=
 if a.fenced=true then({a with ticks:=a.ticks+1},[])
 else if a.welcome=false then({a with ticks:=a.ticks+1},[Wire.bytes 1 a.epoch 0 0 []])
 else({a with ticks:=a.ticks+1,fl:=sendFl a.epoch (a.ticks+1) a.fl 3},sendOut a.epoch (a.ticks+1) a.fl 3)
end Mod
end Go.Proofs.YtamafdcnbcoegaaGreat
namespace Go.Proofs.YtamafdcnbcoegaaGreat
open Go.RowKit
def H' (l:List Nat):List Value:=l.map fun n:Nat=> .int .i64 (n:Int)
structure vr' where
 dead:Bool
 g0:Int
 g1:Int
 g2:Int
 st:Int
 ex:Value
theorem bj' {P:Program} {e:TypeId} {f:Value} {size bytes:Nat} (h:(P.info? e).map (fun i=>(i.zero,i.size,i.bytes))=some (some f,size,bytes)):∃i,P.info? e=some i/\i.zero=some f/\i.size=size/\i.bytes=bytes:=by
 cases hi:P.info? e with
 |none=>rw[hi]at h;cases h
 |some i=>rw[hi]at h;injection h with h;injection h with h1 h2;injection h2 with h2 h3;exact⟨i,rfl,h1,h2,h3⟩
theorem gU' {F:Array Oper} {rest:List Oper} {o:Oper} {a:Act} {G:Exit->Act->World->Prop} {w:World} (H:o.guard=none) (s x:Operand) (t:TypeId) (I:o.op= .call {callee:= .builtin .append,args:= #[s,x],argTypes:= #[t,t]})
  (e:TypeId) (z:Value) (size bytes:Nat) (J:Tryz.prog.underlying t=some (.slice e)) (M:(Tryz.prog.info? e).map (fun i=>(i.zero,i.size,i.bytes))=some (some z,size,bytes)) (O:z.cells.size=size)
  (v:Value) (n:Nat) (xs:List Value) (Q:ao' w e size v n xs) (hs:a.eval s=v) (D:Addr) (m c:Nat) (f:List Value) (U:a.eval x= .slice (some D) m c) (hl:f.length=m * size) (V:∀j u,f[j]? =some u->w.cell? (D.add j)=some u)
  (h1:∀u∈f,u.oneCell'=true) (X:0 < m) (Y:(n+m) * bytes<=140737488355328) (Z:n+m<=140737488355328)
  (h:∀r w',ao' w' e size r (n+m) (xs++f)->App w w' v r->wpList Tryz.prog F G rest (a.put o.dst r) w'):wpList Tryz.prog F G (o::rest) a w:=by
 obtain⟨i0,hi,aa,ab,ac⟩:=bj' M;obtain⟨r,w',ad,h2,h3⟩:=gR' (P:=Tryz.prog) w t o.type e i0 z size bytes J hi aa ab ac O v n xs Q D m c f hl V h1 X Y Z;refine wpList_plain H fun _ hK=>?_;unfold Oper.wp execOp;simp only[I,resolve,invoke,builtin,Sem.run_bind,Sem.run_pure,Result.andThen_ok,List.map_toArray,List.map_cons,List.map_nil,hs,U,ad];exact hK _ _ (h r w' h2 h3)
def aK' (l:List ByteArray):List Value:=l.map .string
theorem bG' (l:List ByteArray):(aK' l).length=l.length:=by simp[aK']
theorem mX':(Tryz.prog.info? 9).map (fun i=>(i.zero,i.size,i.bytes))=some (some (.string ⟨#[]⟩),1,16):=by kernel_rfl
end Go.Proofs.YtamafdcnbcoegaaGreat
namespace Go.Proofs.YtamafdcnbcoegaaGreat
namespace Mod
structure Sk where
 epoch:Nat
 logs:Nat->List ByteArray
 held:List (Nat×Nat×ByteArray)
def Sk.count (s:Sk):Nat:=(s.logs 0).length+(s.logs 1).length+(s.logs 2).length
def ixFrom (st q:Nat):Nat->List (Nat×Nat×ByteArray)->Option Nat
 | _,[]=>none
 |i,h::l=>if h.1=st/\h.2.1=q then some i else ixFrom st q (i+1) l
def Sk.ix (s:Sk) (st q:Nat):Option Nat:=ixFrom st q 0 s.held
def ixInt:Option Nat->Int
 |none=> -1
 |some i=>i
def Sk.commitFrom (a:Sk) (st q n:Nat):Nat->List ByteArray->List ByteArray
 |0,out=>out
 |f+1,out=>if n+out.length < 120 then
   match a.ix st (q+out.length)with
   |none=>out
   |some i=>Sk.commitFrom a st q n f (out++[(a.held.getD i (0,0,⟨#[]⟩)).2.2])
  else out
def Sk.commits (a:Sk) (k e st q:Int) (b:ByteArray):List ByteArray:=
 if k≠3\/e≠a.epoch\/q≠(a.logs st.toNat).length+1 then []else if 120<=a.count then []else a.commitFrom st.toNat q.toNat a.count 120 [b]
theorem Sk.commitFrom_stop {a:Sk} {st q n f:Nat} {out:List ByteArray} (h:¬n+out.length < 120):a.commitFrom st q n f out=out:=by
 cases f with
 |zero=>rfl
 |succ f=>rw[Sk.commitFrom,if_neg h]
theorem Sk.commitFrom_none {a:Sk} {st q n f:Nat} {out:List ByteArray} (h:n+out.length < 120) (hi:a.ix st (q+out.length)=none):a.commitFrom st q n f out=out:=by
 cases f with
 |zero=>rfl
 |succ f=>rw[Sk.commitFrom,if_pos h,hi]
theorem Sk.commitFrom_some {a:Sk} {st q n f i:Nat} {out:List ByteArray} (h:n+out.length < 120) (hi:a.ix st (q+out.length)=some i):a.commitFrom st q n (f+1) out=a.commitFrom st q n f (out++[(a.held.getD i (0,0,⟨#[]⟩)).2.2]):=by
 rw[Sk.commitFrom,if_pos h,hi]
def keeps (st up:Nat) (h:Nat×Nat×ByteArray):Bool:= !(decide (h.1=st)) ||decide (up < h.2.1)
def Sk.forget (a:Sk) (st up:Nat):Sk:={a with held:=a.held.filter (keeps st up)}
end Mod
end Go.Proofs.YtamafdcnbcoegaaGreat
namespace Go.Proofs.YtamafdcnbcoegaaGreat
open Go.RowKit
theorem gy' {B:Nat} {w:World} {e:TypeId} {v:Value} {n:Nat} {xs:List Value} (h:w.ownsRow B e 1 v n xs) (f:0 < n):∃g cap,v= .slice (some ⟨g,0,none⟩) n cap:=by
 obtain⟨_,h2⟩:=h;rcases h2 with ⟨_,h2⟩|⟨g,cap,r,e,_⟩
 ·omega
 ·exact⟨g,cap,e⟩
theorem uF' {B:Nat} {w:World} {e:TypeId} {v:Value} {n:Nat} {xs:List Value} (h:w.ownsRow B e 1 v n xs):w.ownsRow 0 e 1 v n xs:=by
 obtain⟨h1,h2⟩:=h;refine⟨h1,?_⟩;rcases h2 with h2|⟨g,cap,f,e,u,r⟩
 ·exact .inl h2
 ·exact .inr ⟨g,cap,f,e,Nat.zero_le _,r⟩
theorem al' {B:Nat} {w:World} {e:TypeId} {size n:Nat} {v:Value} {xs:List Value} (h:w.ownsRow B e size v n xs):ao' w e size v n xs:=by
 obtain⟨h1,h2⟩:=h;refine⟨h1,?_⟩;rcases h2 with h2|⟨g,cap,f,rfl,_,r,u,z,hs,D⟩
 ·exact .inl h2
 ·exact .inr ⟨g,0,cap,f,rfl,r,u,z,by omega,by simpa using D⟩
theorem gh' {a:Mod.Sk} {st q n:Nat}:∀ {f:Nat} {out:List ByteArray},out≠ []->a.commitFrom st q n f out≠ []
 |0,_,h=>h
 |f+1,out,h=>by
  rw[Mod.Sk.commitFrom];split
  ·split
   ·exact h
   ·exact gh' (by simp)
  ·exact h
theorem fk' {a:Mod.Sk} {st q n:Nat}:∀ {f:Nat} {out:List ByteArray},n+out.length<=120->n+(a.commitFrom st q n f out).length<=120
 |0,_,h=>h
 |f+1,out,h=>by
  rw[Mod.Sk.commitFrom];split
  ·split
   ·exact h
   ·exact fk' (by simp;omega)
  ·exact h
theorem gV' {a:Mod.Sk} (k e:Int) (s f:Nat) (b:ByteArray) (h:a.count<=120):a.count+(a.commits k e s f b).length<=120:=by
 rw[Mod.Sk.commits];split
 ·simpa using h
 ·split
  ·simpa using h
  ·exact fk' (by simp;omega)
theorem gz' {F:Array Oper} {o:Oper} {a:Act} {K:Act->World->Prop} {G:Exit->Act->World->Prop} {E:Prop} {w:World} (H:o.guard=none) (s x:Operand) (t:TypeId) (I:o.op= .call {callee:= .builtin .append,args:= #[s,x],argTypes:= #[t,t]})
  (e:TypeId) (z:Value) (size bytes:Nat) (J:Tryz.prog.underlying t=some (.slice e)) (M:(Tryz.prog.info? e).map (fun i=>(i.zero,i.size,i.bytes))=some (some z,size,bytes)) (O:z.cells.size=size)
  (v:Value) (n:Nat) (xs:List Value) (Q:ao' w e size v n xs) (hs:a.eval s=v) (D:Addr) (m c:Nat) (f:List Value) (U:a.eval x= .slice (some D) m c) (hl:f.length=m * size) (V:∀j u,f[j]? =some u->w.cell? (D.add j)=some u)
  (h1:∀u∈f,u.oneCell'=true) (X:0 < m) (Y:(n+m) * bytes<=140737488355328) (Z:n+m<=140737488355328)
  (h:∀r w',ao' w' e size r (n+m) (xs++f)->App w w' v r->K (a.put o.dst r) w'):if Region.wanted o (yielded F a.tmps)=true then o.wp Tryz.prog a w K G else E:=by
 rw[if_pos (by simp[Region.wanted,H])];obtain⟨i0,hi,aa,ab,ac⟩:=bj' M;obtain⟨r,w',ad,h2,h3⟩:=gR' (P:=Tryz.prog) w t o.type e i0 z size bytes J hi aa ab ac O v n xs Q D m c f hl V h1 X Y Z;unfold Oper.wp execOp;simp only[I,resolve,invoke,builtin,Sem.run_bind,Sem.run_pure,Result.andThen_ok,List.map_toArray,List.map_cons,List.map_nil,hs,U,ad];exact h r w' h2 h3
def dW' (a:Mod.Sk) (s up:Nat):Nat->Nat
 |0=>0
 |i+1=>dW' a s up i+(if(a.ix s (up+2+i)).isSome then 2 ^ i else 0)
theorem qp' (a:Mod.Sk) (s up:Nat):dW' a s up 3<=7:=by
 simp only[dW'];split <;> split <;> split <;> omega
def ackBody (a:Mod.Sk) (s up:Nat):ByteArray:=⟨#[UInt8.ofNat (dW' a s up 3)]⟩
theorem ke' {a:Mod.Sk} {s up:Nat} (D:a.epoch<=2147483647) (hs:s < 3) (hu:up<=2147483647):Wire.proper 4 a.epoch s up (ackBody a s up)=true:=by
 have F:=qp' a s up;have f:Wire.isNum (a.epoch:Int)=true:=by simp[Wire.isNum];omega
 have r:Wire.isNum (up:Int)=true:=by simp[Wire.isNum];omega
 have u:Wire.isStr (s:Int)=true:=by simp[Wire.isStr];omega
 have z:Wire.ackBody (ackBody a s up)=true:=by
  have:(UInt8.ofNat (dW' a s up 3)).toNat=dW' a s up 3:=by simp[UInt8.toNat_ofNat'];omega
  simp[Wire.ackBody,ackBody,this,ByteArray.size];omega
 simp[Wire.proper,f,r,u,z]
end Go.Proofs.YtamafdcnbcoegaaGreat
namespace Go.Proofs.YtamafdcnbcoegaaGreat
open Go.RowKit
open Go.MapKept
def aT' (w:World) (b:Nat) (r:Int->Option Value):Prop:=
 ∃f u,w.heap[b]? =some (.map f u)/\(∀x∈f.toList,IsKey (.int .i64) x.key)/\(f.toList.map (·.key)).Nodup/\
  ∀ (k:Int) (v:Value),r k=some v↔ ∃x∈f.toList,x.key= .int .i64 k/\x.val=v
theorem aT'.keep {w w':World} {b:Nat} {f:Int->Option Value} (h:aT' w b f) (r:w'.heap[b]? =w.heap[b]?):aT' w' b f:=by
 obtain⟨u,z,D,F⟩:=h;exact⟨u,z,r.trans D,F⟩
theorem aT'.lt {w:World} {b:Nat} {f:Int->Option Value} (h:aT' w b f):b < w.heap.size:=by
 obtain⟨u,z,r,D⟩:=h;exact(Array.getElem?_eq_some_iff.1 r).1
theorem aT'.not_cells {w:World} {b:Nat} {r:Int->Option Value} {c:Array Value} {t:TypeId} {fr:Nat×Nat} (h:aT' w b r) (f:w.heap[b]? =some (.cells c t fr)):False:=by
 obtain⟨z,D,u,F⟩:=h;rw[u]at f;cases f
theorem fS' (w:World):aT' (w.alloc (.map #[] 0)) w.heap.size fun _=>none:=
 ⟨#[],0,heap_alloc_new w _,by simp,by simp,by simp⟩
def jw' (w:World) (v:Value) (f:Int->Option Value):Prop:=(v= .map none/\f=fun _=>none)\/∃b,v= .map (some b)/\aT' w b f
def aQ':Value->Option Nat
 | .map b=>b
 | _=>none
theorem jw'.keep {w w':World} {v:Value} {f:Int->Option Value} (h:jw' w v f) (r:∀b,aQ' v=some b->w'.heap[b]? =w.heap[b]?):jw' w' v f:=by
 rcases h with h|⟨b,rfl,h⟩
 ·exact .inl h
 ·exact .inr ⟨b,rfl,h.keep (r b rfl)⟩
theorem jw'.lt {w:World} {v:Value} {r:Int->Option Value} (h:jw' w v r):∀b,aQ' v=some b->b < w.heap.size:=by
 intro b f;rcases h with ⟨rfl,_⟩|⟨u,rfl,h⟩
 ·cases f
 ·cases f;exact h.lt
theorem el' (k:Int):IsKey (.int .i64) (.int .i64 k):=by simp[IsKey]
theorem iu' {f:List MapEntry} {r:Int->Option Value} (z:∀x∈f,IsKey (.int .i64) x.key) (u:∀ (k:Int) (v:Value),r k=some v↔ ∃x∈f,x.key= .int .i64 k/\x.val=v) (k:Int):
  (Instr.findNow (.int .i64) (.int .i64 k) f 0=some none/\r k=none/\∀x∈f,x.key≠ .int .i64 k)\/
  ∃j e,Instr.findNow (.int .i64) (.int .i64 k) f 0=some (some (j,e.val))/\f[j]? =some e/\e.key= .int .i64 k/\r k=some e.val:=by
 rcases findNow_spec (el' k) f 0 z with ⟨h1,h2⟩|⟨j,e,h1,h2,h3⟩
 ·refine .inl ⟨h1,?_,h2⟩;cases D:r k with
  |none=>rfl
  |some v=>obtain⟨x,F,G,_⟩:=(u k v).1 D;exact absurd G (h2 x F)
 ·exact .inr ⟨j,e,by rw[h1];simp,h2,h3,(u k e.val).2 ⟨e,List.mem_of_getElem? h2,h3,rfl⟩⟩
theorem bf' {P:Program} {w:World} {t K E:TypeId} (r:P.underlying t=some (.map K E)) (hK:P.underlying K=some (.int .i64)) {u:Value} (z:(zeroValue E).run P w= .ok u w) {v:Value} {f:Int->Option Value} (h:jw' w v f) (k:Int):
  (Instr.lookup t v (.int .i64 k) true).run P w= .ok (.tuple #[(f k).getD u, .bool (f k).isSome]) w/\(Instr.lookup t v (.int .i64 k) false).run P w= .ok ((f k).getD u) w:=by
 rcases h with ⟨rfl,rfl⟩|⟨b,rfl,H,I,D,F,J,G⟩
 ·have h1:Instr.findNow (.int .i64) (.int .i64 k) [] 0=some none:=rfl;constructor <;> simp[Instr.lookup,run_underlying r,run_checkKey hK (el' k),run_findKey hK h1,z,Result.andThen]
 ·rcases iu' F G k with ⟨h1,h2,_⟩|⟨j,e,h1,h2,h3,h4⟩
  ·constructor <;> simp[Instr.lookup,run_underlying r,MapKept.run_getObj_map D,run_checkKey hK (el' k),run_findKey hK h1,z,h2,Result.andThen]
  ·constructor <;> simp[Instr.lookup,run_underlying r,MapKept.run_getObj_map D,run_checkKey hK (el' k),run_findKey hK h1,h4,Result.andThen]
def jx' (f:Int->Option Value) (k:Int) (v:Value):Int->Option Value:=fun j=>if j=k then some v else f j
def lH' (f:Int->Option Value) (k:Int):Int->Option Value:=fun j=>if j=k then none else f j
theorem tm' {f:List MapEntry} {Q:Int->Option Value} (U:(f.map (·.key)).Nodup) (V:∀x∈f,IsKey (.int .i64) x.key) (X:∀ (k:Int) (v:Value),Q k=some v↔ ∃x∈f,x.key= .int .i64 k/\x.val=v) {j:Nat} {e:MapEntry} {k:Int} (hj:f[j]? =some e) (J:e.key= .int .i64 k) (v:Value):
  (∀x∈f.set j {e with key:= .int .i64 k,val:=v},IsKey (.int .i64) x.key)/\((f.set j {e with key:= .int .i64 k,val:=v}).map (·.key)).Nodup/\
   ∀ (G:Int) (M:Value),jx' Q k v G=some M↔ ∃x∈f.set j {e with key:= .int .i64 k,val:=v},x.key= .int .i64 G/\x.val=M:=by
 have F:j < f.length:=(List.getElem?_eq_some_iff.1 hj).1;have Y:(f.set j {e with key:= .int .i64 k,val:=v}).map (·.key)=f.map (·.key):=by
  rw[List.map_set];apply List.ext_getElem?;intro i;rw[List.getElem?_set];by_cases H:j=i
  ·subst H;have:=Option.some.inj ((List.getElem?_eq_getElem F).symm.trans hj);simp[F,this,J]
  ·simp[H]
 have Z:∀ (i:Nat) (x:MapEntry),f[i]? =some x->x.key= .int .i64 k->i=j:=by
  intro i x hi r;by_cases H:i=j
  ·exact H
  ·have u:i < f.length:=(List.getElem?_eq_some_iff.1 hi).1;have h0:=List.getElem_inj (xs:=f.map (·.key)) (i:=i) (j:=j) (h₀:=by simpa using u) (h₁:=by simpa using F) U;have aa:(f.map (·.key))[i]'(by simpa using u)= .int .i64 k:=by rw[List.getElem_map,<-r];congr 1;rw[List.getElem?_eq_getElem u]at hi;exact Option.some.inj hi
   have ab:(f.map (·.key))[j]'(by simpa using F)= .int .i64 k:=by rw[List.getElem_map,<-J];congr 1;rw[List.getElem?_eq_getElem F]at hj;exact Option.some.inj hj
   exact h0.1 (aa.trans ab.symm)
 refine⟨fun x r=>?_,Y ▸ U,fun G M=>?_⟩
 ·rcases List.mem_or_eq_of_mem_set r with h|h
  ·exact V x h
  ·subst h;exact el' k
 ·unfold jx';by_cases I:G=k
  ·subst I;rw[if_pos rfl];constructor
   ·rintro⟨⟩;exact⟨_,List.mem_set F _,rfl,rfl⟩
   ·rintro⟨x,r,z,rfl⟩;obtain⟨i,hi,D⟩:=List.getElem_of_mem r;rw[List.getElem_set]at D;split at D
    ·rw[<-D]
    ·rename_i O;have u:i < f.length:=by simpa using hi
     exact absurd (Z i x (by rw[List.getElem?_eq_getElem u,D]) z).symm O
  ·rw[if_neg I,X];constructor
   ·rintro⟨x,r,z,rfl⟩;obtain⟨i,u,D⟩:=List.getElem_of_mem r;have O:¬j=i:=by rintro rfl;rw[List.getElem?_eq_getElem u,D]at hj;cases hj;rw[J]at z;injection z with _ h;exact I h.symm
    refine⟨x,?_,z,rfl⟩;have:=List.getElem_set_ne O (a:={e with key:= .int .i64 k,val:=v}) (hj:=by simpa using u);rw[<-D,<-this];exact List.getElem_mem _
   ·rintro⟨x,r,z,rfl⟩;rcases List.mem_or_eq_of_mem_set r with h|h
    ·exact⟨x,h,z,rfl⟩
    ·subst h;injection z with _ h;exact absurd h.symm I
theorem bu' {P:Program} {w:World} {t K E:TypeId} (Q:P.underlying t=some (.map K E)) (hK:P.underlying K=some (.int .i64)) {b:Nat} {U:Int->Option Value} (h:aT' w b U) (k:Int) (v:Value):
  ∃o,(∀y:World,y.heap=w.heap->(Instr.mapUpdate t (.map (some b)) (.int .i64 k) v).run P y= .ok () {y with heap:=y.heap.setIfInBounds b o})/\aT' {w with heap:=w.heap.setIfInBounds b o} b (jx' U k v):=by
 obtain⟨r,z,u,F,V,G⟩:=h;have ab:b < w.heap.size:=(Array.getElem?_eq_some_iff.1 u).1;have X:∀o,({w with heap:=w.heap.setIfInBounds b o}:World).heap[b]? =some o:=fun o=>by simp[ab]
 rcases iu' F G k with ⟨h1,h2,h3⟩|⟨j,e,h1,h2,h3,h4⟩
 ·refine⟨.map (r.push ⟨.int .i64 k,v,z⟩) (z+1),?_,r.push ⟨.int .i64 k,v,z⟩,z+1,X _,?_,?_,?_⟩
  ·intro y H;have u:y.heap[b]? =some (.map r z):=by rw[H];exact u
   simp[Instr.mapUpdate,run_underlying Q,MapKept.run_getObj_map u,run_checkKey hK (el' k),run_findKey hK h1,run_setObj_map _ u,Result.andThen]
  ·intro x f;simp only[Array.toList_push,List.mem_append,List.mem_singleton]at f;rcases f with f|rfl
   ·exact F x f
   ·exact el' k
  ·simp only[Array.toList_push,List.map_append,List.map_cons,List.map_nil];rw[List.nodup_append];refine⟨V,by simp,?_⟩;rintro a ac c Y rfl;simp only[List.mem_singleton]at Y;obtain⟨x,f,rfl⟩:=List.mem_map.1 ac;exact h3 x f Y
  ·intro ad ai;unfold jx';simp only[Array.toList_push,List.mem_append,List.mem_singleton];by_cases I:ad=k
   ·subst I;rw[if_pos rfl];constructor
    ·rintro⟨⟩;exact⟨_, .inr rfl,rfl,rfl⟩
    ·rintro⟨x,f|rfl,D,rfl⟩
     ·exact absurd D (h3 x f)
     ·rfl
   ·rw[if_neg I,G];constructor
    ·rintro⟨x,f,J⟩;exact⟨x, .inl f,J⟩
    ·rintro⟨x,f|rfl,D,J⟩
     ·exact⟨x,f,D,J⟩
     ·injection D with _ h;exact absurd h.symm I
 ·have hj:r[j]? =some e:=by simpa using h2
  have M:(r.modify j (fun O=>{O with key:= .int .i64 k,val:=v})).toList=r.toList.set j {e with key:= .int .i64 k,val:=v}:=by
   rw[Array.toList_modify];apply List.ext_getElem?;intro i;rw[List.getElem?_set,List.getElem?_modify];by_cases Z:j=i
   ·subst Z;have aa:j < r.toList.length:=(List.getElem?_eq_some_iff.1 h2).1;rw[h2];simp at aa;simp[aa]
   ·simp[Z]
  have hs:∀w,(Instr.keyThatStays (.int .i64 k) (.int .i64 k)).run P w= .ok (.int .i64 k) w:=fun w=>by simp[Instr.keyThatStays,Instr.sameBits]
  obtain⟨g1,g2,ah⟩:=tm' V F G h2 h3 v;refine⟨.map (r.modify j (fun O=>{O with key:= .int .i64 k,val:=v})) z,?_,_,z,X _,?_,?_,?_⟩
  ·intro y H;have u:y.heap[b]? =some (.map r z):=by rw[H];exact u
   simp[Instr.mapUpdate,run_underlying Q,MapKept.run_getObj_map u,run_checkKey hK (el' k),run_findKey hK h1,hj,h3,hs,run_setObj_map _ u,Result.andThen]
  ·rw[M];exact g1
  ·rw[M];exact g2
  ·rw[M];exact ah
theorem eJ' {P:Program} {w:World} {t K E K':TypeId} (X:P.underlying t=some (.map K E)) (hK:P.underlying K=some (.int .i64)) {b:Nat} {Y:Int->Option Value} (h:aT' w b Y) (k:Int):
  ∃o,(∀ (ty:TypeId) (y:World),y.heap=w.heap->(Builtin.delete_ #[t,K'] ty #[.map (some b), .int .i64 k]).run P y= .ok (.tuple #[]) {y with heap:=y.heap.setIfInBounds b o})/\aT' {w with heap:=w.heap.setIfInBounds b o} b (lH' Y k):=by
 obtain⟨f,D,u,G,H,I⟩:=h;have ab:b < w.heap.size:=(Array.getElem?_eq_some_iff.1 u).1;have Z:∀o,({w with heap:=w.heap.setIfInBounds b o}:World).heap[b]? =some o:=fun o=>by simp[ab]
 rcases iu' G I k with ⟨h1,h2,h3⟩|⟨j,e,h1,h2,h3,h4⟩
 ·refine⟨.map f D,?_,f,D,Z _,G,H,?_⟩
  ·intro ty y J;have u:y.heap[b]? =some (.map f D):=by rw[J];exact u
   simp[Builtin.delete_,run_underlying X,MapKept.run_getObj_map u,run_checkKey hK (el' k),run_findKey hK h1,run_setObj_map _ u,Result.andThen]
  ·intro M ac;unfold lH';by_cases F:M=k
   ·subst F;rw[if_pos rfl];constructor
    ·rintro⟨⟩
    ·rintro⟨x,r,z,_⟩;exact absurd z (h3 x r)
   ·rw[if_neg F,I]
 ·have O:j < f.toList.length:=(List.getElem?_eq_some_iff.1 h2).1;have Q:(f.eraseIdxIfInBounds j).toList=f.toList.eraseIdx j:=by
   have:j < f.size:=by simpa using O
   unfold Array.eraseIdxIfInBounds;rw[dif_pos this,Array.toList_eraseIdx]
  have U:(f.toList.eraseIdx j).Sublist f.toList:=List.eraseIdx_sublist _ _;have ad:∀x∈f.toList.eraseIdx j,x.key≠ .int .i64 k:=by intro x r z;obtain⟨i,ah,hi⟩:=List.mem_eraseIdx_iff_getElem?.1 r;have aa:i < f.toList.length:=(List.getElem?_eq_some_iff.1 hi).1;have h0:=List.getElem_inj (xs:=f.toList.map (·.key)) (i:=i) (j:=j) (h₀:=by simpa using aa) (h₁:=by simpa using O) H;refine ah (h0.1 ?_);rw[List.getElem_map,List.getElem_map];rw[List.getElem?_eq_getElem aa]at hi;rw[List.getElem?_eq_getElem O]at h2;rw[Option.some.inj hi,Option.some.inj h2,z,h3]
  refine⟨.map (f.eraseIdxIfInBounds j) D,?_,_,D,Z _,?_,?_,?_⟩
  ·intro ty y J;have u:y.heap[b]? =some (.map f D):=by rw[J];exact u
   simp[Builtin.delete_,run_underlying X,MapKept.run_getObj_map u,run_checkKey hK (el' k),run_findKey hK h1,run_setObj_map _ u,Result.andThen]
  ·rw[Q];exact fun x r=>G x (U.subset r)
  ·rw[Q];exact(U.map _).nodup H
  ·rw[Q];intro M ac;unfold lH';by_cases F:M=k
   ·subst F;rw[if_pos rfl];constructor
    ·rintro⟨⟩
    ·rintro⟨x,r,z,_⟩;exact absurd z (ad x r)
   ·rw[if_neg F,I];constructor
    ·rintro⟨x,r,z,V⟩;obtain⟨i,hi⟩:=List.getElem?_of_mem r;refine⟨x,List.mem_eraseIdx_iff_getElem?.2 ⟨i,?_,hi⟩,z,V⟩;rintro rfl;rw[h2]at hi;cases hi;rw[h3]at z;injection z with _ h;exact F h.symm
    ·rintro⟨x,r,V⟩;exact⟨x,U.subset r,V⟩
theorem fl' {P:Program} {w:World} {t K E:TypeId} (u:P.underlying t=some (.map K E)) {b:Nat} {z:Int->Option Value} (h:aT' w b z):
  ∃o,(∀ (ty:TypeId) (y:World),y.heap=w.heap->(Builtin.clear_ #[t] ty #[.map (some b)]).run P y= .ok (.tuple #[]) {y with heap:=y.heap.setIfInBounds b o})/\aT' {w with heap:=w.heap.setIfInBounds b o} b (fun _=>none):=by
 obtain⟨D,r,f,H,I,J⟩:=h;have F:b < w.heap.size:=(Array.getElem?_eq_some_iff.1 f).1;refine⟨.map #[] r,?_,#[],r,by simp[F],by simp,by simp,by simp⟩;intro ty y G;have f:y.heap[b]? =some (.map D r):=by rw[G];exact f
 simp[Builtin.clear_,run_underlying u,MapKept.run_getObj_map f,run_setObj_map _ f,Result.andThen]
theorem aW' {w:World} (b:Nat) (o:Obj):Far (fun k=>k=b) w {w with heap:=w.heap.setIfInBounds b o}:=
 ⟨rfl,rfl,rfl,by simp,fun k _ f=>by show(w.heap.setIfInBounds b o)[k]? = _;rw[Array.getElem?_setIfInBounds_ne (fun e=>f e.symm)]⟩
theorem fm' {P:Program} {w:World} {t K E ty:TypeId} (f:P.underlying t=some (.map K E)):(Builtin.clear_ #[t] ty #[.map none]).run P w= .ok (.tuple #[]) w:=by
 simp[Builtin.clear_,run_underlying f,Result.andThen]
end Go.Proofs.YtamafdcnbcoegaaGreat
namespace Go.Proofs
open Go.Shelf
open Go.RowKit in
def Tryz.laysM316_ren:Go.Shelf.Ren:=⟨fun|316=>134|n=>n,fun|9=>9|3=>3|4=>4|37=>44|0=>0|127=>256|5=>5|n=>n,fun|n=>n⟩
theorem Tryz.laysM316:Go.Proofs.LaysM.n316 Tryz.prog Tryz.laysM316_ren:={
 mixed:=by kernel_rfl
 f316:=Tryz.func134.trans (congrArg some (by kernel_rfl))
 t0:=Tryz.underlying0
 a0:=Tryz.isAgg0
 z0:=Tryz.sizeOf0
 v0:=Tryz.zeroValue0
 t3:=Tryz.underlying3
 a3:=Tryz.isAgg3
 z3:=Tryz.sizeOf3
 v3:=Tryz.zeroValue3
 t4:=Tryz.underlying4
 a4:=Tryz.isAgg4
 z4:=Tryz.sizeOf4
 v4:=Tryz.zeroValue4
 t9:=Tryz.underlying9
 a9:=Tryz.isAgg9
 z9:=Tryz.sizeOf9
 v9:=Tryz.zeroValue9
 t37:=Tryz.underlying44
 a37:=Tryz.isAgg44
 z37:=Tryz.sizeOf44
 v37:=Tryz.zeroValue44
 t127:=Tryz.underlying256
 a127:=Tryz.isAgg256
 z127:=Tryz.sizeOf256
 v127:=Tryz.zeroValue256
 t5:=Tryz.underlying5
 a5:=Tryz.isAgg5
 z5:=Tryz.sizeOf5
 v5:=Tryz.zeroValue5
 i0:=by kernel_rfl
 i3:=by kernel_rfl
 i4:=by kernel_rfl
 i5:=by kernel_rfl
 i9:=by kernel_rfl
 i37:=by kernel_rfl
 i127:=by kernel_rfl}
open Go.RowKit in
theorem Tryz.stringslite_Clone (s:ByteArray) (w:World) (f:s.size<=281474976710656):
  Calls Tryz.prog 134 #[.string s] w fun e w'=>e= .returned (.string s)/\Below w.heap.size w w':=Any.stringslite_Clone Tryz.laysM316 s w f
open Go.RowKit Go.Lib Go.Sort in
open Go.RowKit Go.Lib Go.Sort in
open Go.RowKit Go.Lib Go.Sort in
def Tryz.laysNm216_ren:Go.Shelf.Ren:=⟨fun|16=>100|n=>n,fun|24=>45|9=>9|4=>4|n=>n,fun|n=>n⟩
theorem Tryz.laysNm216:Go.Proofs.Lays2.n16 Tryz.prog Tryz.laysNm216_ren:={
 mixed:=by kernel_rfl
 f16:=Tryz.func100.trans (congrArg some (by kernel_rfl))
 t4:=Tryz.underlying4
 a4:=Tryz.isAgg4
 z4:=Tryz.sizeOf4
 v4:=Tryz.zeroValue4
 t9:=Tryz.underlying9
 a9:=Tryz.isAgg9
 z9:=Tryz.sizeOf9
 v9:=Tryz.zeroValue9
 t24:=Tryz.underlying45
 a24:=Tryz.isAgg45
 z24:=Tryz.sizeOf45
 v24:=Tryz.zeroValue45
 i9:=by kernel_rfl}
open Go.RowKit Go.Lib in
theorem Tryz.slices_Clone_string (b off n c:Nat) (f:List ByteArray) (w:World) (u:n<=f.length) (z:n * 16<=140737488355328) (D:∀j,j < f.length->w.cell? ⟨b,off+j,none⟩=some (.string (f.getD j ByteArray.empty))):
  Calls Tryz.prog 100 #[.slice (some ⟨b,off,none⟩) n c] w fun e w'=>∃r,e= .returned r/\w'.ownsRow w.heap.size 9 1 r n ((f.take n).map (Value.string))/\r≠ .slice none 0 0/\Below w.heap.size w w':=Any.slices_Clone_string Tryz.laysNm216 b off n c f w u z D
open Go.RowKit Go.Lib in
theorem Tryz.slices_Clone_string_nil (n c:Nat) (w:World):
  Calls Tryz.prog 100 #[.slice none n c] w fun e w'=>e= .returned (.slice none 0 0)/\w'=w:=Any.slices_Clone_string_nil Tryz.laysNm216 n c w
open Go.RowKit Go.Lib in
open Go.RowKit Go.Lib in
open Go.RowKit Go.Lib in
open Go.RowKit Go.Lib in
def Tryz.laysNm225_ren:Go.Shelf.Ren:=⟨fun|25=>132|31=>185|32=>186|37=>217|n=>n,fun|22=>26|3=>3|4=>4|40=>198|0=>0|n=>n,fun|n=>n⟩
theorem Tryz.laysNm225:Go.Proofs.Lays2.n25 Tryz.prog Tryz.laysNm225_ren:={
 mixed:=by kernel_rfl
 f25:=Tryz.func132.trans (congrArg some (by kernel_rfl))
 f31:=Tryz.func185.trans (congrArg some (by kernel_rfl))
 f32:=Tryz.func186.trans (congrArg some (by kernel_rfl))
 f37:=Tryz.func217.trans (congrArg some (by kernel_rfl))
 t0:=Tryz.underlying0
 a0:=Tryz.isAgg0
 z0:=Tryz.sizeOf0
 v0:=Tryz.zeroValue0
 t3:=Tryz.underlying3
 a3:=Tryz.isAgg3
 z3:=Tryz.sizeOf3
 v3:=Tryz.zeroValue3
 t4:=Tryz.underlying4
 a4:=Tryz.isAgg4
 z4:=Tryz.sizeOf4
 v4:=Tryz.zeroValue4
 t22:=Tryz.underlying26
 a22:=Tryz.isAgg26
 z22:=Tryz.sizeOf26
 v22:=Tryz.zeroValue26
 t40:=Tryz.underlying198
 a40:=Tryz.isAgg198
 z40:=Tryz.sizeOf198
 v40:=Tryz.zeroValue198}
open Go.RowKit Go.Lib in
theorem Tryz.slices_BinarySearch_int (b off n c:Nat) (f:List Int) (x:Int) (w:World) (r:n<=f.length) (u:n < 4611686018427387904) (z:∀j,j < f.length->w.cell? ⟨b,off+j,none⟩=some (.int .i64 (f.getD j 0))) (hs:(f.take n).Pairwise (· <= ·)):
  Calls Tryz.prog 132 #[.slice (some ⟨b,off,none⟩) n c, .int .i64 x] w fun e w'=>e= .returned (.tuple #[.int .i64 ((f.take n).countP (· < x):Nat), .bool ((f.take n).contains x)])/\∃q,w'=w.drewN q:=Any.slices_BinarySearch_int Tryz.laysNm225 b off n c f x w r u z hs
def Tryz.laysNm223_ren:Go.Shelf.Ren:=⟨fun|23=>221|n=>n,fun|22=>26|3=>3|4=>4|0=>0|n=>n,fun|n=>n⟩
theorem Tryz.laysNm223:Go.Proofs.Lays2.n23 Tryz.prog Tryz.laysNm223_ren:={
 mixed:=by kernel_rfl
 f23:=Tryz.func221.trans (congrArg some (by kernel_rfl))
 t0:=Tryz.underlying0
 a0:=Tryz.isAgg0
 z0:=Tryz.sizeOf0
 v0:=Tryz.zeroValue0
 t3:=Tryz.underlying3
 a3:=Tryz.isAgg3
 z3:=Tryz.sizeOf3
 v3:=Tryz.zeroValue3
 t4:=Tryz.underlying4
 a4:=Tryz.isAgg4
 z4:=Tryz.sizeOf4
 v4:=Tryz.zeroValue4
 t22:=Tryz.underlying26
 a22:=Tryz.isAgg26
 z22:=Tryz.sizeOf26
 v22:=Tryz.zeroValue26
 i3:=by kernel_rfl}
open Go.RowKit Go.Lib Go.Sort in
open Go.RowKit Go.Lib Go.Sort in
open Go.RowKit Go.Lib Go.Sort in
open Go.RowKit Go.Lib Go.Sort in
theorem Tryz.slices_Delete_int_cells (b off n c i j:Nat) (f:List Int) (w:World) (r:n<=f.length) (u:n<=c) (z:c<=9223372036854775807) (D:i<=j) (hj:j<=n) (F:∀j,j < f.length->w.cell? ⟨b,off+j,none⟩=some (.int .i64 (f.getD j 0))) (G:∀j,j < n->w.frozen? ⟨b,off+j,none⟩=false):
  Calls Tryz.prog 221 #[.slice (some ⟨b,off,none⟩) n c, .int .i64 i, .int .i64 j] w fun e w'=>e= .returned (.slice (some ⟨b,off,none⟩) (n - (j - i)) c)/\∃q,w'=(w.drewN q).setCells b off (((f.take n).take i++(f.take n).drop j++List.replicate (j - i) 0).map (Value.int .i64)):=Any.slices_Delete_int_cells Tryz.laysNm223 b off n c i j f w r u z D hj F G
open Go.RowKit Go.Lib in
theorem Tryz.slices_BinarySearch_int_empty (a:Option Addr) (c:Nat) (x:Int) (w:World):
  Calls Tryz.prog 132 #[.slice a 0 c, .int .i64 x] w fun e w'=>e= .returned (.tuple #[.int .i64 0, .bool false])/\w'=w:=Any.slices_BinarySearch_int_empty Tryz.laysNm225 a c x w
open Go.RowKit Go.Lib in
theorem Tryz.slices_Delete_int_empty (a:Option Addr) (c:Nat) (w:World):
  Calls Tryz.prog 221 #[.slice a 0 c, .int .i64 0, .int .i64 0] w fun e w'=>e= .returned (.slice a 0 c)/\w'=w:=Any.slices_Delete_int_empty Tryz.laysNm223 a c w
def Tryz.laysNm221_ren:Go.Shelf.Ren:=⟨fun|21=>133|27=>187|28=>188|35=>218|39=>225|n=>n,fun|22=>26|3=>3|4=>4|0=>0|n=>n,fun|n=>n⟩
theorem Tryz.laysNm221:Go.Proofs.Lays2.n21 Tryz.prog Tryz.laysNm221_ren:={
 mixed:=by kernel_rfl
 f21:=Tryz.func133.trans (congrArg some (by kernel_rfl))
 f27:=Tryz.func187.trans (congrArg some (by kernel_rfl))
 f28:=Tryz.func188.trans (congrArg some (by kernel_rfl))
 f35:=Tryz.func218.trans (congrArg some (by kernel_rfl))
 f39:=Tryz.func225.trans (congrArg some (by kernel_rfl))
 t0:=Tryz.underlying0
 a0:=Tryz.isAgg0
 z0:=Tryz.sizeOf0
 v0:=Tryz.zeroValue0
 t3:=Tryz.underlying3
 a3:=Tryz.isAgg3
 z3:=Tryz.sizeOf3
 v3:=Tryz.zeroValue3
 t4:=Tryz.underlying4
 a4:=Tryz.isAgg4
 z4:=Tryz.sizeOf4
 v4:=Tryz.zeroValue4
 t22:=Tryz.underlying26
 a22:=Tryz.isAgg26
 z22:=Tryz.sizeOf26
 v22:=Tryz.zeroValue26
 i3:=by kernel_rfl}
end Go.Proofs
