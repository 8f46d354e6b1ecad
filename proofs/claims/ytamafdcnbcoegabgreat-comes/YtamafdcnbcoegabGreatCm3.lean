/-
  Part 3 of a proof: MonoFoot, D6, D7, M1, X2, X4, X5, M2, Y3, Y4, Y5, Y6, S1, Shelf.
-/
import Derived.Laws.OwnMore
import Derived.Maps.OwnIn
import Derived.Shelf.Small.Wraps
import Derived.Shelf.LaysM
import Derived.Shelf.Strconv.Clone
import Derived.Shelf.Slices.Reverse
import Derived.Ground.Names2Prog
import Derived.Shelf.Slices.Clone
import Derived.Shelf.Slices.SearchI
import Derived.Shelf.Slices.Delete
import Derived.Shelf.Slices.Cells
import Derived.Shelf.Slices.Empties
import Derived.Ground.SlgnProg
import Derived.Shelf.SlicesE.Clone
import Derived.Test.YtamafdcnbcoegabGreatProg
import Derived.Shelf.Spec.SlicesInsertGrow
import Derived.Test.YtamafdcnbcoegabGreatCm2
set_option maxRecDepth 100000
set_option maxHeartbeats 40000000
namespace Go.Proofs.YtamafdcnbcoegabGreat
open Go.RowKit
def jJ' (d:Option Tmp) (v:Value):Value:=match d with|some _=>v|none=>undef
section
variable {P:Program} {ops:Array Oper} {Q:Exit->Act->World->Prop}
structure gl' (ops:Array Oper) (Φ:Nat->Value->World->Prop) (E:Nat->Nat->Prop) (a0:Act) (w0:World) (L:Array Bool) (a:Act) (w:World):Prop where
 size:L.size=ops.size
 ext:Far (fun b=>∃k,L.getD k false=true/\E k b) w0 w
 closed:∀k,L.getD k false=true->∀j,av' ops k j=true->L.getD j false=true
 vals:∀i o,ops[i]? =some o->L.getD i false=true->Φ i (match o.dst with|some d=>a.tmps.getD d undef|none=>undef) w
 rest:∀t,(∀j,wr ops t=some j->L.getD j false=false)->a.tmps.getD t undef=a0.tmps.getD t undef
 defers:a.defers=a0.defers
 tsize:a.tmps.size=a0.tmps.size
theorem tH' {a0:Act} {w0:World} (F:Nat->Value->World->Prop) (E:Nat->Nat->Prop) (ad:bz' ops a0.tmps.size=true)
  (aF:∀i j v w w',i≠j->av' ops j i=false->F j v w->Far (E i) w w'->F j v w')
  (aG:∀i o,ops[i]? =some o->∀a w,Far (fun b=>∃k,k≠i/\av' ops k i=false/\E k b) w0 w->bw' ops F a0 i o a w->
   if Region.wanted o (yielded ops a.tmps)=true then o.wp P a w (fun a' w'=>∃v,a'=a.put o.dst v/\Far (E i) w w'/\F i (jJ' o.dst v) w') Q else F i undef w)
  (aH:∀a w,Far (fun b=>∃k,E k b) w0 w->(∀i o,ops[i]? =some o->F i (match o.dst with|some d=>a.tmps.getD d undef|none=>undef) w)->(∀t,wr ops t=none->a.tmps.getD t undef=a0.tmps.getD t undef)->a.defers=a0.defers->a.tmps.size=a0.tmps.size->Q .normal a w):
  ∀ (M:Nat) (L:Array Bool) (a:Act) (w:World),gl' ops F E a0 w0 L a w->(List.range ops.size).countP (fun i=> !L.getD i false)<=M->wpAny P .any ops Q M L a w:=by
 have ax:∀ (L:Array Bool) (a:Act) (w:World),gl' ops F E a0 w0 L a w->Region.ready .any ops L=[]->Q .normal a w:=by
  intro L a w r aa;have aI:∀n i,i < n->i < ops.size->L.getD i false=true:=by
   intro n;induction n with
   |zero=>intro i h;omega
   |succ n ih=>
    intro i h hi;by_cases aJ:i < n
    ·exact ih i aJ hi
    ·have e:i=n:=by omega
     subst e;cases ay:L.getD i false
     ·exfalso;have D:ops[i]? =some ops[i]:=Array.getElem?_eq_getElem hi;obtain⟨_,_,h3⟩:=al' ad D;have:i∈Region.ready .any ops L:=mem_ready.2 ⟨by
       have hs:i < L.size:=by rw[r.size];exact hi
       rw[Array.getD_eq_getD_getElem?,Array.getElem?_eq_getElem hs]at ay ⊢;exact ay,ops[i],D,fun e ah G=>by
       have hd:av' ops i e.on=true:=by unfold av';rw[D];exact Array.any_eq_true'.2 ⟨e,ah,by simp[G]⟩
       have J:=h3 _ hd;exact ih e.on J (by omega)⟩
      rw[aa]at this;cases this
     ·rfl
  refine aH a w (r.ext.mono (fun b _ h=>h.imp fun k h=>h.2)) (fun i o D=>r.vals i o D (aI ops.size i (Array.getElem?_eq_some_iff.1 D).1 (Array.getElem?_eq_some_iff.1 D).1)) (fun t O=>r.rest t (fun j hj=>by rw[O]at hj;cases hj)) r.defers r.tsize
 intro M;induction M with
 |zero=>
  intro L a w r aK;have aa:Region.ready .any ops L=[]:=by
   apply List.eq_nil_iff_forall_not_mem.2;intro i hi;obtain⟨h0,o,D,_⟩:=mem_ready.1 hi;have J:i < ops.size:=(Array.getElem?_eq_some_iff.1 D).1;have H:L.getD i false=false:=by
    have hs:i < L.size:=by rw[r.size];exact J
    rw[Array.getD_eq_getD_getElem?,Array.getElem?_eq_getElem hs]at h0 ⊢;exact h0
   have:0 < (List.range ops.size).countP (fun i=> !L.getD i false):=List.countP_pos_iff.2 ⟨i,List.mem_range.2 J,by simp[H]⟩;omega
  exact⟨aa,ax L a w r aa⟩
 |succ M ih=>
  intro L a w r aK;refine⟨ax L a w r,fun i hi=>?_⟩;obtain⟨h0,o,D,aL⟩:=mem_ready.1 hi;have J:i < ops.size:=(Array.getElem?_eq_some_iff.1 D).1;have ai:i < L.size:=by rw[r.size];exact J
  have H:L.getD i false=false:=by rw[Array.getD_eq_getD_getElem?,Array.getElem?_eq_getElem ai]at h0 ⊢;exact h0
  obtain⟨hd,hl,aP⟩:=al' ad D;have az:∀j,av' ops i j=true->L.getD j false=true:=by intro j hj;unfold av' at hj;rw[D]at hj;obtain⟨e,ah,G⟩:=Array.any_eq_true'.1 hj;simp only[Bool.and_eq_true,beq_iff_eq]at G;rw[<-G.2];exact aL e ah G.1
  have aM:bw' ops F a0 i o a w:=by
   intro t O;cases I:wr ops t with
   |none=>exact r.rest t (fun j hj=>by rw[I]at hj;cases hj)
   |some j=>
    simp only[];have hj:=List.find?_some I;simp only[beq_iff_eq]at hj;split
    ·rename_i aj;cases ak:ops[j]? with
     |none=>rw[ak]at hj;cases hj
     |some aA=>rw[ak]at hj;have aB:=r.vals j aA ak (az j aj);have ab:aA.dst=some t:=hj;rw[ab]at aB;exact aB
    ·rename_i aj;refine r.rest t (fun aQ ab=>?_);rw[I]at ab;cases ab;rcases hl t O j I with h|h
     ·exact absurd h aj
     ·cases ao:L.getD j false
      ·rfl
      ·have:=r.closed j ao i h;rw[H]at this;cases this
  have aC:∀v w',Far (E i) w w'->F i (jJ' o.dst v) w'->gl' ops F E a0 w0 (L.setIfInBounds i true) (a.put o.dst v) w':=by
   intro v w' G U;have V:∀k,(L.setIfInBounds i true).getD k false=true↔ (k=i\/L.getD k false=true):=by
    intro k;by_cases z:k=i
    ·subst z;simp[Array.getD_eq_getD_getElem?,ai]
    ·rw[getD_set_ne false (fun e=>z e.symm)];simp[z]
   have ap:∀t,(a.put o.dst v).tmps.getD t undef=if o.dst=some t then v else a.tmps.getD t undef:=by
    intro t;cases X:o.dst with
    |none=>simp[Act.put]
    |some d=>
     simp only[Act.put,Option.some.injEq];have aN:d < a.tmps.size:=by rw[r.tsize];exact(hd d X).1
     by_cases h:d=t
     ·subst h;simp[Array.getD_eq_getD_getElem?,aN]
     ·simp[Array.getD_eq_getD_getElem?,h]
   refine⟨by simp[r.size],(r.ext.mono (fun b _ h=>by obtain⟨k,h1,h2⟩:=h;exact⟨k,(V k).2 (.inr h1),h2⟩)).trans G (fun b _ h=>⟨i,(V i).2 (.inl rfl),h⟩),?_,?_,?_,?_,?_⟩
   ·intro k z j hj;rw[V]at z ⊢;rcases z with rfl|z
    ·exact .inr (az j hj)
    ·exact .inr (r.closed k z j hj)
   ·intro k ok ac z;rw[V]at z;rcases z with rfl|z
    ·rw[D]at ac;cases ac;cases X:o.dst with
     |none=>rw[X]at U;exact U
     |some d=>rw[X]at U;simp only[];have aD:=ap d;rw[if_pos X,X]at aD;rw[aD];exact U
    ·have Y:i≠k:=by intro e;subst e;rw[H]at z;cases z
     have aO:av' ops k i=false:=by
      cases hd:av' ops k i with
      |false=>rfl
      |true=>have:=r.closed k z i hd;rw[H]at this;cases this
     have Z:=aF i k _ _ _ Y aO (r.vals k ok ac z) G;cases aq:ok.dst with
     |none=>rw[aq]at Z;exact Z
     |some d=>
      rw[aq]at Z;simp only[]at Z ⊢;have au:o.dst≠some d:=by intro e;have h1:=(hd d e).2;have h2:=((al' ad ac).1 d aq).2;rw[h1]at h2;cases h2;exact Y rfl
      rw[ap,if_neg au];exact Z
   ·intro t O;rw[ap];have au:o.dst≠some t:=by intro e;have:=O i (hd t e).2;have h2:=(V i).2 (.inl rfl);rw[this]at h2;cases h2
    rw[if_neg au];refine r.rest t (fun j hj=>?_);cases ao:L.getD j false
    ·rfl
    ·have:=O j hj;rw[(V j).2 (.inr ao)]at this;cases this
   ·cases o.dst <;> exact r.defers
   ·rw[<-r.tsize];cases o.dst <;> simp[Act.put]
  have aE:(List.range ops.size).countP (fun k=> !(L.setIfInBounds i true).getD k false)<=M:=by
   have:=cj' (l:=List.range ops.size) (p:=fun k=> !L.getD k false) (q:=fun k=> !(L.setIfInBounds i true).getD k false)
    (fun k _ z=>by
     by_cases Y:k=i
     ·subst Y;simp[H]
     ·rw[getD_set_ne false (fun e=>Y e.symm)]at z;exact z)
    ⟨i,List.mem_range.2 J,by simp[H],by simp[Array.getD_eq_getD_getElem?,ai]⟩
   omega
  have av:=aG i o D a w (r.ext.mono (fun b _ h=>by
   obtain⟨k,h1,h2⟩:=h;refine⟨k,fun e=>?_,?_,h2⟩
   ·subst e;rw[H]at h1;cases h1
   ·cases hd:av' ops k i with
    |false=>rfl
    |true=>have:=r.closed k h1 i hd;rw[H]at this;cases this)) aM
  unfold wpOp;rw[D];simp only[];split at av
  ·rename_i I;rw[if_pos I];refine .inl (Oper.wp_mono ?_ av);rintro a' w' ⟨v,rfl,G,U⟩;exact ih _ _ _ (aC v w' G U) aE
  ·rename_i I;rw[if_neg I];exact ih _ _ _ (aC undef w (Far.refl _ _) (by cases o.dst <;> exact av)) aE
def ev' (r:List (Nat× (Nat->Prop))) (i:Nat) (b:Nat):Prop:=∃p∈r,p.1=i/\p.2 b
def dB' (r:List (Nat× (Nat->Prop))) (ops:Array Oper) (i:Nat) (b:Nat):Prop:=∃p∈r,p.1≠i/\av' ops p.1 i=false/\p.2 b
def ba' (E:Nat->Prop) (r:Value->World->Prop):Prop:=∀v w w',r v w->Far E w w'->r v w'
theorem an' (E:Nat->Prop) (c:Value):ba' E (fun v _=>v=c):=fun _ _ _ h _=>h
theorem nV' (E:Nat->Prop):ba' E (fun _ _=>True):=fun _ _ _ _ _=>trivial
def gm' (ops:Array Oper) (i:Nat) (E:Nat->Prop):Nat->List (Value->World->Prop)->Prop
 | _,[]=>True
 |j,r::z=>(i=j\/av' ops j i=true\/ba' E r)/\gm' ops i E (j+1) z
def eW' (ops:Array Oper) (L:List (Value->World->Prop)):List (Nat× (Nat->Prop))->Prop
 |[]=>True
 |p::r=>gm' ops p.1 p.2 0 L/\eW' ops L r
theorem ew' {ops:Array Oper} {i:Nat} {E:Nat->Prop}:∀ {L:List (Value->World->Prop)} {s:Nat},gm' ops i E s L->∀j,i≠s+j->av' ops (s+j) i=false->ba' E (L.getD j (fun _ _=>True))
 |[],_,_,_,_,_=>by simpa using nV' E
 |D::r,s,h,0,z,hd=>by
  rcases h.1 with h|h|h
  ·exact absurd h z
  ·rw[Nat.add_zero]at hd;rw[hd]at h;cases h
  ·exact h
 |D::r,s,h,j+1,z,hd=>by have:=ew' (L:=r) (s:=s+1) h.2 j (by omega) (by rw[show s+1+j=s+(j+1) by omega];exact hd);simpa using this
theorem dO' {ops:Array Oper} {L:List (Value->World->Prop)}:∀ {z:List (Nat× (Nat->Prop))},eW' ops L z->∀p∈z,gm' ops p.1 p.2 0 L
 |[],_,_,r=>by cases r
 |q::D,h,p,r=>by
  cases r with
  |head=>exact h.1
  |tail _ r=>exact dO' h.2 p r
def ne' (r:List (Nat× (Nat->Prop))):Bool:=(r.map (·.1)).all fun i=>(r.map (·.1)).count i==1
theorem iZ' {D:List (Nat× (Nat->Prop))} (h:ne' D=true) {p q:Nat× (Nat->Prop)} (z:p∈D) (r:q∈D) (e:p.1=q.1):p=q:=by
 induction D with
 |nil=>cases z
 |cons x F ih=>
  have G:∀y∈F,y.1≠x.1:=by
   intro y H e;have h1:=List.all_eq_true.1 h x.1 (by simp);rw[beq_iff_eq,List.map_cons,List.count_cons_self]at h1;have:(F.map (·.1)).count x.1=0:=by omega
   exact(List.count_eq_zero.1 this) (List.mem_map.2 ⟨y,H,e⟩)
  have I:ne' F=true:=by unfold ne' at h ⊢;rw[List.all_eq_true]at h ⊢;intro i hi;have h1:=h i (by rw[List.map_cons];exact .tail _ hi);obtain⟨y,H,rfl⟩:=List.mem_map.1 hi;rw[beq_iff_eq,List.map_cons,List.count_cons_of_ne (fun e=>G y H e.symm)]at h1;rw[beq_iff_eq];exact h1
  cases z with
  |head=>
   cases r with
   |head=>rfl
   |tail _ r=>exact absurd e.symm (G q r)
  |tail _ z=>
   cases r with
   |head=>exact absurd e (G p z)
   |tail _ r=>exact ih I z r
def nW' (P:Program) (ops:Array Oper) (Q:Exit->Act->World->Prop) (L:List (Value->World->Prop)) (r:List (Nat× (Nat->Prop))) (a0:Act) (w0:World):Nat->List Oper->List (List (Tmp×Option Nat))->List (Value->World->Prop)->Prop
 |i,o::os,D::F,z::G=>(∀a w,Far (dB' r ops i) w0 w->M' L a0 a w D->
   if Region.wanted o (yielded ops a.tmps)=true then o.wp P a w (fun a' w'=>∃v,a'=a.put o.dst v/\Far (ev' r i) w w'/\z (jJ' o.dst v) w') Q else z undef w)/\nW' P ops Q L r a0 w0 (i+1) os F G
 | _,[],_,_=>True
 | _,_,_,_=>False
theorem jK' {L:List (Value->World->Prop)} {H:List (Nat× (Nat->Prop))} {a0:Act} {w0:World}:∀ {s:Nat} {os:List Oper} {D:List (List (Tmp×Option Nat))} {F:List (Value->World->Prop)},nW' P ops Q L H a0 w0 s os D F->
  ∀ (i:Nat) o r,os[i]? =some o->D[i]? =some r->∀a w,Far (dB' H ops (s+i)) w0 w->M' L a0 a w r->
   if Region.wanted o (yielded ops a.tmps)=true then o.wp P a w (fun a' w'=>∃v,a'=a.put o.dst v/\Far (ev' H (s+i)) w w'/\F.getD i (fun _ _=>True) (jJ' o.dst v) w') Q else F.getD i (fun _ _=>True) undef w
 | _,[],_,_,_,i,o,r,z,_=>by simp at z
 | _,o::os,[],_,h,_,_,_,_,_=>h.elim
 | _,o::os,r::D,[],h,_,_,_,_,_=>h.elim
 | _,o::os,r::D,J::F,h,0,I,pl',z,G=>by simp at z G;subst z;subst G;exact h.1
 |s,o::os,r::D,J::F,h,i+1,I,pl',z,G=>by have:=jK' h.2 i I pl' (by simpa using z) (by simpa using G);rw[show s+1+i=s+(i+1) by omega]at this;simpa using this
def cl' (f:Nat->Value) (w:World):List (Option Tmp)->List (Value->World->Prop)->Prop
 |some d::ds,r::z=>r (f d) w/\cl' f w ds z
 |none::ds,r::z=>r undef w/\cl' f w ds z
 | _,_=>True
theorem eX' {f:Nat->Value} {w:World}:∀ {os:List Oper} {L:List (Value->World->Prop)},(∀i o,os[i]? =some o->L.getD i (fun _ _=>True) (match o.dst with|some d=>f d|none=>undef) w)->cl' f w (os.map (·.dst)) L
 |[],_,_=>by simp[cl']
 |o::os,[],_=>by cases h:o.dst <;> simp[cl',h]
 |o::os,F::r,h=>by
  have ih:=eX' (os:=os) (L:=r) (fun i z D=>by have:=h (i+1) z (by simpa using D);simpa using this);have h0:=h 0 o rfl;cases hd:o.dst with
  |none=>rw[hd]at h0;simpa[cl',hd]using ⟨h0,ih⟩
  |some d=>rw[hd]at h0;simpa[cl',hd]using ⟨h0,ih⟩
theorem ae' {r:List (Nat× (Nat->Prop))} {ops:Array Oper} {i k:Nat} (h:∀p∈r,¬p.2 k):¬dB' r ops i k:=fun⟨p,z,_,_,h3⟩=>h p z h3
theorem eY' {r:List (Nat× (Nat->Prop))} {ops:Array Oper} {i:Nat} {w z:World} (h:Far (dB' r ops i) w z) (hd:∀p∈r,av' ops p.1 i=true):Below w.heap.size w z:=
 h.below (Nat.le_refl _) (fun _ _ ⟨p,D,_,h2,_⟩=>by rw[hd p D]at h2;cases h2)
theorem aj' {r:List (Nat× (Nat->Prop))} {i:Nat} {E:Nat->Prop} {w w':World} (z:(i,E) ∈r) (h:Far E w w'):Far (ev' r i) w w':=h.mono (fun _ _ D=>⟨(i,E),z,rfl,D⟩)
theorem Z' {id:Nat} {a0:Act} {w0:World} (V:P.follows .mixedOrders=true) (L:List (Value->World->Prop)) (I:List (List (Tmp×Option Nat))) (O:List (Option Tmp)) (J:List Bool) (D:List (Nat× (Nat->Prop)))
  (X:ne' D=true) (Y:bz' ops a0.tmps.size=true) (Z:bZ' ops=I) (aa:eu' ops=O) (U:bl' ops a0.tmps.size=J) (ab:bD' L) (ac:eW' ops L D) (ad:nW' P ops Q L D a0 w0 0 ops.toList I L)
  (ah:∀f w,Far (fun b=>∃p∈D,p.2 b) w0 w->cl' f w O L->Q .normal {tmps:=(Y' J a0.tmps.toList 0 f).toArray,defers:=a0.defers} w):
  (Code.region id ops true).wp P Q a0 w0:=by
 refine wp_region_any V (tH' (w0:=w0) (fun i=>L.getD i (fun _ _=>True)) (ev' D) Y ?_ ?_ ?_ ops.size _ a0 _ ⟨by simp,C' ((Below.refl _ _).drew),?_,?_,fun _ _=>rfl,rfl,rfl⟩ ?_)
 ·intro i j v w w' au hd H hF;by_cases hi:∃p∈D,p.1=i
  ·obtain⟨p,F,rfl⟩:=hi;have hs:=ew' (dO' ac p F) j (by omega) (by rw[Nat.zero_add];exact hd);exact hs v w w' H (hF.mono (fun b _ h=>by obtain⟨q,M,e,r⟩:=h;rw[iZ' X F M e.symm];exact r))
  ·exact bo' ab j v w w' H (hF.below (Nat.le_refl _) (fun k _ h=>by obtain⟨q,M,e,_⟩:=h;exact hi ⟨q,M,e⟩))
 ·intro i o G a w r ai;have aj:i < ops.size:=(Array.getElem?_eq_some_iff.1 G).1;have ak:I[i]? =some ((o.looksAt ops).map fun t=>(t,match wr ops t with
     |some j=>if av' ops i j=true then some j else none
     |none=>none)):=by
   rw[<-Z];unfold bZ';rw[List.getElem?_map,List.getElem?_range aj,Option.map_some,G];try rfl
  have:=jK' ad i o _ (by simpa using G) ak a w (by rw[Nat.zero_add];exact r.mono (fun b _ h=>by obtain⟨k,h1,h2,p,F,rfl,h3⟩:=h;exact⟨p,F,h1,h2,h3⟩)) (bk' rfl (o:=o) _ ai);rw[Nat.zero_add]at this;exact this
 ·intro a w r H ao hd hs;have h:=ah (fun t=>a.tmps.getD t undef) w (r.mono (fun b _ h=>by obtain⟨k,p,F,_,h3⟩:=h;exact⟨p,F,h3⟩)) (by rw[<-aa];exact eX' (fun i o G=>H i o (by simpa using G)));have e:Y' J a0.tmps.toList 0 (fun t=>a.tmps.getD t undef)=a.tmps.toList:=by
   refine ck' _ _ _ _ _ (by rw[<-U];simp[bl']) (by simpa using hs) ?_ ?_
   ·intro j hj _;simp[Array.getD_eq_getD_getElem?,List.getD_eq_getElem?_getD]
   ·intro j hj r;rw[<-U]at r;have ap:j < a0.tmps.size:=by rw[<-hs];simpa using hj
    have aq:wr ops j=none:=by unfold bl' at r;simp[List.getD_eq_getElem?_getD,List.getElem?_map,List.getElem?_range ap]at r;exact r
    have:=ao j aq;simpa[Array.getD_eq_getD_getElem?,List.getD_eq_getElem?_getD]using this
  rw[e,<-hd]at h;exact h
 ·intro k z;simp[Array.getD_eq_getD_getElem?]at z;rcases h:(Array.replicate ops.size false)[k]? with _|b <;> simp[h]at z;subst z;have:=Array.getElem?_eq_some_iff.1 h;obtain⟨h1,h2⟩:=this;simp at h2
 ·intro i o G z;exfalso;simp[Array.getD_eq_getD_getElem?]at z;rcases h:(Array.replicate ops.size false)[i]? with _|b <;> simp[h]at z;subst z;have:=Array.getElem?_eq_some_iff.1 h;obtain⟨h1,h2⟩:=this;simp at h2
 ·exact Nat.le_trans List.countP_le_length (by simp)
end
theorem ca' (w:World) (A B:Obj):((w.alloc A).alloc B).heap[w.heap.size]? =some A/\((w.alloc A).alloc B).heap[w.heap.size+1]? =some B/\Below w.heap.size w ((w.alloc A).alloc B):=by
 have h1:=heap_alloc_new (w.alloc A) B;have r:(w.alloc A).heap.size=w.heap.size+1:=by simp
 rw[r]at h1;refine⟨?_,h1,((Below.refl _ _).alloc (Nat.le_refl _) _).alloc (by omega) _⟩;rw[hao _ _ (by omega)];exact heap_alloc_new w A
theorem hX' (o c a b d:Nat) (w:World) (ap:o < 4294967296) (aq:c < 18446744073709551616) (ay:a < 4294967296) (az:b < 4294967296) (hd:d < 4294967296):
  Calls Tryz.prog 164 #[.agg #[.int .u32 o, .int .u64 c, .int .i64 a, .int .i64 b, .int .i64 d]] w fun M w'=>M= .returned (.agg (bv (Mod.sealB o c (Mod.headIn a b d))).toArray)/\Below w.heap.size w w':=by
 have aA:∀y:World,(Instr.index 100 (.agg #[.int .i64 a, .int .i64 b, .int .i64 d]) (.int .i64 0)).run Tryz.prog y= .ok (.int .i64 a) y:=fun y=>by kernel_rfl
 have aB:∀y:World,(Instr.index 100 (.agg #[.int .i64 a, .int .i64 b, .int .i64 d]) (.int .i64 1)).run Tryz.prog y= .ok (.int .i64 b) y:=fun y=>by kernel_rfl
 have aC:∀y:World,(Instr.index 100 (.agg #[.int .i64 a, .int .i64 b, .int .i64 d]) (.int .i64 2)).run Tryz.prog y= .ok (.int .i64 d) y:=fun y=>by kernel_rfl
 have hl:∀n:Int,(Wire.le4 n).length=4:=fun n=>Wire.length_le4 n;go_enter Tryz.func164,Tryz.ntmps164;go_upto_region 2 with fail;refine H' (fun x=>x.heap[w.heap.size]? =some (.cells #[.int .u32 o, .int .u64 c, .int .i64 a, .int .i64 b, .int .i64 d] 199 (0,0))/\x.heap[w.heap.size+1]? =some (.cells (bv aS').toArray 214 (0,0))/\Below w.heap.size w x) ?_ ?_
 ·exact⟨(ca' _ _ _).1,fx' (ca' _ _ _).2.1 (by kernel_rfl),(ca' _ _ _).2.2⟩
 rintro x ⟨h0,h1,ac⟩;have c2:x.cell? ⟨w.heap.size,2,none⟩=some (.int .i64 a):=t' (i:=2) h0;have c3:x.cell? ⟨w.heap.size,3,none⟩=some (.int .i64 b):=t' (i:=3) h0;have c4:x.cell? ⟨w.heap.size,4,none⟩=some (.int .i64 d):=t' (i:=4) h0;have aD:=lt_of_block h1;have D:=y' h0;have H:=y' h1;have ad:=y' ac;clear h0 h1 ac;go_wp2;go_loopw[3,5,8] (fun v _ i wr=>∃j:Nat,j<=3/\i= .int .i64 j/\ax' (w.heap.size+2) wr v ((Mod.headIn a b d).take (4 * j))/\wr.heap[w.heap.size]? =some (.cells #[.int .u32 o, .int .u64 c, .int .i64 a, .int .i64 b, .int .i64 d] 199 (0,0))/\wr.heap[w.heap.size+1]? =some (.cells (bv aS').toArray 214 (0,0))/\Below w.heap.size w wr) (fun _ _ i _=>3 - (intOf i).toNat)
 case atStart=>exact⟨0,by omega,rfl,hJ' _ _,i' D,i' H,i' ad⟩
 case round=>
  obtain⟨j,hj,rfl,ah,ai,Y,aj⟩:=hrel;clear D H ad c2 c3 c4;have aE:=lt_of_block Y;have F:=y' ah;have D:=y' ai;have H:=y' Y;have I:=y' aj;clear ah ai Y aj;rcases(show j=0\/j=1\/j=2\/j=3 by omega)with rfl|rfl|rfl|rfl
  ·have O:=y' (show(Mod.headIn a b d).take (4 * (0+1))=(Mod.headIn a b d).take (4 * 0)++Wire.le4 a by simp[Mod.headIn,Wire.le4]);go_upto_region 6 with (go_at_call 103;refine(aF' (w.heap.size+2) (a:Int) u3 _ wr (by simp only[List.length_take,Mod.length_headIn];omega) (by omega) (by omega) (i' F)).mono ?_;rintro M J ⟨ak,rfl,G,r⟩;have z:Below (w.heap.size+2) wr J:=ac' r (by omega) (fun g r=>((i' F).lt g r).1);have Q:=y' G;have U:=y' ((i' I).trans (z.mono (by omega)));have V:=y' ((z.block _ (by omega)).trans (i' D));have X:=y' ((z.block _ (by omega)).trans (i' H));clear G r z);go_wp2;exact⟨⟨0+1,by omega,by go_num,by rw[i' O];exact i' Q,i' V,i' X,i' U⟩,by simp[intOf]⟩
  ·have O:=y' (show(Mod.headIn a b d).take (4 * (1+1))=(Mod.headIn a b d).take (4 * 1)++Wire.le4 b by simp[Mod.headIn,Wire.le4]);go_upto_region 6 with (go_at_call 103;refine(aF' (w.heap.size+2) (b:Int) u3 _ wr (by simp only[List.length_take,Mod.length_headIn];omega) (by omega) (by omega) (i' F)).mono ?_;rintro M J ⟨ak,rfl,G,r⟩;have z:Below (w.heap.size+2) wr J:=ac' r (by omega) (fun g r=>((i' F).lt g r).1);have Q:=y' G;have U:=y' ((i' I).trans (z.mono (by omega)));have V:=y' ((z.block _ (by omega)).trans (i' D));have X:=y' ((z.block _ (by omega)).trans (i' H));clear G r z);go_wp2;exact⟨⟨1+1,by omega,by go_num,by rw[i' O];exact i' Q,i' V,i' X,i' U⟩,by simp[intOf]⟩
  ·have O:=y' (show(Mod.headIn a b d).take (4 * (2+1))=(Mod.headIn a b d).take (4 * 2)++Wire.le4 d by simp[Mod.headIn,Wire.le4]);go_upto_region 6 with (go_at_call 103;refine(aF' (w.heap.size+2) (d:Int) u3 _ wr (by simp only[List.length_take,Mod.length_headIn];omega) (by omega) (by omega) (i' F)).mono ?_;rintro M J ⟨ak,rfl,G,r⟩;have z:Below (w.heap.size+2) wr J:=ac' r (by omega) (fun g r=>((i' F).lt g r).1);have Q:=y' G;have U:=y' ((i' I).trans (z.mono (by omega)));have V:=y' ((z.block _ (by omega)).trans (i' D));have X:=y' ((z.block _ (by omega)).trans (i' H));clear G r z);go_wp2;exact⟨⟨2+1,by omega,by go_num,by rw[i' O];exact i' Q,i' V,i' X,i' U⟩,by simp[intOf]⟩
  ·rw[List.take_of_length_le (by rw[Mod.length_headIn];omega)]at F;have c0:wr.cell? ⟨w.heap.size,0,none⟩=some (.int .u32 o):=t' (i:=0) (i' D);have c1:wr.cell? ⟨w.heap.size,1,none⟩=some (.int .u64 c):=t' (i:=1) (i' D);have ao:=y' (pn' o c (Mod.headIn a b d) u3 wr ap aq (by rw[Mod.length_headIn];omega) (i' F).at);have Z:(Mod.sealB o c (Mod.headIn a b d)).length=64:=Mod.length_sealB o c (by rw[Mod.length_headIn];omega);obtain⟨S,aa⟩:∃S,S=Mod.sealB o c (Mod.headIn a b d):=⟨_,rfl⟩;rw[<-aa]at ao Z;have au:=y' aa;clear aa;go_wp2_with (first
    |(go_at_call 171;refine(i' ao).mono ?_;rintro M J ⟨rfl,ab⟩)
    |(refine cW' rfl (.tmp 2) (.tmp 19) rfl (w.heap.size+1) rfl S Z rfl 214 _ (by simp[ap',az']) ((ab.block _ (by omega)).trans (i' H)) ?_;intro z4 av ax;go_simp))
   exact bodyPost_ret (ej' Tryz.results164 _ _ (w.heap.size+1) _ _ Z rfl av) rfl ⟨by rw[i' au],((i' I).trans (ab.mono (i' I).size)).trans (ax.below (by have:=(i' I).size;have:=ab.size;omega) (fun k aF e=>by omega))⟩
theorem nX' {o:Oper} {a:Act} {K:Act->World->Prop} {D:Exit->Act->World->Prop} {w:World} (s x:Operand)
  (F:o.op= .call {callee:= .builtin .append,args:= #[s,x],argTypes:= #[48,9]}) (B:Nat) (v:Value) (l:List UInt8) (G:ax' B w v l) (hs:a.eval s=v)
  (r:ByteArray) (H:a.eval x= .string r) (I:l.length+r.size<=140737488355328) (J:B<=w.heap.size)
  (h:∀z w',ax' B w' z (l++r.data.toList)->w.grownBy w' v.ownBlock->K (a.put o.dst z) w'):o.wp Tryz.prog a w K D:=by
 obtain⟨i0,hi,M,O,Q⟩:=info_parts kE';obtain⟨z,w',U,h1,h2,_⟩:=Lib.run_append_own_string (P:=Tryz.prog) w B 48 9 o.type 5 i0 Tryz.underlying48 Tryz.underlying9 hi M O Q v l.length (bv l) G r
  (by unfold maxLen;omega) I J
 unfold Oper.wp execOp;simp only[F,resolve,invoke,builtin,Sem.run_bind,Sem.run_pure,Result.andThen_ok,List.map_toArray,List.map_cons,List.map_nil,hs,H,U];refine h z w' ?_ h2;unfold ax';rw[gi',List.length_append,<-uz'];have:r.data.toList.length=r.size:=by simp
 rw[this];exact h1
theorem ay' {w w':World} {B size:Nat} {e:TypeId} {v:Value} {n:Nat} {xs:List Value} (h:w.ownsRow B e size v n xs) (r:∀g,v.ownBlock=some g->w'.heap[g]? =w.heap[g]?):w'.ownsRow B e size v n xs:=by
 obtain⟨h1,h2⟩:=h;refine⟨h1,?_⟩;rcases h2 with h2|⟨g,cap,z,rfl,D,F,G⟩
 ·exact .inl h2
 ·exact .inr ⟨g,cap,z,rfl,D,by rw[r g rfl];exact F,G⟩
theorem mr' {B:Nat} {l:List UInt8} {E:Nat->Prop} (z:∀k,E k->k < B):ba' E (pm' B l):=fun _ _ _ h hF=>
 ⟨ay' h.1 (fun g r=>hF.rest g (h.2 g r) (fun e=>by have:=(h.1.lt g r).1;have:=z g e;omega)),fun g r=>Nat.lt_of_lt_of_le (h.2 g r) hF.size⟩
theorem bh' (k:Nat) (o:Obj):bL' (fun _ w=>w.heap[k]? =some o):=fun _ _ _ h r=>(r.block k (lt_of_block h)).trans h
theorem po' {k:Nat} {o:Obj} {E:Nat->Prop} (r:¬E k):ba' E (fun _ w=>w.heap[k]? =some o):=fun _ _ _ h hF=>hF.blk h r
theorem uL' {B:Nat} (x:World) (r:B<=x.heap.size) (a b:Nat) (z:a < 256) (D:b < 256):ax' B (x.alloc (.cells #[.int .u8 a, .int .u8 b] 5)) (.slice (some ⟨x.heap.size,0,none⟩) 2 2) [UInt8.ofNat (a % 256),UInt8.ofNat (b % 256)]:=by
 refine⟨by simp[bv], .inr ⟨x.heap.size,2,_,rfl,r,heap_alloc_new x _,by simp,by unfold maxLen;omega,by simp,?_⟩⟩;have h1:a % 256=a:=by omega
 have h2:b % 256=b:=by omega
 simp[bv,h1,h2]
theorem fy' (o c st q:Nat) (b:ByteArray) (w:World) (au:o < 4294967296) (av:c < 18446744073709551616) (hs:st < 256) (aH:q < 4294967296) (G:b.size<=20):
  Calls Tryz.prog 124 #[.agg #[.int .u32 o, .int .u64 c], .agg #[.int .i64 st, .int .i64 q, .string b]] w fun U w'=>U= .returned (.agg (bv (Mod.sealB o c (Mod.recIn st q b.data.toList))).toArray)/\Below w.heap.size w w':=by
 have aI:IntKind.u8.wrap (st:Int)=(st:Int):=by rw[IntKind.wrap_u8];omega
 have aJ:IntKind.u8.wrap (b.size:Int)=(b.size:Int):=by rw[IntKind.wrap_u8];omega
 have aK:IntKind.u32.wrap (q:Int)=(q:Int):=by rw[IntKind.wrap_u32];omega
 go_enter Tryz.func124,Tryz.ntmps124;go_upto_region 1 with fail;refine H' (fun x=>x.heap[w.heap.size]? =some (.cells #[.int .u32 o, .int .u64 c] 188 (0,0))/\x.heap[w.heap.size+1]? =some (.cells #[.int .i64 st, .int .i64 q, .string b] 150 (0,0))/\x.heap[w.heap.size+2]? =some (.cells (bv aS').toArray 214 (0,0))/\Below w.heap.size w x) ?_ ?_
 ·exact⟨(fw' _ _ _ _).1,(fw' _ _ _ _).2.1,fx' (fw' _ _ _ _).2.2.1 (by kernel_rfl),(fw' _ _ _ _).2.2.2⟩
 rintro x ⟨h0,h1,h2,ah⟩;have aL:=lt_of_block h2;have c0:x.cell? ⟨w.heap.size+1,0,none⟩=some (.int .i64 st):=t' (i:=0) h1;have c1:x.cell? ⟨w.heap.size+1,1,none⟩=some (.int .i64 q):=t' (i:=1) h1;have c2:x.cell? ⟨w.heap.size+1,2,none⟩=some (.string b):=t' (i:=2) h1;have ax:∀ai,(x.alloc ai).cell? ⟨w.heap.size+1,1,none⟩=some (.int .i64 q):=fun ai=>by exact(World.cell?_alloc_lt x _ ⟨w.heap.size+1,1,none⟩ (by show w.heap.size+1 < _;omega)).trans c1
 have I:=y' h0;have ay:=y' h1;have V:=y' h2;have X:=y' ah;clear h0 h1 h2 ah;have az:=fun(v:Value) (l:List UInt8) (n:Int) (y:World) (h1:l.length<=1000) (h2:w.heap.size+3<=y.heap.size) (h3:0<=n) (h4:ax' (w.heap.size+3) y v l)=>y' (aF' (w.heap.size+3) n v l y h1 h2 h3 h4);have Y:=y' (uL' x (B:=w.heap.size+3) (by omega) st b.size hs (by omega));go_upto_region 2 with (go_at_call 103;refine(i' (az _ _ (q:Int) _ (by simp) (by simp;omega) (by omega) (i' Y))).mono ?_;rintro U y ⟨v5,rfl,aj,r⟩);have H:Below (w.heap.size+3) x y:=((Below.refl _ _).alloc (by omega) _).trans (ac' r (by simp;omega) (fun g r=>((i' Y).lt g r).1));have I:=y' ((H.block _ (by omega)).trans (i' I));have ak:=(H.block (w.heap.size+1) (by omega)).trans (i' ay);have V:=y' ((H.block (w.heap.size+2) (by omega)).trans (i' V));have X:=y' ((i' X).trans (H.mono (by omega)));have aM:=H.size;have Z:=y' aj;have c0:y.cell? ⟨w.heap.size,0,none⟩=some (.int .u32 o):=t' (i:=0) (i' I);have aN:y.cell? ⟨w.heap.size,1,none⟩=some (.int .u64 c):=t' (i:=1) (i' I);have c2:y.cell? ⟨w.heap.size+1,2,none⟩=some (.string b):=t' (i:=2) ak;clear aj r Y ax c1 ak H;have aa:(Mod.recIn st q b.data.toList).length<=40:=by rw[Mod.length_recIn];simp;omega
 have J:(Mod.sealB o c (Mod.recIn st q b.data.toList)).length=64:=Mod.length_sealB o c aa;obtain⟨R,M⟩:∃R,R=Mod.recIn st q b.data.toList:=⟨_,rfl⟩;rw[<-M]at aa J;have ab: [UInt8.ofNat (st % 256),UInt8.ofNat (b.size % 256)]++Wire.le4 q++b.data.toList=R:=by rw[M];simp[Mod.recIn]
 have ao:=fun v y aA=>y' (pn' o c R v y au av aa aA);obtain⟨S,ac⟩:∃S,S=Mod.sealB o c R:=⟨_,rfl⟩;rw[<-ac]at ao J;have aB:=y' (show S=Mod.sealB o c (Mod.recIn st q b.data.toList) by rw[ac,M]);have ab:=y' ab;clear ac M;have O:=y' (fun g r=>((i' Z).lt g r).1);have ad:∀k,k < w.heap.size+2->∀p∈ ([(4,fun k=>v5.ownBlock=some k),(6,fun k=>k=w.heap.size+2)]:List (Nat× (Nat->Prop))),¬p.2 k:=by
  intro k ap p z;simp at z;rcases z with rfl|rfl
  ·intro e;have:=(i' O) k e;omega
  ·intro e;have e:k=w.heap.size+2:=e;omega
 refine Z' (by kernel_rfl)
  [fun v _=>v= .agg #[.int .u32 o, .int .u64 c],fun v _=>v=v5,fun v _=>v= .pointer (some ⟨w.heap.size+1,2,none⟩),fun v _=>v= .string b,pm' (w.heap.size+3) R,fun v _=>v= .agg (bv S).toArray,fun _ D=>D.heap[w.heap.size+2]? =some (.cells (bv S).toArray 214 (0,0))]
  [[(2,none)],[(5,none)],[(3,none)],[(20,some 2)],[(19,some 1),(21,some 3)],[(18,some 0),(22,some 4)],[(4,none),(23,some 5)]] [some 18,some 19,some 20,some 21,some 22,some 23,none] [false,false,false,false,false,false,false,false,false,false,false,false,false,false,false,false,false,false,true,true,true,true,true,true]
  [(4,fun k=>v5.ownBlock=some k),(6,fun k=>k=w.heap.size+2)]
  (by kernel_rfl) (by kernel_rfl) (by kernel_rfl) (by kernel_rfl) (by kernel_rfl) ?_ ?_ ?_ ?_
 ·repeat' (first|exact O' _|exact eV' _ _|exact bh' _ _|exact trivial|apply And.intro)
 ·repeat' (first|exact trivial|exact .inl rfl|exact .inr (.inr (an' _ _))|exact .inr (.inr (mr' (fun k ap=>by omega)))|exact .inr (.inr (po' (fun e=>by have:=(i' O) _ e;omega)))|apply And.intro)
 ·refine⟨?_,?_,?_,?_,?_,?_,?_,trivial⟩;all_goals
   intro a D G F;have z0:=G.blk (i' I) (ae' (ad _ (by omega)));have aO:D.cell? ⟨w.heap.size,0,none⟩=some (.int .u32 o):=t' (i:=0) z0;have aP:D.cell? ⟨w.heap.size,1,none⟩=some (.int .u64 c):=t' (i:=1) z0;have aQ:D.cell? ⟨w.heap.size+1,2,none⟩=some (.string b):=by have:=G.rest (w.heap.size+1) (by omega) (ae' (ad _ (by omega)));unfold World.cell? at c2 ⊢;simp only at c2 ⊢;rw[this];exact c2
   have aR:=G.size;have Q:=y' G;clear G z0;simp only[M',List.getD_cons_zero,List.getD_cons_succ,Array.getD_eq_getD_getElem?]at F;try simp at F
  ·go_simp;exact⟨_,rfl,Far.refl _ _,rfl⟩
  ·go_simp;exact⟨_,rfl,Far.refl _ _,rfl⟩
  ·go_simp;exact⟨_,rfl,Far.refl _ _,rfl⟩
  ·go_simp;exact⟨_,rfl,Far.refl _ _,rfl⟩
  ·have aC:ax' (w.heap.size+3) D v5 _:=ay' (i' Z) (fun g r=>(i' Q).rest g ((i' Z).lt g r).2 (by
    rintro⟨p,z,h1,_,h3⟩;simp at z;rcases z with rfl|rfl
    ·exact h1 rfl
    ·have:=(i' O) g r;have h3:g=w.heap.size+2:=h3;omega))
   rw[if_pos (by rfl)];refine nX' (.tmp 19) (.tmp 21) rfl (w.heap.size+3) v5 _ aC (by simp[Act.eval,F]) b (by simp[Act.eval,F]) (by simp[Wire.length_le4];omega) (by omega) ?_;intro aD w' h1 h2;rw[show _=R from i' ab]at h1;exact⟨aD,rfl,aj' (.head _) (br' h2),h1,fun g r=>(h1.lt g r).2⟩
  ·go_simp;refine(i' (ao _ D F.2.1.at)).mono ?_;rintro U aS ⟨rfl,aE⟩;exact⟨_,rfl,C' aE,rfl⟩
  ·have aF:=(i' Q).blk (i' V) (by
    rintro⟨p,z,h1,_,h3⟩;simp at z;rcases z with rfl|rfl
    ·have:=(i' O) _ h3;omega
    ·exact h1 rfl)
   rw[if_pos (by rfl)];refine kL' (.tmp 4) (.tmp 23) rfl (w.heap.size+2) (by simp[Act.eval,F]) S J (by simp[Act.eval,F]) 214 _ (by simp[ap',az']) aF ?_;intro w' h1 h2;exact⟨_,rfl,aj' (.tail _ (.head _)) h2,h1⟩
 ·intro f D hF aq;have aG:=aq.2.2.2.2.2.2.1;have Q:=y' ((i' X).trans (hF.below (by omega) (fun k ap h=>by obtain⟨p,z,h3⟩:=h;exact ad k (by omega) p z h3)));clear aq hF;simp only[Y'];generalize f 18=aT;generalize f 19=aU;generalize f 20=aV;generalize f 21=aW;generalize f 22=aX;generalize f 23=aY;go_simp;go_wp2;exact bodyPost_ret (ej' Tryz.results124 _ _ (w.heap.size+2) _ _ J rfl aG) rfl ⟨by rw[i' aB],i' Q⟩
theorem ms' {o:Oper} {a:Act} {w:World} {K:Act->World->Prop} {H:Exit->Act->World->Prop} (d s:Operand)
  (I:o.op= .call {callee:= .builtin .copy,args:= #[d,s],argTypes:= #[48,48]}) (g off n cap m:Nat) (r:Array Value) (z:List Value) (t:TypeId) (b D F:Nat)
  (G:w.heap[g]? =some (.cells r t (0,0))) (hd:a.eval d= .slice (some ⟨g,off,none⟩) n cap) (hs:a.eval s= .slice (some ⟨b,D,none⟩) m F) (J:z.length=m) (M:∀j v,z[j]? =some v->w.cell? ⟨b,D+j,none⟩=some v) (hl:m<=n) (O:off+m<=r.size) (h1:∀v∈z,v.oneCell'=true)
  (h:∀w',w'.heap[g]? =some (.cells (r.toList.take off++(z++r.toList.drop (off+m))).toArray t (0,0))->Far (fun k=>k=g) w w'->K (a.put o.dst (.int .i64 m)) w'):o.wp Tryz.prog a w K H:=by
 subst J;have Q:=run_copy_row (P:=Tryz.prog) w 48 48 o.type 5 g off n cap ⟨b,D,none⟩ z.length F r t z Tryz.underlying48 sS' G (Nat.min_eq_left hl).symm (by intro j u hj;rw[cO'];exact M j u hj) O h1;unfold Oper.wp;simp[execOp,I,resolve,invoke,builtin,hd,hs,Q,Result.andThen];exact h _ (setRow_heap w g r _ t (0,0) G) ⟨rfl,rfl,rfl,by simp,fun k _ U=>setRow_other w g k _ U⟩
theorem tI' (w:World) (k:Nat) (S L:List UInt8) (lv:Value) (D:S.length=64) (U:64 * k+64<=L.length) (ac:L.length<=10000) (ad:w.ownsRow 0 5 1 lv L.length (bv L)):
  Calls Tryz.prog 176 #[.agg (.int .i64 k::bv S).toArray,lv] w fun ah w'=>ah= .returned (.tuple #[])/\w'.ownsRow 0 5 1 lv (Mod.setSec L k S).length (bv (Mod.setSec L k S))/\Far (fun j=>lv.ownBlock=some j) w w':=by
 have H:=Mod.length_setSec (l:=L) (k:=k) D U;obtain⟨h1,h2⟩:=ad;rcases h2 with ⟨_,h2⟩|⟨g,cap,z,rfl,aB,I,ai,aj,hs,J⟩
 ·omega
 have ak:=lt_of_block I;obtain⟨n,M⟩:∃n,n=L.length:=⟨_,rfl⟩;rw[<-M]at U ac h1 ai J H ⊢;have i0:(0:Int)<=(k:Int) * 64:=by omega
 have aC:(k:Int) * 64<=(n:Int):=by omega
 have aD:((k:Int) * 64).toNat=k * 64:=by omega
 have i2:(n:Int)<=(cap:Int):=by omega
 have aE:IntKind.i64.wrap ((k:Int) * 64)=(k:Int) * 64:=by rw[IntKind.wrap_i64];omega
 have aF:¬cap=k * 64:=by omega
 have aG:¬ (cap:Int)=(k:Int) * 64:=by omega
 have aH:=y' M;have O:=y' H;have ao:=y' J;have ap:=y' I;clear M H J I;go_enter Tryz.func176,Tryz.ntmps176;go_upto_region 1 with fail;refine H' (fun x=>x.heap[w.heap.size]? =some (.cells (.int .i64 k::bv S).toArray 254 (0,0))/\Below w.heap.size w x) ⟨heap_alloc_new w _,(Below.refl _ _).alloc (Nat.le_refl _) _⟩ ?_;rintro x ⟨h0,V⟩;have c0:x.cell? ⟨w.heap.size,0,none⟩=some (.int .i64 k):=by rw[t' h0];simp
 have Q:=lt_of_block h0;have aq:=y' h0;have F:=y' V;clear h0 V;refine ag' (by kernel_rfl)
  [fun v _=>v= .slice (some ⟨g,0,none⟩) n cap,fun v _=>v= .pointer (some ⟨w.heap.size,0,none⟩),fun v _=>v= .int .i64 k,fun v _=>v= .int .i64 ((k:Int) * 64),fun v _=>v= .slice (some ⟨g,k * 64,none⟩) (n - k * 64) (cap - k * 64),fun v _=>v= .pointer (some ⟨w.heap.size,1,none⟩),fun v _=>v= .slice (some ⟨w.heap.size,1,none⟩) 64 64,fun _ _=>True]
  [[(1,none)],[(2,none)],[(5,some 1)],[(6,some 2)],[(4,some 0),(7,some 3)],[(2,none)],[(9,some 5)],[(8,some 4),(10,some 6)]] [some 4,some 5,some 6,some 7,some 8,some 9,some 10,some 11] [false,false,false,false,true,true,true,true,true,true,true,true]
  7 _ rfl rfl (by kernel_rfl) (by kernel_rfl) (by kernel_rfl) (by kernel_rfl) (by kernel_rfl) (by kernel_rfl) ?_ ?_ ?_
 ·repeat' (first|exact O' _|exact X'|exact trivial|apply And.intro)
 ·refine⟨?_,?_,?_,?_,?_,?_,?_,trivial⟩;all_goals
   intro a y r X;have aI:=(r.cell (p:=⟨w.heap.size,0,none⟩) (by show w.heap.size < _;omega)).trans c0;have au:=r.size;clear r;simp only[M',List.getD_cons_zero,List.getD_cons_succ,Array.getD_eq_getD_getElem?]at X;try simp at X
   try go_simp
   try exact Below.refl _ _
 ·intro f y r G;simp only[af',List.take]at G;have Y:=G.2.2.2.2.1;have Z:=G.2.2.2.2.2.2.1;simp only[Y',Y,Z];have g0:=(r.block _ (by show w.heap.size < _;omega)).trans (i' aq);have aa:=(r.block g (by have:=(i' F).size;omega)).trans (((i' F).block g ak).trans (i' ap));have av:=y' ((i' F).trans (r.mono (by have:=(i' F).size;omega)));have au:=r.size;refine ms' (.tmp 8) (.tmp 10) rfl g (k * 64) (n - k * 64) (cap - k * 64) 64 z (bv S) 5 w.heap.size 1 64 aa rfl rfl (by rw[ap',D]) ?_ (by omega) (by omega) (cA' S) ?_
  ·intro j v hj;rw[t' g0,List.getElem?_toArray,Nat.add_comm 1 j,List.getElem?_cons_succ];exact hj
  ·intro aJ Q hF;have ax:((z.toList.take (k * 64)++(bv S++z.toList.drop (k * 64+64))).toArray).toList.take (n * 1)=bv (Mod.setSec L k S):=by
    have ab:(z.toList.take (k * 64)).length=k * 64:=by rw[List.length_take,Array.length_toList];omega
    have ay:bv (Mod.setSec L k S)=(bv L).take (64 * k)++(bv S++(bv L).drop (64 * k+64)):=by simp[Mod.setSec,bv,List.map_take,List.map_drop]
    rw[List.toList_toArray,ay,<-i' ao,Nat.mul_one,List.take_take,List.drop_take,List.take_append,List.take_append,ab,ap',D,List.take_of_length_le (l:=z.toList.take (k * 64)) (by rw[ab];omega),List.take_of_length_le (l:=bv S) (by rw[ap',D];omega)];rw[show min (64 * k) n=k * 64 by omega,show 64 * k+64=k * 64+64 by omega,show n - k * 64 - 64=n - (k * 64+64) by omega]
   have az:=y' Q;have aA:=y' hF;clear r G Y Z g0 aa Q hF c0;go_simp;go_wp2;refine bodyPost_end (results_none rfl _ _ _) rfl ?_;refine⟨rfl,⟨by rw[ap'];omega, .inr ⟨g,cap,_,by rw[i' O],Nat.zero_le _,i' az,by rw[i' O];omega,aj,by simp[ap'];omega,by rw[i' O];exact ax⟩⟩,?_⟩;exact(C' (E:=fun j=>(Value.slice (some ⟨g,0,none⟩) n cap).ownBlock=some j) (i' av)).trans (i' aA) (fun j _ e=>by rw[e];rfl)
structure eg' (w:World) (p:Nat) (d:Mod.Dk) (lv uv:Value):Prop where
 blk:w.heap[p]? =some (.cells #[lv,uv, .int .i64 d.armed, .bool d.dead] 233 (0,0))
 row:w.ownsRow 0 5 1 lv d.bytes.length (bv d.bytes)
 un:as' w 254 65 uv 0 []
 len:128<=d.bytes.length/\d.bytes.length<=10000
 arm:d.armed<=9223372036854775807
def DkU (p:Nat) (lv r:Value) (k:Nat):Prop:=k=p\/lv.ownBlock=some k\/r.ownBlock=some k
theorem eg'.far {E:Nat->Prop} {w x:World} {p:Nat} {d:Mod.Dk} {lv z:Value} (h:eg' w p d lv z) (D:Far E w x) (F:∀k,DkU p lv z k->¬E k):eg' x p d lv z:=
 ⟨D.blk h.blk (F p (.inl rfl)),ay' h.row (fun g r=>D.rest g (World.ownsRow.lt h.row g r).2 (F g (.inr (.inl r)))),h.un.far D (fun g r=>F g (.inr (.inr r))),h.len,h.arm⟩
theorem eg'.lt {w:World} {p:Nat} {d:Mod.Dk} {lv z:Value} (h:eg' w p d lv z):∀k,DkU p lv z k->k < w.heap.size:=by
 rintro k (rfl|r|r)
 ·exact lt_of_block h.blk
 ·exact(World.ownsRow.lt h.row k r).2
 ·exact h.un.lt k r
theorem kO' (w:World) (p:Nat) (lv D:Value) (n:Int) (k:Nat) (S:List UInt8) (r:w.heap[p]? =some (.cells #[lv,D, .int .i64 n, .bool true] 233 (0,0))):
  Calls Tryz.prog 169 #[.pointer (some ⟨p,0,none⟩), .int .i64 k, .agg (bv S).toArray] w fun F w'=>F= .returned (.int .i64 3)/\Below w.heap.size w w':=by
 have G:=lt_of_block r;have c3:∀z,(w.alloc z).cell? ⟨p,3,none⟩=some (.bool true):=fun z=>(World.cell?_alloc_lt w _ ⟨p,3,none⟩ G).trans (t' (i:=3) r);clear r;go_enter Tryz.func169,Tryz.ntmps169;go_wp2;go_ret;exact⟨rfl,(Below.refl _ _).alloc (Nat.le_refl _) _⟩
theorem kP' (w:World) (p:Nat) (lv F:Value) (k:Nat) (S:List UInt8) (z:w.heap[p]? =some (.cells #[lv,F, .int .i64 1, .bool false] 233 (0,0))):
  Calls Tryz.prog 169 #[.pointer (some ⟨p,0,none⟩), .int .i64 k, .agg (bv S).toArray] w fun H w'=>H= .returned (.int .i64 4)/\w'.heap[p]? =some (.cells #[lv,F, .int .i64 1, .bool true] 233 (0,0))/\Far (fun j=>j=p) w w':=by
 have G:=lt_of_block z;have D:∀r,(w.alloc r).heap[p]? =some (.cells #[lv,F, .int .i64 1, .bool false] 233 (0,0)):=fun r=>(hao _ _ G).trans z;have c3:∀r,(w.alloc r).cell? ⟨p,3,none⟩=some (.bool false):=fun r=>t' (i:=3) (D r);have c2:∀r,(w.alloc r).cell? ⟨p,2,none⟩=some (.int .i64 1):=fun r=>t' (i:=2) (D r);have I:∀r,(w.alloc r).frozen? ⟨p,3,none⟩=false:=fun r=>I' (i:=3) (D r);clear D;replace z:=y' z;go_enter Tryz.func169,Tryz.ntmps169;go_wp2;go_ret;refine⟨rfl,?_,?_⟩
 ·rw[hao _ _ (by rw[World.size_setCell];exact G)];have:=ah' (j:=3) (v:= .bool true) (i' z);simpa using this
 ·exact(S' w p 3 _).trans (C' ((Below.refl _ _).alloc (Nat.le_refl _) _)) (fun _ _ h=>h)
end Go.Proofs.YtamafdcnbcoegabGreat
namespace Go.Proofs.YtamafdcnbcoegabGreat
namespace Mod
structure Flow where
 base:Nat
 kept:List (ByteArray×Nat)
 held:List Nat
structure Ag where
 epoch:Nat
 ticks:Nat
 welcome:Bool
 fenced:Bool
 fl:Nat->Flow
def upd (f:Nat->Flow) (s:Nat) (x:Flow):Nat->Flow:=fun t=>if t=s then x else f t
theorem qm' (f:Nat->Flow) (s:Nat) (x:Flow):upd f s x s=x:=by simp[upd]
def Ag.room (a:Ag):Nat:=(a.fl 0).kept.length+(a.fl 1).kept.length+(a.fl 2).kept.length
def Ag.refuses (a:Ag) (stream:Int) (size:Nat):Int:=
 if stream < 0\/3<=stream then 5 else if 20 < size then 6 else if 24<=a.room then 7 else 0
def Ag.submit (a:Ag) (s:Nat) (body:ByteArray):Ag:={a with fl:=upd a.fl s {a.fl s with kept:=(a.fl s).kept++[(body,0)]}}
def Ag.spool (a:Ag) (s:Nat):List ByteArray:=(a.fl s).kept.map (·.1)
def due (f:Flow) (ticks i sent:Nat):Bool:= !(f.held.contains (f.base+1+i)) && (sent==0||decide (sent+4<=ticks))
def sendTo (epoch s:Nat) (f:Flow) (ticks:Nat):Nat->List (ByteArray×Nat) ×List (List UInt8)
 |0=>(f.kept,[])
 |i+1=>
  let r:=sendTo epoch s f ticks i
  match f.kept[i]? with
  |none=>r
  |some x=>if due f ticks i x.2 then(r.1.set i (x.1,ticks),r.2++[Wire.bytes 3 epoch s (f.base+1+i:Nat) x.1.data.toList])else r
def Ag.gone (a:Ag) (s:Nat) (xm':Int):Nat:=min (xm' - (a.fl s).base).toNat (a.fl s).kept.length
def Flow.drop (f:Flow) (n:Nat):Flow:={f with base:=f.base+n,kept:=f.kept.drop n}
def dropTo (f:Nat->Flow) (n:Nat->Nat) (s:Nat):Nat->Flow:=fun t=>if t < s then(f t).drop (n t)else f t
theorem dropTo_zero (f:Nat->Flow) (n:Nat->Nat):dropTo f n 0=f:=by funext t;simp[dropTo]
theorem dropTo_self (f:Nat->Flow) (n:Nat->Nat) (s:Nat):dropTo f n s s=f s:=by simp[dropTo]
theorem dropTo_succ (f:Nat->Flow) (n:Nat->Nat) (s:Nat):dropTo f n (s+1)=upd (dropTo f n s) s ((f s).drop (n s)):=by
 funext t;unfold dropTo upd;by_cases h:t=s
 ·subst h;simp
 ·by_cases h2:t < s
  ·simp[h,h2,show t < s+1 by omega]
  ·simp[h,h2,show ¬t < s+1 by omega]
def Ag.drop (a:Ag) (n:Nat->Nat):Ag:={a with fl:=dropTo a.fl n 3}
def Ag.says (a:Ag) (r epoch stream z:Int) (body:ByteArray) (s:Nat):Nat:=
 if epoch≠a.epoch then 0 else if r=2 then a.gone s (Wire.numAt body.data.toList (4 * s))else if r=4/\stream=s/\a.welcome=true then a.gone s z else 0
def fresh (f:Nat->Flow) (s:Nat):Nat->Flow:=fun t=>if t < s then {f t with kept:=(f t).kept.map fun r=>(r.1,0),held:=[]}else f t
def bitsOf (r:Nat) (c:Nat):Nat->List Nat
 |0=>[]
 |i+1=>bitsOf r c i++(if c / 2 ^ i % 2=1 then [r+2+i]else [])
def Ag.ackSeq (a:Ag) (s:Nat) (q:Int):Nat:=min q.toNat ((a.fl s).base+(a.fl s).kept.length)
def Ag.deliver (a:Ag) (k e st q:Int) (b:ByteArray):Ag:=
 if k=5/\(a.epoch:Int) < e then {a with fenced:=true}
 else if e≠a.epoch then a
 else if k=5 then {a with welcome:=false}
 else if k=2 then {a.drop (a.says k e st q b)with welcome:=true,fl:=fresh (a.drop (a.says k e st q b)).fl 3}
 else if k=4 then
  if a.welcome=false\/a.ackSeq st.toNat q < (a.fl st.toNat).base then a
  else {a.drop (a.says k e st q b)with fl:=upd (a.drop (a.says k e st q b)).fl st.toNat {(a.drop (a.says k e st q b)).fl st.toNat with held:=bitsOf (a.ackSeq st.toNat q) (b.data.toList.getD 0 0).toNat 3}}
 else a
def sendFl (epoch ticks:Nat) (f:Nat->Flow) (s:Nat):Nat->Flow:=fun t=>if t < s then {f t with kept:=(sendTo epoch t (f t) ticks 4).1}else f t
def sendOut (epoch ticks:Nat) (f:Nat->Flow):Nat->List (List UInt8)
 |0=>[]
 |s+1=>sendOut epoch ticks f s++(sendTo epoch s (f s) ticks 4).2
def Ag.tick (a:Ag):Ag×List (List UInt8):=
 if a.fenced=true then({a with ticks:=a.ticks+1},[])
 else if a.welcome=false then({a with ticks:=a.ticks+1},[Wire.bytes 1 a.epoch 0 0 []])
 else({a with ticks:=a.ticks+1,fl:=sendFl a.epoch (a.ticks+1) a.fl 3},sendOut a.epoch (a.ticks+1) a.fl 3)
end Mod
end Go.Proofs.YtamafdcnbcoegabGreat
namespace Go.Proofs.YtamafdcnbcoegabGreat
open Go.RowKit
def J' (l:List Nat):List Value:=l.map fun n:Nat=> .int .i64 (n:Int)
structure wY' where
 dead:Bool
 g0:Int
 g1:Int
 g2:Int
 st:Int
 ex:Value
theorem bp' {P:Program} {e:TypeId} {r:Value} {size bytes:Nat} (h:(P.info? e).map (fun i=>(i.zero,i.size,i.bytes))=some (some r,size,bytes)):∃i,P.info? e=some i/\i.zero=some r/\i.size=size/\i.bytes=bytes:=by
 cases hi:P.info? e with
 |none=>rw[hi]at h;cases h
 |some i=>rw[hi]at h;injection h with h;injection h with h1 h2;injection h2 with h2 h3;exact⟨i,rfl,h1,h2,h3⟩
theorem hY' {G:Array Oper} {rest:List Oper} {o:Oper} {a:Act} {H:Exit->Act->World->Prop} {w:World} (I:o.guard=none) (s x:Operand) (t:TypeId) (J:o.op= .call {callee:= .builtin .append,args:= #[s,x],argTypes:= #[t,t]})
  (e:TypeId) (D:Value) (size bytes:Nat) (M:Tryz.prog.underlying t=some (.slice e)) (O:(Tryz.prog.info? e).map (fun i=>(i.zero,i.size,i.bytes))=some (some D,size,bytes)) (Q:D.cells.size=size)
  (v:Value) (n:Nat) (xs:List Value) (U:as' w e size v n xs) (hs:a.eval s=v) (F:Addr) (m c:Nat) (r:List Value) (V:a.eval x= .slice (some F) m c) (hl:r.length=m * size) (X:∀j u,r[j]? =some u->w.cell? (F.add j)=some u)
  (h1:∀u∈r,u.oneCell'=true) (Y:0 < m) (Z:(n+m) * bytes<=140737488355328) (aa:n+m<=140737488355328)
  (h:∀z w',as' w' e size z (n+m) (xs++r)->App w w' v z->wpList Tryz.prog G H rest (a.put o.dst z) w'):wpList Tryz.prog G H (o::rest) a w:=by
 obtain⟨i0,hi,ab,ac,ad⟩:=bp' O;obtain⟨z,w',ah,h2,h3⟩:=hT' (P:=Tryz.prog) w t o.type e i0 D size bytes M hi ab ac ad Q v n xs U F m c r hl X h1 Y Z aa;refine wpList_plain I fun _ hK=>?_;unfold Oper.wp execOp;simp only[J,resolve,invoke,builtin,Sem.run_bind,Sem.run_pure,Result.andThen_ok,List.map_toArray,List.map_cons,List.map_nil,hs,V,ah];exact hK _ _ (h z w' h2 h3)
def aV' (l:List ByteArray):List Value:=l.map .string
theorem fz' (l:List ByteArray):(aV' l).length=l.length:=by simp[aV']
theorem nY':(Tryz.prog.info? 9).map (fun i=>(i.zero,i.size,i.bytes))=some (some (.string ⟨#[]⟩),1,16):=by kernel_rfl
end Go.Proofs.YtamafdcnbcoegabGreat
namespace Go.Proofs.YtamafdcnbcoegabGreat
namespace Mod
structure Sk where
 epoch:Nat
 logs:Nat->List ByteArray
 held:List (Nat×Nat×ByteArray)
def Sk.count (s:Sk):Nat:=(s.logs 0).length+(s.logs 1).length+(s.logs 2).length
def ixFrom (st q:Nat):Nat->List (Nat×Nat×ByteArray)->Option Nat
 | _,[]=>none
 |i,h::l=>if h.1=st/\h.2.1=q then some i else ixFrom st q (i+1) l
def Sk.ix (s:Sk) (st q:Nat):Option Nat:=ixFrom st q 0 s.held
def ixInt:Option Nat->Int
 |none=> -1
 |some i=>i
def Sk.commitFrom (a:Sk) (st q n:Nat):Nat->List ByteArray->List ByteArray
 |0,out=>out
 |f+1,out=>if n+out.length < 120 then
   match a.ix st (q+out.length)with
   |none=>out
   |some i=>Sk.commitFrom a st q n f (out++[(a.held.getD i (0,0,⟨#[]⟩)).2.2])
  else out
def Sk.commits (a:Sk) (k e st q:Int) (b:ByteArray):List ByteArray:=
 if k≠3\/e≠a.epoch\/q≠(a.logs st.toNat).length+1 then []else if 120<=a.count then []else a.commitFrom st.toNat q.toNat a.count 120 [b]
theorem Sk.commitFrom_stop {a:Sk} {st q n f:Nat} {out:List ByteArray} (h:¬n+out.length < 120):a.commitFrom st q n f out=out:=by
 cases f with
 |zero=>rfl
 |succ f=>rw[Sk.commitFrom,if_neg h]
theorem Sk.commitFrom_none {a:Sk} {st q n f:Nat} {out:List ByteArray} (h:n+out.length < 120) (hi:a.ix st (q+out.length)=none):a.commitFrom st q n f out=out:=by
 cases f with
 |zero=>rfl
 |succ f=>rw[Sk.commitFrom,if_pos h,hi]
theorem Sk.commitFrom_some {a:Sk} {st q n f i:Nat} {out:List ByteArray} (h:n+out.length < 120) (hi:a.ix st (q+out.length)=some i):a.commitFrom st q n (f+1) out=a.commitFrom st q n f (out++[(a.held.getD i (0,0,⟨#[]⟩)).2.2]):=by
 rw[Sk.commitFrom,if_pos h,hi]
def keeps (st up:Nat) (h:Nat×Nat×ByteArray):Bool:= !(decide (h.1=st)) ||decide (up < h.2.1)
def Sk.forget (a:Sk) (st up:Nat):Sk:={a with held:=a.held.filter (keeps st up)}
end Mod
end Go.Proofs.YtamafdcnbcoegabGreat
namespace Go.Proofs.YtamafdcnbcoegabGreat
open Go.RowKit
theorem rw' {B:Nat} {w:World} {e:TypeId} {v:Value} {n:Nat} {xs:List Value} (h:w.ownsRow B e 1 v n xs) (r:0 < n):∃g cap,v= .slice (some ⟨g,0,none⟩) n cap:=by
 obtain⟨_,h2⟩:=h;rcases h2 with ⟨_,h2⟩|⟨g,cap,z,e,_⟩
 ·omega
 ·exact⟨g,cap,e⟩
theorem wq' {B:Nat} {w:World} {e:TypeId} {v:Value} {n:Nat} {xs:List Value} (h:w.ownsRow B e 1 v n xs):w.ownsRow 0 e 1 v n xs:=by
 obtain⟨h1,h2⟩:=h;refine⟨h1,?_⟩;rcases h2 with h2|⟨g,cap,r,e,D,z⟩
 ·exact .inl h2
 ·exact .inr ⟨g,cap,r,e,Nat.zero_le _,z⟩
theorem aq' {B:Nat} {w:World} {e:TypeId} {size n:Nat} {v:Value} {xs:List Value} (h:w.ownsRow B e size v n xs):as' w e size v n xs:=by
 obtain⟨h1,h2⟩:=h;refine⟨h1,?_⟩;rcases h2 with h2|⟨g,cap,r,rfl,_,z,D,F,hs,G⟩
 ·exact .inl h2
 ·exact .inr ⟨g,0,cap,r,rfl,z,D,F,by omega,by simpa using G⟩
theorem ex' {a:Mod.Sk} {st q n:Nat}:∀ {f:Nat} {out:List ByteArray},out≠ []->a.commitFrom st q n f out≠ []
 |0,_,h=>h
 |f+1,out,h=>by
  rw[Mod.Sk.commitFrom];split
  ·split
   ·exact h
   ·exact ex' (by simp)
  ·exact h
theorem fA' {a:Mod.Sk} {st q n:Nat}:∀ {f:Nat} {out:List ByteArray},n+out.length<=120->n+(a.commitFrom st q n f out).length<=120
 |0,_,h=>h
 |f+1,out,h=>by
  rw[Mod.Sk.commitFrom];split
  ·split
   ·exact h
   ·exact fA' (by simp;omega)
  ·exact h
theorem hZ' {a:Mod.Sk} (k e:Int) (s r:Nat) (b:ByteArray) (h:a.count<=120):a.count+(a.commits k e s r b).length<=120:=by
 rw[Mod.Sk.commits];split
 ·simpa using h
 ·split
  ·simpa using h
  ·exact fA' (by simp;omega)
theorem gU' {G:Array Oper} {o:Oper} {a:Act} {K:Act->World->Prop} {H:Exit->Act->World->Prop} {E:Prop} {w:World} (I:o.guard=none) (s x:Operand) (t:TypeId) (J:o.op= .call {callee:= .builtin .append,args:= #[s,x],argTypes:= #[t,t]})
  (e:TypeId) (D:Value) (size bytes:Nat) (M:Tryz.prog.underlying t=some (.slice e)) (O:(Tryz.prog.info? e).map (fun i=>(i.zero,i.size,i.bytes))=some (some D,size,bytes)) (Q:D.cells.size=size)
  (v:Value) (n:Nat) (xs:List Value) (U:as' w e size v n xs) (hs:a.eval s=v) (F:Addr) (m c:Nat) (r:List Value) (V:a.eval x= .slice (some F) m c) (hl:r.length=m * size) (X:∀j u,r[j]? =some u->w.cell? (F.add j)=some u)
  (h1:∀u∈r,u.oneCell'=true) (Y:0 < m) (Z:(n+m) * bytes<=140737488355328) (aa:n+m<=140737488355328)
  (h:∀z w',as' w' e size z (n+m) (xs++r)->App w w' v z->K (a.put o.dst z) w'):if Region.wanted o (yielded G a.tmps)=true then o.wp Tryz.prog a w K H else E:=by
 rw[if_pos (by simp[Region.wanted,I])];obtain⟨i0,hi,ab,ac,ad⟩:=bp' O;obtain⟨z,w',ah,h2,h3⟩:=hT' (P:=Tryz.prog) w t o.type e i0 D size bytes M hi ab ac ad Q v n xs U F m c r hl X h1 Y Z aa;unfold Oper.wp execOp;simp only[J,resolve,invoke,builtin,Sem.run_bind,Sem.run_pure,Result.andThen_ok,List.map_toArray,List.map_cons,List.map_nil,hs,V,ah];exact h z w' h2 h3
def cP' (a:Mod.Sk) (s up:Nat):Nat->Nat
 |0=>0
 |i+1=>cP' a s up i+(if(a.ix s (up+2+i)).isSome then 2 ^ i else 0)
theorem kQ' (a:Mod.Sk) (s up:Nat):cP' a s up 3<=7:=by
 simp only[cP'];split <;> split <;> split <;> omega
def ackBody (a:Mod.Sk) (s up:Nat):ByteArray:=⟨#[UInt8.ofNat (cP' a s up 3)]⟩
theorem gV' {a:Mod.Sk} {s up:Nat} (G:a.epoch<=2147483647) (hs:s < 3) (hu:up<=2147483647):Wire.proper 4 a.epoch s up (ackBody a s up)=true:=by
 have H:=kQ' a s up;have r:Wire.isNum (a.epoch:Int)=true:=by simp[Wire.isNum];omega
 have z:Wire.isNum (up:Int)=true:=by simp[Wire.isNum];omega
 have D:Wire.isStr (s:Int)=true:=by simp[Wire.isStr];omega
 have F:Wire.ackBody (ackBody a s up)=true:=by
  have:(UInt8.ofNat (cP' a s up 3)).toNat=cP' a s up 3:=by simp[UInt8.toNat_ofNat'];omega
  simp[Wire.ackBody,ackBody,this,ByteArray.size];omega
 simp[Wire.proper,r,z,D,F]
end Go.Proofs.YtamafdcnbcoegabGreat
namespace Go.Proofs.YtamafdcnbcoegabGreat
open Go.RowKit
open Go.MapKept
def aZ' (w:World) (b:Nat) (f:Int->Option Value):Prop:=
 ∃r z,w.heap[b]? =some (.map r z)/\(∀x∈r.toList,IsKey (.int .i64) x.key)/\(r.toList.map (·.key)).Nodup/\
  ∀ (k:Int) (v:Value),f k=some v↔ ∃x∈r.toList,x.key= .int .i64 k/\x.val=v
theorem aZ'.keep {w w':World} {b:Nat} {f:Int->Option Value} (h:aZ' w b f) (r:w'.heap[b]? =w.heap[b]?):aZ' w' b f:=by
 obtain⟨z,D,F,G⟩:=h;exact⟨z,D,r.trans F,G⟩
theorem aZ'.lt {w:World} {b:Nat} {f:Int->Option Value} (h:aZ' w b f):b < w.heap.size:=by
 obtain⟨z,D,r,F⟩:=h;exact(Array.getElem?_eq_some_iff.1 r).1
theorem aZ'.not_cells {w:World} {b:Nat} {f:Int->Option Value} {c:Array Value} {t:TypeId} {fr:Nat×Nat} (h:aZ' w b f) (r:w.heap[b]? =some (.cells c t fr)):False:=by
 obtain⟨D,F,z,G⟩:=h;rw[z]at r;cases r
theorem gn' (w:World):aZ' (w.alloc (.map #[] 0)) w.heap.size fun _=>none:=
 ⟨#[],0,heap_alloc_new w _,by simp,by simp,by simp⟩
def kn' (w:World) (v:Value) (f:Int->Option Value):Prop:=(v= .map none/\f=fun _=>none)\/∃b,v= .map (some b)/\aZ' w b f
def aT':Value->Option Nat
 | .map b=>b
 | _=>none
theorem kn'.keep {w w':World} {v:Value} {f:Int->Option Value} (h:kn' w v f) (r:∀b,aT' v=some b->w'.heap[b]? =w.heap[b]?):kn' w' v f:=by
 rcases h with h|⟨b,rfl,h⟩
 ·exact .inl h
 ·exact .inr ⟨b,rfl,h.keep (r b rfl)⟩
theorem kn'.lt {w:World} {v:Value} {f:Int->Option Value} (h:kn' w v f):∀b,aT' v=some b->b < w.heap.size:=by
 intro b r;rcases h with ⟨rfl,_⟩|⟨z,rfl,h⟩
 ·cases r
 ·cases r;exact h.lt
theorem ey' (k:Int):IsKey (.int .i64) (.int .i64 k):=by simp[IsKey]
theorem ja' {r:List MapEntry} {f:Int->Option Value} (D:∀x∈r,IsKey (.int .i64) x.key) (z:∀ (k:Int) (v:Value),f k=some v↔ ∃x∈r,x.key= .int .i64 k/\x.val=v) (k:Int):
  (Instr.findNow (.int .i64) (.int .i64 k) r 0=some none/\f k=none/\∀x∈r,x.key≠ .int .i64 k)\/
  ∃j e,Instr.findNow (.int .i64) (.int .i64 k) r 0=some (some (j,e.val))/\r[j]? =some e/\e.key= .int .i64 k/\f k=some e.val:=by
 rcases findNow_spec (ey' k) r 0 D with ⟨h1,h2⟩|⟨j,e,h1,h2,h3⟩
 ·refine .inl ⟨h1,?_,h2⟩;cases F:f k with
  |none=>rfl
  |some v=>obtain⟨x,G,H,_⟩:=(z k v).1 F;exact absurd H (h2 x G)
 ·exact .inr ⟨j,e,by rw[h1];simp,h2,h3,(z k e.val).2 ⟨e,List.mem_of_getElem? h2,h3,rfl⟩⟩
theorem bm' {P:Program} {w:World} {t K E:TypeId} (r:P.underlying t=some (.map K E)) (hK:P.underlying K=some (.int .i64)) {z:Value} (D:(zeroValue E).run P w= .ok z w) {v:Value} {f:Int->Option Value} (h:kn' w v f) (k:Int):
  (Instr.lookup t v (.int .i64 k) true).run P w= .ok (.tuple #[(f k).getD z, .bool (f k).isSome]) w/\(Instr.lookup t v (.int .i64 k) false).run P w= .ok ((f k).getD z) w:=by
 rcases h with ⟨rfl,rfl⟩|⟨b,rfl,I,J,F,G,M,H⟩
 ·have h1:Instr.findNow (.int .i64) (.int .i64 k) [] 0=some none:=rfl;constructor <;> simp[Instr.lookup,run_underlying r,run_checkKey hK (ey' k),run_findKey hK h1,D,Result.andThen]
 ·rcases ja' G H k with ⟨h1,h2,_⟩|⟨j,e,h1,h2,h3,h4⟩
  ·constructor <;> simp[Instr.lookup,run_underlying r,MapKept.run_getObj_map F,run_checkKey hK (ey' k),run_findKey hK h1,D,h2,Result.andThen]
  ·constructor <;> simp[Instr.lookup,run_underlying r,MapKept.run_getObj_map F,run_checkKey hK (ey' k),run_findKey hK h1,h4,Result.andThen]
def ko' (f:Int->Option Value) (k:Int) (v:Value):Int->Option Value:=fun j=>if j=k then some v else f j
def mt' (f:Int->Option Value) (k:Int):Int->Option Value:=fun j=>if j=k then none else f j
theorem uM' {r:List MapEntry} {f:Int->Option Value} (U:(r.map (·.key)).Nodup) (V:∀x∈r,IsKey (.int .i64) x.key) (X:∀ (k:Int) (v:Value),f k=some v↔ ∃x∈r,x.key= .int .i64 k/\x.val=v) {j:Nat} {e:MapEntry} {k:Int} (hj:r[j]? =some e) (M:e.key= .int .i64 k) (v:Value):
  (∀x∈r.set j {e with key:= .int .i64 k,val:=v},IsKey (.int .i64) x.key)/\((r.set j {e with key:= .int .i64 k,val:=v}).map (·.key)).Nodup/\
   ∀ (k':Int) (O:Value),ko' f k v k'=some O↔ ∃x∈r.set j {e with key:= .int .i64 k,val:=v},x.key= .int .i64 k'/\x.val=O:=by
 have H:j < r.length:=(List.getElem?_eq_some_iff.1 hj).1;have Y:(r.set j {e with key:= .int .i64 k,val:=v}).map (·.key)=r.map (·.key):=by
  rw[List.map_set];apply List.ext_getElem?;intro i;rw[List.getElem?_set];by_cases I:j=i
  ·subst I;have:=Option.some.inj ((List.getElem?_eq_getElem H).symm.trans hj);simp[H,this,M]
  ·simp[I]
 have Z:∀ (i:Nat) (x:MapEntry),r[i]? =some x->x.key= .int .i64 k->i=j:=by
  intro i x hi z;by_cases I:i=j
  ·exact I
  ·have D:i < r.length:=(List.getElem?_eq_some_iff.1 hi).1;have h0:=List.getElem_inj (xs:=r.map (·.key)) (i:=i) (j:=j) (h₀:=by simpa using D) (h₁:=by simpa using H) U;have aa:(r.map (·.key))[i]'(by simpa using D)= .int .i64 k:=by rw[List.getElem_map,<-z];congr 1;rw[List.getElem?_eq_getElem D]at hi;exact Option.some.inj hi
   have ab:(r.map (·.key))[j]'(by simpa using H)= .int .i64 k:=by rw[List.getElem_map,<-M];congr 1;rw[List.getElem?_eq_getElem H]at hj;exact Option.some.inj hj
   exact h0.1 (aa.trans ab.symm)
 refine⟨fun x z=>?_,Y ▸ U,fun k' O=>?_⟩
 ·rcases List.mem_or_eq_of_mem_set z with h|h
  ·exact V x h
  ·subst h;exact ey' k
 ·unfold ko';by_cases J:k'=k
  ·subst J;rw[if_pos rfl];constructor
   ·rintro⟨⟩;exact⟨_,List.mem_set H _,rfl,rfl⟩
   ·rintro⟨x,z,F,rfl⟩;obtain⟨i,hi,G⟩:=List.getElem_of_mem z;rw[List.getElem_set]at G;split at G
    ·rw[<-G]
    ·rename_i Q;have D:i < r.length:=by simpa using hi
     exact absurd (Z i x (by rw[List.getElem?_eq_getElem D,G]) F).symm Q
  ·rw[if_neg J,X];constructor
   ·rintro⟨x,z,F,rfl⟩;obtain⟨i,D,G⟩:=List.getElem_of_mem z;have Q:¬j=i:=by rintro rfl;rw[List.getElem?_eq_getElem D,G]at hj;cases hj;rw[M]at F;injection F with _ h;exact J h.symm
    refine⟨x,?_,F,rfl⟩;have:=List.getElem_set_ne Q (a:={e with key:= .int .i64 k,val:=v}) (hj:=by simpa using D);rw[<-G,<-this];exact List.getElem_mem _
   ·rintro⟨x,z,F,rfl⟩;rcases List.mem_or_eq_of_mem_set z with h|h
    ·exact⟨x,h,F,rfl⟩
    ·subst h;injection F with _ h;exact absurd h.symm J
theorem bG' {P:Program} {w:World} {t K E:TypeId} (V:P.underlying t=some (.map K E)) (hK:P.underlying K=some (.int .i64)) {b:Nat} {f:Int->Option Value} (h:aZ' w b f) (k:Int) (v:Value):
  ∃o,(∀y:World,y.heap=w.heap->(Instr.mapUpdate t (.map (some b)) (.int .i64 k) v).run P y= .ok () {y with heap:=y.heap.setIfInBounds b o})/\aZ' {w with heap:=w.heap.setIfInBounds b o} b (ko' f k v):=by
 obtain⟨z,F,D,H,X,I⟩:=h;have ac:b < w.heap.size:=(Array.getElem?_eq_some_iff.1 D).1;have Y:∀o,({w with heap:=w.heap.setIfInBounds b o}:World).heap[b]? =some o:=fun o=>by simp[ac]
 rcases ja' H I k with ⟨h1,h2,h3⟩|⟨j,e,h1,h2,h3,h4⟩
 ·refine⟨.map (z.push ⟨.int .i64 k,v,F⟩) (F+1),?_,z.push ⟨.int .i64 k,v,F⟩,F+1,Y _,?_,?_,?_⟩
  ·intro y J;have D:y.heap[b]? =some (.map z F):=by rw[J];exact D
   simp[Instr.mapUpdate,run_underlying V,MapKept.run_getObj_map D,run_checkKey hK (ey' k),run_findKey hK h1,run_setObj_map _ D,Result.andThen]
  ·intro x r;simp only[Array.toList_push,List.mem_append,List.mem_singleton]at r;rcases r with r|rfl
   ·exact H x r
   ·exact ey' k
  ·simp only[Array.toList_push,List.map_append,List.map_cons,List.map_nil];rw[List.nodup_append];refine⟨X,by simp,?_⟩;rintro a ad c Z rfl;simp only[List.mem_singleton]at Z;obtain⟨x,r,rfl⟩:=List.mem_map.1 ad;exact h3 x r Z
  ·intro k' ai;unfold ko';simp only[Array.toList_push,List.mem_append,List.mem_singleton];by_cases M:k'=k
   ·subst M;rw[if_pos rfl];constructor
    ·rintro⟨⟩;exact⟨_, .inr rfl,rfl,rfl⟩
    ·rintro⟨x,r|rfl,G,rfl⟩
     ·exact absurd G (h3 x r)
     ·rfl
   ·rw[if_neg M,I];constructor
    ·rintro⟨x,r,O⟩;exact⟨x, .inl r,O⟩
    ·rintro⟨x,r|rfl,G,O⟩
     ·exact⟨x,r,G,O⟩
     ·injection G with _ h;exact absurd h.symm M
 ·have hj:z[j]? =some e:=by simpa using h2
  have Q:(z.modify j (fun U=>{U with key:= .int .i64 k,val:=v})).toList=z.toList.set j {e with key:= .int .i64 k,val:=v}:=by
   rw[Array.toList_modify];apply List.ext_getElem?;intro i;rw[List.getElem?_set,List.getElem?_modify];by_cases aa:j=i
   ·subst aa;have ab:j < z.toList.length:=(List.getElem?_eq_some_iff.1 h2).1;rw[h2];simp at ab;simp[ab]
   ·simp[aa]
  have hs:∀w,(Instr.keyThatStays (.int .i64 k) (.int .i64 k)).run P w= .ok (.int .i64 k) w:=fun w=>by simp[Instr.keyThatStays,Instr.sameBits]
  obtain⟨g1,g2,ah⟩:=uM' X H I h2 h3 v;refine⟨.map (z.modify j (fun U=>{U with key:= .int .i64 k,val:=v})) F,?_,_,F,Y _,?_,?_,?_⟩
  ·intro y J;have D:y.heap[b]? =some (.map z F):=by rw[J];exact D
   simp[Instr.mapUpdate,run_underlying V,MapKept.run_getObj_map D,run_checkKey hK (ey' k),run_findKey hK h1,hj,h3,hs,run_setObj_map _ D,Result.andThen]
  ·rw[Q];exact g1
  ·rw[Q];exact g2
  ·rw[Q];exact ah
theorem eZ' {P:Program} {w:World} {t K E K':TypeId} (Y:P.underlying t=some (.map K E)) (hK:P.underlying K=some (.int .i64)) {b:Nat} {f:Int->Option Value} (h:aZ' w b f) (k:Int):
  ∃o,(∀ (ty:TypeId) (y:World),y.heap=w.heap->(Builtin.delete_ #[t,K'] ty #[.map (some b), .int .i64 k]).run P y= .ok (.tuple #[]) {y with heap:=y.heap.setIfInBounds b o})/\aZ' {w with heap:=w.heap.setIfInBounds b o} b (mt' f k):=by
 obtain⟨r,G,D,I,J,M⟩:=h;have ab:b < w.heap.size:=(Array.getElem?_eq_some_iff.1 D).1;have Z:∀o,({w with heap:=w.heap.setIfInBounds b o}:World).heap[b]? =some o:=fun o=>by simp[ab]
 rcases ja' I M k with ⟨h1,h2,h3⟩|⟨j,e,h1,h2,h3,h4⟩
 ·refine⟨.map r G,?_,r,G,Z _,I,J,?_⟩
  ·intro ty y O;have D:y.heap[b]? =some (.map r G):=by rw[O];exact D
   simp[Builtin.delete_,run_underlying Y,MapKept.run_getObj_map D,run_checkKey hK (ey' k),run_findKey hK h1,run_setObj_map _ D,Result.andThen]
  ·intro k' ac;unfold mt';by_cases H:k'=k
   ·subst H;rw[if_pos rfl];constructor
    ·rintro⟨⟩
    ·rintro⟨x,z,F,_⟩;exact absurd F (h3 x z)
   ·rw[if_neg H,M]
 ·have Q:j < r.toList.length:=(List.getElem?_eq_some_iff.1 h2).1;have U:(r.eraseIdxIfInBounds j).toList=r.toList.eraseIdx j:=by
   have:j < r.size:=by simpa using Q
   unfold Array.eraseIdxIfInBounds;rw[dif_pos this,Array.toList_eraseIdx]
  have V:(r.toList.eraseIdx j).Sublist r.toList:=List.eraseIdx_sublist _ _;have ad:∀x∈r.toList.eraseIdx j,x.key≠ .int .i64 k:=by intro x z F;obtain⟨i,ah,hi⟩:=List.mem_eraseIdx_iff_getElem?.1 z;have aa:i < r.toList.length:=(List.getElem?_eq_some_iff.1 hi).1;have h0:=List.getElem_inj (xs:=r.toList.map (·.key)) (i:=i) (j:=j) (h₀:=by simpa using aa) (h₁:=by simpa using Q) J;refine ah (h0.1 ?_);rw[List.getElem_map,List.getElem_map];rw[List.getElem?_eq_getElem aa]at hi;rw[List.getElem?_eq_getElem Q]at h2;rw[Option.some.inj hi,Option.some.inj h2,F,h3]
  refine⟨.map (r.eraseIdxIfInBounds j) G,?_,_,G,Z _,?_,?_,?_⟩
  ·intro ty y O;have D:y.heap[b]? =some (.map r G):=by rw[O];exact D
   simp[Builtin.delete_,run_underlying Y,MapKept.run_getObj_map D,run_checkKey hK (ey' k),run_findKey hK h1,run_setObj_map _ D,Result.andThen]
  ·rw[U];exact fun x z=>I x (V.subset z)
  ·rw[U];exact(V.map _).nodup J
  ·rw[U];intro k' ac;unfold mt';by_cases H:k'=k
   ·subst H;rw[if_pos rfl];constructor
    ·rintro⟨⟩
    ·rintro⟨x,z,F,_⟩;exact absurd F (ad x z)
   ·rw[if_neg H,M];constructor
    ·rintro⟨x,z,F,X⟩;obtain⟨i,hi⟩:=List.getElem?_of_mem z;refine⟨x,List.mem_eraseIdx_iff_getElem?.2 ⟨i,?_,hi⟩,F,X⟩;rintro rfl;rw[h2]at hi;cases hi;rw[h3]at F;injection F with _ h;exact H h.symm
    ·rintro⟨x,z,X⟩;exact⟨x,V.subset z,X⟩
theorem fB' {P:Program} {w:World} {t K E:TypeId} (D:P.underlying t=some (.map K E)) {b:Nat} {f:Int->Option Value} (h:aZ' w b f):
  ∃o,(∀ (ty:TypeId) (y:World),y.heap=w.heap->(Builtin.clear_ #[t] ty #[.map (some b)]).run P y= .ok (.tuple #[]) {y with heap:=y.heap.setIfInBounds b o})/\aZ' {w with heap:=w.heap.setIfInBounds b o} b (fun _=>none):=by
 obtain⟨F,z,r,I,J,M⟩:=h;have G:b < w.heap.size:=(Array.getElem?_eq_some_iff.1 r).1;refine⟨.map #[] z,?_,#[],z,by simp[G],by simp,by simp,by simp⟩;intro ty y H;have r:y.heap[b]? =some (.map F z):=by rw[H];exact r
 simp[Builtin.clear_,run_underlying D,MapKept.run_getObj_map r,run_setObj_map _ r,Result.andThen]
theorem be' {w:World} (b:Nat) (o:Obj):Far (fun k=>k=b) w {w with heap:=w.heap.setIfInBounds b o}:=
 ⟨rfl,rfl,rfl,by simp,fun k _ r=>by show(w.heap.setIfInBounds b o)[k]? = _;rw[Array.getElem?_setIfInBounds_ne (fun e=>r e.symm)]⟩
theorem fC' {P:Program} {w:World} {t K E ty:TypeId} (r:P.underlying t=some (.map K E)):(Builtin.clear_ #[t] ty #[.map none]).run P w= .ok (.tuple #[]) w:=by
 simp[Builtin.clear_,run_underlying r,Result.andThen]
end Go.Proofs.YtamafdcnbcoegabGreat
namespace Go.Proofs
open Go.Shelf
open Go.RowKit in
def Tryz.laysM316_ren:Go.Shelf.Ren:=⟨fun|316=>127|n=>n,fun|9=>9|3=>3|4=>4|37=>48|0=>0|127=>252|5=>5|n=>n,fun|n=>n⟩
theorem Tryz.laysM316:Go.Proofs.LaysM.n316 Tryz.prog Tryz.laysM316_ren:={
 mixed:=by kernel_rfl
 f316:=Tryz.func127.trans (congrArg some (by kernel_rfl))
 t0:=Tryz.underlying0
 a0:=Tryz.isAgg0
 z0:=Tryz.sizeOf0
 v0:=Tryz.zeroValue0
 t3:=Tryz.underlying3
 a3:=Tryz.isAgg3
 z3:=Tryz.sizeOf3
 v3:=Tryz.zeroValue3
 t4:=Tryz.underlying4
 a4:=Tryz.isAgg4
 z4:=Tryz.sizeOf4
 v4:=Tryz.zeroValue4
 t9:=Tryz.underlying9
 a9:=Tryz.isAgg9
 z9:=Tryz.sizeOf9
 v9:=Tryz.zeroValue9
 t37:=Tryz.underlying48
 a37:=Tryz.isAgg48
 z37:=Tryz.sizeOf48
 v37:=Tryz.zeroValue48
 t127:=Tryz.underlying252
 a127:=Tryz.isAgg252
 z127:=Tryz.sizeOf252
 v127:=Tryz.zeroValue252
 t5:=Tryz.underlying5
 a5:=Tryz.isAgg5
 z5:=Tryz.sizeOf5
 v5:=Tryz.zeroValue5
 i0:=by kernel_rfl
 i3:=by kernel_rfl
 i4:=by kernel_rfl
 i5:=by kernel_rfl
 i9:=by kernel_rfl
 i37:=by kernel_rfl
 i127:=by kernel_rfl}
open Go.RowKit in
theorem Tryz.stringslite_Clone (s:ByteArray) (w:World) (r:s.size<=281474976710656):
  Calls Tryz.prog 127 #[.string s] w fun e w'=>e= .returned (.string s)/\Below w.heap.size w w':=Any.stringslite_Clone Tryz.laysM316 s w r
open Go.RowKit Go.Lib Go.Sort in
open Go.RowKit Go.Lib Go.Sort in
open Go.RowKit Go.Lib Go.Sort in
def Tryz.laysNm216_ren:Go.Shelf.Ren:=⟨fun|16=>72|n=>n,fun|24=>33|9=>9|4=>4|n=>n,fun|n=>n⟩
theorem Tryz.laysNm216:Go.Proofs.Lays2.n16 Tryz.prog Tryz.laysNm216_ren:={
 mixed:=by kernel_rfl
 f16:=Tryz.func72.trans (congrArg some (by kernel_rfl))
 t4:=Tryz.underlying4
 a4:=Tryz.isAgg4
 z4:=Tryz.sizeOf4
 v4:=Tryz.zeroValue4
 t9:=Tryz.underlying9
 a9:=Tryz.isAgg9
 z9:=Tryz.sizeOf9
 v9:=Tryz.zeroValue9
 t24:=Tryz.underlying33
 a24:=Tryz.isAgg33
 z24:=Tryz.sizeOf33
 v24:=Tryz.zeroValue33
 i9:=by kernel_rfl}
open Go.RowKit Go.Lib in
theorem Tryz.slices_Clone_string (b off n c:Nat) (r:List ByteArray) (w:World) (D:n<=r.length) (F:n * 16<=140737488355328) (G:∀j,j < r.length->w.cell? ⟨b,off+j,none⟩=some (.string (r.getD j ByteArray.empty))):
  Calls Tryz.prog 72 #[.slice (some ⟨b,off,none⟩) n c] w fun e w'=>∃z,e= .returned z/\w'.ownsRow w.heap.size 9 1 z n ((r.take n).map (Value.string))/\z≠ .slice none 0 0/\Below w.heap.size w w':=Any.slices_Clone_string Tryz.laysNm216 b off n c r w D F G
open Go.RowKit Go.Lib in
theorem Tryz.slices_Clone_string_nil (n c:Nat) (w:World):
  Calls Tryz.prog 72 #[.slice none n c] w fun e w'=>e= .returned (.slice none 0 0)/\w'=w:=Any.slices_Clone_string_nil Tryz.laysNm216 n c w
open Go.RowKit Go.Lib in
open Go.RowKit Go.Lib in
open Go.RowKit Go.Lib in
open Go.RowKit Go.Lib in
def Tryz.laysNm225_ren:Go.Shelf.Ren:=⟨fun|25=>125|31=>172|32=>173|37=>201|n=>n,fun|22=>101|3=>3|4=>4|40=>230|0=>0|n=>n,fun|n=>n⟩
theorem Tryz.laysNm225:Go.Proofs.Lays2.n25 Tryz.prog Tryz.laysNm225_ren:={
 mixed:=by kernel_rfl
 f25:=Tryz.func125.trans (congrArg some (by kernel_rfl))
 f31:=Tryz.func172.trans (congrArg some (by kernel_rfl))
 f32:=Tryz.func173.trans (congrArg some (by kernel_rfl))
 f37:=Tryz.func201.trans (congrArg some (by kernel_rfl))
 t0:=Tryz.underlying0
 a0:=Tryz.isAgg0
 z0:=Tryz.sizeOf0
 v0:=Tryz.zeroValue0
 t3:=Tryz.underlying3
 a3:=Tryz.isAgg3
 z3:=Tryz.sizeOf3
 v3:=Tryz.zeroValue3
 t4:=Tryz.underlying4
 a4:=Tryz.isAgg4
 z4:=Tryz.sizeOf4
 v4:=Tryz.zeroValue4
 t22:=Tryz.underlying101
 a22:=Tryz.isAgg101
 z22:=Tryz.sizeOf101
 v22:=Tryz.zeroValue101
 t40:=Tryz.underlying230
 a40:=Tryz.isAgg230
 z40:=Tryz.sizeOf230
 v40:=Tryz.zeroValue230}
open Go.RowKit Go.Lib in
theorem Tryz.slices_BinarySearch_int (b off n c:Nat) (r:List Int) (x:Int) (w:World) (z:n<=r.length) (D:n < 4611686018427387904) (F:∀j,j < r.length->w.cell? ⟨b,off+j,none⟩=some (.int .i64 (r.getD j 0))) (hs:(r.take n).Pairwise (· <= ·)):
  Calls Tryz.prog 125 #[.slice (some ⟨b,off,none⟩) n c, .int .i64 x] w fun e w'=>e= .returned (.tuple #[.int .i64 ((r.take n).countP (· < x):Nat), .bool ((r.take n).contains x)])/\∃q,w'=w.drewN q:=Any.slices_BinarySearch_int Tryz.laysNm225 b off n c r x w z D F hs
def Tryz.laysNm223_ren:Go.Shelf.Ren:=⟨fun|23=>199|n=>n,fun|22=>101|3=>3|4=>4|0=>0|n=>n,fun|n=>n⟩
theorem Tryz.laysNm223:Go.Proofs.Lays2.n23 Tryz.prog Tryz.laysNm223_ren:={
 mixed:=by kernel_rfl
 f23:=Tryz.func199.trans (congrArg some (by kernel_rfl))
 t0:=Tryz.underlying0
 a0:=Tryz.isAgg0
 z0:=Tryz.sizeOf0
 v0:=Tryz.zeroValue0
 t3:=Tryz.underlying3
 a3:=Tryz.isAgg3
 z3:=Tryz.sizeOf3
 v3:=Tryz.zeroValue3
 t4:=Tryz.underlying4
 a4:=Tryz.isAgg4
 z4:=Tryz.sizeOf4
 v4:=Tryz.zeroValue4
 t22:=Tryz.underlying101
 a22:=Tryz.isAgg101
 z22:=Tryz.sizeOf101
 v22:=Tryz.zeroValue101
 i3:=by kernel_rfl}
open Go.RowKit Go.Lib Go.Sort in
open Go.RowKit Go.Lib Go.Sort in
open Go.RowKit Go.Lib Go.Sort in
open Go.RowKit Go.Lib Go.Sort in
theorem Tryz.slices_Delete_int_cells (b off n c i j:Nat) (r:List Int) (w:World) (z:n<=r.length) (D:n<=c) (F:c<=9223372036854775807) (G:i<=j) (hj:j<=n) (H:∀j,j < r.length->w.cell? ⟨b,off+j,none⟩=some (.int .i64 (r.getD j 0))) (I:∀j,j < n->w.frozen? ⟨b,off+j,none⟩=false):
  Calls Tryz.prog 199 #[.slice (some ⟨b,off,none⟩) n c, .int .i64 i, .int .i64 j] w fun e w'=>e= .returned (.slice (some ⟨b,off,none⟩) (n - (j - i)) c)/\∃q,w'=(w.drewN q).setCells b off (((r.take n).take i++(r.take n).drop j++List.replicate (j - i) 0).map (Value.int .i64)):=Any.slices_Delete_int_cells Tryz.laysNm223 b off n c i j r w z D F G hj H I
open Go.RowKit Go.Lib in
theorem Tryz.slices_BinarySearch_int_empty (a:Option Addr) (c:Nat) (x:Int) (w:World):
  Calls Tryz.prog 125 #[.slice a 0 c, .int .i64 x] w fun e w'=>e= .returned (.tuple #[.int .i64 0, .bool false])/\w'=w:=Any.slices_BinarySearch_int_empty Tryz.laysNm225 a c x w
open Go.RowKit Go.Lib in
theorem Tryz.slices_Delete_int_empty (a:Option Addr) (c:Nat) (w:World):
  Calls Tryz.prog 199 #[.slice a 0 c, .int .i64 0, .int .i64 0] w fun e w'=>e= .returned (.slice a 0 c)/\w'=w:=Any.slices_Delete_int_empty Tryz.laysNm223 a c w
open Go.RowKit Go.Lib in
open Go.RowKit Go.Lib in
def Tryz.laysNm221_ren:Go.Shelf.Ren:=⟨fun|21=>126|27=>174|28=>175|35=>202|39=>214|n=>n,fun|22=>101|3=>3|4=>4|0=>0|n=>n,fun|n=>n⟩
theorem Tryz.laysNm221:Go.Proofs.Lays2.n21 Tryz.prog Tryz.laysNm221_ren:={
 mixed:=by kernel_rfl
 f21:=Tryz.func126.trans (congrArg some (by kernel_rfl))
 f27:=Tryz.func174.trans (congrArg some (by kernel_rfl))
 f28:=Tryz.func175.trans (congrArg some (by kernel_rfl))
 f35:=Tryz.func202.trans (congrArg some (by kernel_rfl))
 f39:=Tryz.func214.trans (congrArg some (by kernel_rfl))
 t0:=Tryz.underlying0
 a0:=Tryz.isAgg0
 z0:=Tryz.sizeOf0
 v0:=Tryz.zeroValue0
 t3:=Tryz.underlying3
 a3:=Tryz.isAgg3
 z3:=Tryz.sizeOf3
 v3:=Tryz.zeroValue3
 t4:=Tryz.underlying4
 a4:=Tryz.isAgg4
 z4:=Tryz.sizeOf4
 v4:=Tryz.zeroValue4
 t22:=Tryz.underlying101
 a22:=Tryz.isAgg101
 z22:=Tryz.sizeOf101
 v22:=Tryz.zeroValue101
 i3:=by kernel_rfl}
end Go.Proofs
