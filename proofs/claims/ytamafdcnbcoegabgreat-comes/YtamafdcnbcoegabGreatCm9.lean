/-
  Part 9 of a proof: MonoFootIn, L21, L22, MonoIn, L23, K19, L24, L25, U3, L26.
-/
import Derived.OrdersIn
import Derived.Maps.AppendAt
import Derived.Sort.CutIn
import Derived.Test.YtamafdcnbcoegabGreatCm8
set_option maxRecDepth 100000
set_option maxHeartbeats 40000000
namespace Go.Proofs.YtamafdcnbcoegabGreat
open Go.RowKit
section
variable {P:Program} {ops:Array Oper} {Q:Exit->Act->World->Prop} {lr n:Nat}
theorem qb' {a0:Act} {w0:World} (F:Nat->Value->World->Prop) (E:Nat->Nat->Prop) (ad:bz' ops a0.tmps.size=true)
  (aF:∀i j v w w',i≠j->av' ops j i=false->F j v w->Far (E i) w w'->F j v w')
  (aG:∀i o,ops[i]? =some o->∀a w,Far (fun b=>∃k,k≠i/\av' ops k i=false/\E k b) w0 w->bw' ops F a0 i o a w->
   if Region.wanted o (yielded ops a.tmps)=true then Oper.wpIn (Fence.wide.inRound lr) n P o a w (fun a' w'=>∃v,a'=a.put o.dst v/\Far (E i) w w'/\F i (jJ' o.dst v) w') Q else F i undef w)
  (aH:∀a w,Far (fun b=>∃k,E k b) w0 w->(∀i o,ops[i]? =some o->F i (match o.dst with|some d=>a.tmps.getD d undef|none=>undef) w)->(∀t,wr ops t=none->a.tmps.getD t undef=a0.tmps.getD t undef)->a.defers=a0.defers->a.tmps.size=a0.tmps.size->Q .normal a w):
  ∀ (M:Nat) (L:Array Bool) (a:Act) (w:World),gl' ops F E a0 w0 L a w->(List.range ops.size).countP (fun i=> !L.getD i false)<=M->wpAnyIn (Fence.wide.inRound lr) n P .any ops Q M L a w:=by
 have ax:∀ (L:Array Bool) (a:Act) (w:World),gl' ops F E a0 w0 L a w->Region.ready .any ops L=[]->Q .normal a w:=by
  intro L a w r aa;have aI:∀n i,i < n->i < ops.size->L.getD i false=true:=by
   intro n;induction n with
   |zero=>intro i h;omega
   |succ n ih=>
    intro i h hi;by_cases aJ:i < n
    ·exact ih i aJ hi
    ·have e:i=n:=by omega
     subst e;cases ay:L.getD i false
     ·exfalso;have D:ops[i]? =some ops[i]:=Array.getElem?_eq_getElem hi;obtain⟨_,_,h3⟩:=al' ad D;have:i∈Region.ready .any ops L:=mem_ready.2 ⟨by
       have hs:i < L.size:=by rw[r.size];exact hi
       rw[Array.getD_eq_getD_getElem?,Array.getElem?_eq_getElem hs]at ay ⊢;exact ay,ops[i],D,fun e ah G=>by
       have hd:av' ops i e.on=true:=by unfold av';rw[D];exact Array.any_eq_true'.2 ⟨e,ah,by simp[G]⟩
       have J:=h3 _ hd;exact ih e.on J (by omega)⟩
      rw[aa]at this;cases this
     ·rfl
  refine aH a w (r.ext.mono (fun b _ h=>h.imp fun k h=>h.2)) (fun i o D=>r.vals i o D (aI ops.size i (Array.getElem?_eq_some_iff.1 D).1 (Array.getElem?_eq_some_iff.1 D).1)) (fun t O=>r.rest t (fun j hj=>by rw[O]at hj;cases hj)) r.defers r.tsize
 intro M;induction M with
 |zero=>
  intro L a w r aK;have aa:Region.ready .any ops L=[]:=by
   apply List.eq_nil_iff_forall_not_mem.2;intro i hi;obtain⟨h0,o,D,_⟩:=mem_ready.1 hi;have J:i < ops.size:=(Array.getElem?_eq_some_iff.1 D).1;have H:L.getD i false=false:=by
    have hs:i < L.size:=by rw[r.size];exact J
    rw[Array.getD_eq_getD_getElem?,Array.getElem?_eq_getElem hs]at h0 ⊢;exact h0
   have:0 < (List.range ops.size).countP (fun i=> !L.getD i false):=List.countP_pos_iff.2 ⟨i,List.mem_range.2 J,by simp[H]⟩;omega
  exact⟨aa,ax L a w r aa⟩
 |succ M ih=>
  intro L a w r aK;refine⟨ax L a w r,fun i hi=>?_⟩;obtain⟨h0,o,D,aL⟩:=mem_ready.1 hi;have J:i < ops.size:=(Array.getElem?_eq_some_iff.1 D).1;have ai:i < L.size:=by rw[r.size];exact J
  have H:L.getD i false=false:=by rw[Array.getD_eq_getD_getElem?,Array.getElem?_eq_getElem ai]at h0 ⊢;exact h0
  obtain⟨hd,hl,aP⟩:=al' ad D;have az:∀j,av' ops i j=true->L.getD j false=true:=by intro j hj;unfold av' at hj;rw[D]at hj;obtain⟨e,ah,G⟩:=Array.any_eq_true'.1 hj;simp only[Bool.and_eq_true,beq_iff_eq]at G;rw[<-G.2];exact aL e ah G.1
  have aM:bw' ops F a0 i o a w:=by
   intro t O;cases I:wr ops t with
   |none=>exact r.rest t (fun j hj=>by rw[I]at hj;cases hj)
   |some j=>
    simp only[];have hj:=List.find?_some I;simp only[beq_iff_eq]at hj;split
    ·rename_i aj;cases ak:ops[j]? with
     |none=>rw[ak]at hj;cases hj
     |some aA=>rw[ak]at hj;have aB:=r.vals j aA ak (az j aj);have ab:aA.dst=some t:=hj;rw[ab]at aB;exact aB
    ·rename_i aj;refine r.rest t (fun aQ ab=>?_);rw[I]at ab;cases ab;rcases hl t O j I with h|h
     ·exact absurd h aj
     ·cases ao:L.getD j false
      ·rfl
      ·have:=r.closed j ao i h;rw[H]at this;cases this
  have aC:∀v w',Far (E i) w w'->F i (jJ' o.dst v) w'->gl' ops F E a0 w0 (L.setIfInBounds i true) (a.put o.dst v) w':=by
   intro v w' G U;have V:∀k,(L.setIfInBounds i true).getD k false=true↔ (k=i\/L.getD k false=true):=by
    intro k;by_cases z:k=i
    ·subst z;simp[Array.getD_eq_getD_getElem?,ai]
    ·rw[getD_set_ne false (fun e=>z e.symm)];simp[z]
   have ap:∀t,(a.put o.dst v).tmps.getD t undef=if o.dst=some t then v else a.tmps.getD t undef:=by
    intro t;cases X:o.dst with
    |none=>simp[Act.put]
    |some d=>
     simp only[Act.put,Option.some.injEq];have aN:d < a.tmps.size:=by rw[r.tsize];exact(hd d X).1
     by_cases h:d=t
     ·subst h;simp[Array.getD_eq_getD_getElem?,aN]
     ·simp[Array.getD_eq_getD_getElem?,h]
   refine⟨by simp[r.size],(r.ext.mono (fun b _ h=>by obtain⟨k,h1,h2⟩:=h;exact⟨k,(V k).2 (.inr h1),h2⟩)).trans G (fun b _ h=>⟨i,(V i).2 (.inl rfl),h⟩),?_,?_,?_,?_,?_⟩
   ·intro k z j hj;rw[V]at z ⊢;rcases z with rfl|z
    ·exact .inr (az j hj)
    ·exact .inr (r.closed k z j hj)
   ·intro k ok ac z;rw[V]at z;rcases z with rfl|z
    ·rw[D]at ac;cases ac;cases X:o.dst with
     |none=>rw[X]at U;exact U
     |some d=>rw[X]at U;simp only[];have aD:=ap d;rw[if_pos X,X]at aD;rw[aD];exact U
    ·have Y:i≠k:=by intro e;subst e;rw[H]at z;cases z
     have aO:av' ops k i=false:=by
      cases hd:av' ops k i with
      |false=>rfl
      |true=>have:=r.closed k z i hd;rw[H]at this;cases this
     have Z:=aF i k _ _ _ Y aO (r.vals k ok ac z) G;cases aq:ok.dst with
     |none=>rw[aq]at Z;exact Z
     |some d=>
      rw[aq]at Z;simp only[]at Z ⊢;have au:o.dst≠some d:=by intro e;have h1:=(hd d e).2;have h2:=((al' ad ac).1 d aq).2;rw[h1]at h2;cases h2;exact Y rfl
      rw[ap,if_neg au];exact Z
   ·intro t O;rw[ap];have au:o.dst≠some t:=by intro e;have:=O i (hd t e).2;have h2:=(V i).2 (.inl rfl);rw[this]at h2;cases h2
    rw[if_neg au];refine r.rest t (fun j hj=>?_);cases ao:L.getD j false
    ·rfl
    ·have:=O j hj;rw[(V j).2 (.inr ao)]at this;cases this
   ·cases o.dst <;> exact r.defers
   ·rw[<-r.tsize];cases o.dst <;> simp[Act.put]
  have aE:(List.range ops.size).countP (fun k=> !(L.setIfInBounds i true).getD k false)<=M:=by
   have:=cj' (l:=List.range ops.size) (p:=fun k=> !L.getD k false) (q:=fun k=> !(L.setIfInBounds i true).getD k false)
    (fun k _ z=>by
     by_cases Y:k=i
     ·subst Y;simp[H]
     ·rw[getD_set_ne false (fun e=>Y e.symm)]at z;exact z)
    ⟨i,List.mem_range.2 J,by simp[H],by simp[Array.getD_eq_getD_getElem?,ai]⟩
   omega
  have av:=aG i o D a w (r.ext.mono (fun b _ h=>by
   obtain⟨k,h1,h2⟩:=h;refine⟨k,fun e=>?_,?_,h2⟩
   ·subst e;rw[H]at h1;cases h1
   ·cases hd:av' ops k i with
    |false=>rfl
    |true=>have:=r.closed k h1 i hd;rw[H]at this;cases this)) aM
  unfold wpOpIn;rw[D];simp only[];split at av
  ·rename_i I;rw[if_pos I];refine Oper.wpIn_mono ?_ av;rintro a' w' ⟨v,rfl,G,U⟩;exact ih _ _ _ (aC v w' G U) aE
  ·rename_i I;rw[if_neg I];exact⟨fun _ _=>trivial,ih _ _ _ (aC undef w (Far.refl _ _) (by cases o.dst <;> exact av)) aE⟩
def jn' (lr n:Nat) (P:Program) (ops:Array Oper) (Q:Exit->Act->World->Prop) (L:List (Value->World->Prop)) (r:List (Nat× (Nat->Prop))) (a0:Act) (w0:World):Nat->List Oper->List (List (Tmp×Option Nat))->List (Value->World->Prop)->Prop
 |i,o::os,D::F,z::G=>(∀a w,Far (dB' r ops i) w0 w->M' L a0 a w D->
   if Region.wanted o (yielded ops a.tmps)=true then Oper.wpIn (Fence.wide.inRound lr) n P o a w (fun a' w'=>∃v,a'=a.put o.dst v/\Far (ev' r i) w w'/\z (jJ' o.dst v) w') Q else z undef w)/\jn' lr n P ops Q L r a0 w0 (i+1) os F G
 | _,[],_,_=>True
 | _,_,_,_=>False
theorem gH' {L:List (Value->World->Prop)} {H:List (Nat× (Nat->Prop))} {a0:Act} {w0:World}:∀ {s:Nat} {os:List Oper} {D:List (List (Tmp×Option Nat))} {F:List (Value->World->Prop)},jn' lr n P ops Q L H a0 w0 s os D F->
  ∀ (i:Nat) o r,os[i]? =some o->D[i]? =some r->∀a w,Far (dB' H ops (s+i)) w0 w->M' L a0 a w r->
   if Region.wanted o (yielded ops a.tmps)=true then Oper.wpIn (Fence.wide.inRound lr) n P o a w (fun a' w'=>∃v,a'=a.put o.dst v/\Far (ev' H (s+i)) w w'/\F.getD i (fun _ _=>True) (jJ' o.dst v) w') Q else F.getD i (fun _ _=>True) undef w
 | _,[],_,_,_,i,o,r,z,_=>by simp at z
 | _,o::os,[],_,h,_,_,_,_,_=>h.elim
 | _,o::os,r::D,[],h,_,_,_,_,_=>h.elim
 | _,o::os,r::D,J::F,h,0,I,pl',z,G=>by simp at z G;subst z;subst G;exact h.1
 |s,o::os,r::D,J::F,h,i+1,I,pl',z,G=>by have:=gH' h.2 i I pl' (by simpa using z) (by simpa using G);rw[show s+1+i=s+(i+1) by omega]at this;simpa using this
theorem jo' {id:Nat} {a0:Act} {w0:World} (V:P.follows .mixedOrders=true) (L:List (Value->World->Prop)) (I:List (List (Tmp×Option Nat))) (O:List (Option Tmp)) (J:List Bool) (D:List (Nat× (Nat->Prop)))
  (X:ne' D=true) (Y:bz' ops a0.tmps.size=true) (Z:bZ' ops=I) (aa:eu' ops=O) (U:bl' ops a0.tmps.size=J) (ab:bD' L) (ac:eW' ops L D) (ad:jn' lr n P ops Q L D a0 w0 0 ops.toList I L)
  (ah:∀f w,Far (fun b=>∃p∈D,p.2 b) w0 w->cl' f w O L->Q .normal {tmps:=(Y' J a0.tmps.toList 0 f).toArray,defers:=a0.defers} w):
  (Code.region id ops true).wpIn (Fence.wide.inRound lr) n P Q a0 w0:=by
 refine wpIn_region_any V (qb' (w0:=w0) (fun i=>L.getD i (fun _ _=>True)) (ev' D) Y ?_ ?_ ?_ ops.size _ a0 _ ⟨by simp,C' ((Below.refl _ _).drew),?_,?_,fun _ _=>rfl,rfl,rfl⟩ ?_)
 ·intro i j v w w' au hd H hF;by_cases hi:∃p∈D,p.1=i
  ·obtain⟨p,F,rfl⟩:=hi;have hs:=ew' (dO' ac p F) j (by omega) (by rw[Nat.zero_add];exact hd);exact hs v w w' H (hF.mono (fun b _ h=>by obtain⟨q,M,e,r⟩:=h;rw[iZ' X F M e.symm];exact r))
  ·exact bo' ab j v w w' H (hF.below (Nat.le_refl _) (fun k _ h=>by obtain⟨q,M,e,_⟩:=h;exact hi ⟨q,M,e⟩))
 ·intro i o G a w r ai;have aj:i < ops.size:=(Array.getElem?_eq_some_iff.1 G).1;have ak:I[i]? =some ((o.looksAt ops).map fun t=>(t,match wr ops t with
     |some j=>if av' ops i j=true then some j else none
     |none=>none)):=by
   rw[<-Z];unfold bZ';rw[List.getElem?_map,List.getElem?_range aj,Option.map_some,G];try rfl
  have:=gH' ad i o _ (by simpa using G) ak a w (by rw[Nat.zero_add];exact r.mono (fun b _ h=>by obtain⟨k,h1,h2,p,F,rfl,h3⟩:=h;exact⟨p,F,h1,h2,h3⟩)) (bk' rfl (o:=o) _ ai);rw[Nat.zero_add]at this;exact this
 ·intro a w r H ao hd hs;have h:=ah (fun t=>a.tmps.getD t undef) w (r.mono (fun b _ h=>by obtain⟨k,p,F,_,h3⟩:=h;exact⟨p,F,h3⟩)) (by rw[<-aa];exact eX' (fun i o G=>H i o (by simpa using G)));have e:Y' J a0.tmps.toList 0 (fun t=>a.tmps.getD t undef)=a.tmps.toList:=by
   refine ck' _ _ _ _ _ (by rw[<-U];simp[bl']) (by simpa using hs) ?_ ?_
   ·intro j hj _;simp[Array.getD_eq_getD_getElem?,List.getD_eq_getElem?_getD]
   ·intro j hj r;rw[<-U]at r;have ap:j < a0.tmps.size:=by rw[<-hs];simpa using hj
    have aq:wr ops j=none:=by unfold bl' at r;simp[List.getD_eq_getElem?_getD,List.getElem?_map,List.getElem?_range ap]at r;exact r
    have:=ao j aq;simpa[Array.getD_eq_getD_getElem?,List.getD_eq_getElem?_getD]using this
  rw[e,<-hd]at h;exact h
 ·intro k z;simp[Array.getD_eq_getD_getElem?]at z;rcases h:(Array.replicate ops.size false)[k]? with _|b <;> simp[h]at z;subst z;have:=Array.getElem?_eq_some_iff.1 h;obtain⟨h1,h2⟩:=this;simp at h2
 ·intro i o G z;exfalso;simp[Array.getD_eq_getD_getElem?]at z;rcases h:(Array.replicate ops.size false)[i]? with _|b <;> simp[h]at z;subst z;have:=Array.getElem?_eq_some_iff.1 h;obtain⟨h1,h2⟩:=this;simp at h2
 ·exact Nat.le_trans List.countP_le_length (by simp)
end
theorem hy' (e s:Nat) (f:Mod.Flow) (t:Nat):∀k,(Mod.sendTo e s f t k).1.map (·.1)=f.kept.map (·.1)
 |0=>rfl
 |k+1=>by
  have ih:=hy' e s f t k;by_cases h:k < f.kept.length
  ·cases hd:Mod.due f t k f.kept[k].2 with
   |false=>rw[en' h hd];exact ih
   |true=>
    rw[eo' h hd];simp only[List.map_set,ih];refine List.ext_getElem? fun n=>?_;rw[List.getElem?_set];by_cases r:k=n
    ·subst r;rw[if_pos rfl,if_pos (by simpa using h),List.getElem?_map,List.getElem?_eq_getElem h];rfl
    ·rw[if_neg r]
  ·rw[aW' (by omega)];exact ih
def bN' (a:Mod.Ag) (i tk k:Nat):List ByteArray:=(Mod.sendTo a.epoch i (a.fl i) tk k).2.map fun l=>⟨l.toArray⟩
theorem qc' {a:Mod.Ag} {i tk k:Nat} (r:k < (a.fl i).kept.length) (hd:Mod.due (a.fl i) tk k (a.fl i).kept[k].2=true):bN' a i tk (k+1)=bN' a i tk k++[⟨(Wire.bytes 3 a.epoch i ((a.fl i).base+1+k:Nat) (a.fl i).kept[k].1.data.toList).toArray⟩]:=by
 unfold bN';rw[eo' r hd];simp
theorem qd' {a:Mod.Ag} {i tk k:Nat} (r:k < (a.fl i).kept.length) (hd:Mod.due (a.fl i) tk k (a.fl i).kept[k].2=false):bN' a i tk (k+1)=bN' a i tk k:=by
 unfold bN';rw[en' r hd]
theorem qe' {a:Mod.Ag} {i tk k:Nat} (h:k=min 4 (a.fl i).kept.length):bN' a i tk 4=bN' a i tk k:=by
 unfold bN';rw[jP' (i:=k) (by omega) (by omega)]
section
variable {w W:World} {g0 p i:Nat} {c:Av} {st:Mod.Stv} {g:Nat->Nat} {free:List Nat} {sh:Nat->List (Nat×Value)} {pl:Nat->List Nat} {F:List ByteArray} {a:Mod.Ag} {tk k:Nat}
theorem cr'.iterK (h:cr' w g0 p i c st g free pl F (aJ' a i tk k) W) (hi:i < 3):of' W (g0+4) p (4+i * 6) 4 (c.nv (i * 3)) (c.mv (i * 3)) (aE' (a.fl i).base (a.fl i).kept (pl i)):=by
 have:=h.iter hi;rw[dK']at this;rw[fd' (a.fl i).base (a.fl i).kept (Mod.sendTo a.epoch i (a.fl i) tk k).1 (pl i) (hy' _ _ _ _ _).symm];exact this
theorem qf' (r:aC' w p g a.ticks a.welcome a.fenced free sh st c) (D:aQ' a st.opening g free sh pl) (G:g0=w.heap.size) (H:Below g0 w W)
  (h0:W.heap[g0]? =some (.cells #[.pointer (some ⟨p,0,none⟩)] 74 (0,0)))
  (h1:W.heap[g0+1]? =some (.cells #[.int .i64 i] 3 (0,0)))
  (h2:W.heap[g0+2]? =some (.cells #[.slice none 0 0] 32 (0,0)))
  (h3:W.heap[g0+3]? =some (.cells #[.pointer (some ⟨p,4+i * 6,none⟩)] 193 (0,0)))
  (h4:W.heap[g0+4]? =some (.cells #[.pointer (some ⟨p,4+i * 6,none⟩)] 197 (0,0)))
  (h5:W.heap[g0+5]? =some (.cells #[.int .i64 4] 3 (0,0))) (I:g0+8<=W.heap.size):
  cr' w g0 p i c st g free pl (bN' a i tk 0) (aJ' a i tk 0) W:=by
 have z:Below w.heap.size w W:=by rw[<-G];exact H
 rw[pV'];refine⟨h0,h1,h3,h4,h5,⟨_,[],c,sh,h2,⟨rfl,World.ownsRow_nil _ _ _ _,(fun j v hj=>by simp at hj),(fun i j u v hi=>by simp at hi),fun k J=>?_⟩,r.below z,D,C' z,fun j hj=> .inl hj,rfl,rfl,rfl,rfl⟩,I,fun j hj=>by have:=r.lt j hj;omega,by omega⟩;rcases J with h|⟨j,hj,_⟩
 ·cases h
 ·simp at hj
end
section
variable {w W z:World} {g0 p i:Nat} {c c':Av} {st:Mod.Stv} {g:Nat->Nat} {free:List Nat} {sh:Nat->List (Nat×Value)} {pl:Nat->List Nat} {F:List ByteArray} {A:Mod.Ag} {lv lv' v:Value} {fs:List Value} {b:ByteArray}
theorem uc' (h:cr' w g0 p i c st g free pl F A W) (ao:W.heap[g0+2]? =some (.cells #[lv] 32 (0,0))) (D:Q' (g0+8) W lv fs F (PaU p c')) (Q:aC' W p g A.ticks A.welcome A.fenced free sh st c') (ap:aQ' A st.opening g free sh pl) (aq:Far (PaU p c) w W)
  (ad:∀j,PaU p c' j->PaU p c j\/g0+8<=j) (au:c'.s=c.s) (av:c'.rv=c.rv) (ax:c'.nv (i * 3)=c.nv (i * 3)) (ay:c'.mv (i * 3)=c.mv (i * 3))
  (hF:Far (fun k=>lv.ownBlock=some k) W z) (ah:ax' W.heap.size z v b.data.toList) (ai:z.ownsRow (g0+8) 48 1 lv' (fs.length+1) (fs++[v])) (hl:∀k,lv'.ownBlock=some k->lv.ownBlock=some k\/W.heap.size<=k):
  cr' w g0 p i c st g free pl (F++[b]) A (z.setCell ⟨g0+2,0,none⟩ lv'):=by
 have U:=S' z (g0+2) 0 lv';have aj:=h.sz;have aJ:=h.gw;have aK:=hF.size;have V:∀k,lv.ownBlock=some k->g0+8<=k/\k < W.heap.size:=fun k r=>D.lt k (.inl r);have I:Far (fun k=>lv.ownBlock=some k\/k=g0+2) W (z.setCell ⟨g0+2,0,none⟩ lv'):=(hF.mono (fun _ _ h=> .inl h)).trans U (fun _ _ h=> .inr h);have az:∀k,PaU p c' k->¬ (lv.ownBlock=some k\/k=g0+2):=fun k r e=>by
  rcases e with e|e
  ·exact D.clear k (.inl e) r
  ·rcases ad k r with h1|h1
   ·have:=h.lo k h1;omega
   ·omega
 have J:∀k,k≠g0+2->k < g0+8->(z.setCell ⟨g0+2,0,none⟩ lv').heap[k]? =W.heap[k]? :=fun k h1 h2=>I.rest k (by omega) (fun e=>e.elim (fun e=>by have:=(V k e).1;omega) (fun e=>h1 e));have aA:=D.len;have M:∀k,v.ownBlock=some k->W.heap.size<=k/\k < z.heap.size:=fun k r=>World.ownsRow.lt ah k r;have X:∀ (j:Nat) (u:Value),fs[j]? =some u->∀k,u.ownBlock=some k->g0+8<=k/\k < W.heap.size/\lv.ownBlock≠some k:=fun j u hj k r=>by have h1:=World.ownsRow.lt (D.each j u hj) k r;exact⟨h1.1,h1.2,uG' (wq' (D.each j u hj)) (wq' D.row) (by decide) r⟩
 have aB:Q' (g0+8) (z.setCell ⟨g0+2,0,none⟩ lv') lv' (fs++[v]) (F++[b]) (PaU p c'):=by
  refine⟨by simp[aA],?_,fun j u hj=>?_,fun Y Z u1 u2 aC aD aE k aa ab=>?_,fun k r hu=>?_⟩
  ·have:=R' ai (w':=z.setCell ⟨g0+2,0,none⟩ lv') (fun k r=>by have:=World.ownsRow.lt ai k r;exact U.rest k this.2 (by omega));simpa using this
  ·by_cases G:j < fs.length
   ·rw[List.getElem?_append_left G]at hj;have e:((F++[b]).map fun b=>b.data.toList).getD j []=(F.map fun b=>b.data.toList).getD j []:=by rw[List.getD_eq_getElem?_getD,List.getD_eq_getElem?_getD,List.map_append,List.getElem?_append_left (by simp;omega)]
    rw[e];exact R' (D.each j u hj) (fun k r=>by obtain⟨h1,h2,h3⟩:=X j u hj k r;exact I.rest k h2 (fun e=>e.elim h3 (fun e=>by omega)))
   ·rw[List.getElem?_append_right (by omega)]at hj;have ac:j - fs.length=0:=by
     cases hd:j - fs.length with
     |zero=>rfl
     |succ n=>rw[hd]at hj;simp at hj
    rw[ac]at hj;simp at hj;subst hj;have e:((F++[b]).map fun b=>b.data.toList).getD j []=b.data.toList:=by rw[List.getD_eq_getElem?_getD,List.map_append,List.getElem?_append_right (by simp;omega)];simp[show j - F.length=0 by omega]
    rw[e];refine au' (R' ah (fun k r=>?_)) (Nat.le_trans aj (Nat.le_refl _));have:=M k r;exact U.rest k this.2 (by omega)
  ·have ak:∀ (j:Nat) (u:Value),(fs++[v])[j]? =some u->(fs[j]? =some u/\j < fs.length)\/(u=v/\j=fs.length):=fun j u hj=>by
    by_cases G:j < fs.length
    ·rw[List.getElem?_append_left G]at hj;exact .inl ⟨hj,G⟩
    ·rw[List.getElem?_append_right (by omega)]at hj;cases hd:j - fs.length with
     |zero=>rw[hd]at hj;simp at hj;exact .inr ⟨hj.symm,by omega⟩
     |succ n=>rw[hd]at hj;simp at hj
   rcases ak Y u1 aC with ⟨a1,aF⟩|⟨a1,aF⟩ <;> rcases ak Z u2 aD with ⟨O,aG⟩|⟨O,aG⟩
   ·exact D.apart Y Z u1 u2 a1 O aE k aa ab
   ·subst O;have:=X Y u1 a1 k aa;have:=M k ab;omega
   ·subst a1;have:=X Z u2 O k ab;have:=M k aa;omega
   ·omega
  ·rcases r with r|⟨j,hj,u,H,r⟩
   ·rcases hl k r with h1|h1
    ·exact D.clear k (.inl h1) hu
    ·have:=Q.lt k hu;omega
   ·by_cases G:j < fs.length
    ·rw[List.getElem?_append_left G]at H;exact D.clear k (.inr ⟨j,G,u,H,r⟩) hu
    ·rw[List.getElem?_append_right (by omega)]at H;have ac:j - fs.length=0:=by simp at hj;omega
     rw[ac]at H;simp at H;subst H;have:=M k r;have:=Q.lt k hu;omega
 have aH:(z.setCell ⟨g0+2,0,none⟩ lv').heap[g0+2]? =some (.cells #[lv'] 32 (0,0)):=by have aI:z.heap[g0+2]? =some (.cells #[lv] 32 (0,0)):=(hF.rest (g0+2) (by omega) (fun e=>by have:=(V _ e).1;omega)).trans ao;have:=ah' (j:=0) (v:=lv') aI;simpa using this
 exact⟨(J _ (by omega) (by omega)).trans h.h0,(J _ (by omega) (by omega)).trans h.h1,(J _ (by omega) (by omega)).trans h.h3,(J _ (by omega) (by omega)).trans h.h4,(J _ (by omega) (by omega)).trans h.h5,
  ⟨lv',fs++[v],c',sh,aH,aB,Q.far I az,ap,aq.trans I (fun k r e=>e.elim (fun e=>by have:=(V k e).1;omega) (fun e=>by omega)),ad,au,av,ax,ay⟩,Nat.le_trans aj I.size,h.lo,h.gw⟩
end
section
variable {P:Program} {ops:Array Oper} {Q:Exit->Act->World->Prop} {lr n:Nat}
theorem sb' {a0:Act} {w0:World} (F:Nat->Value->World->Prop) (Y:bz' ops a0.tmps.size=true)
  (aA:∀i v w w',F i v w->Below w.heap.size w w'->F i v w')
  (aB:∀i o,ops[i]? =some o->∀a w,Below w0.heap.size w0 w->bw' ops F a0 i o a w->
   if Region.wanted o (yielded ops a.tmps)=true then Oper.wpIn (Fence.wide.inRound lr) n P o a w (fun a' w'=>∃v,a'=a.put o.dst v/\Below w.heap.size w w'/\F i v w') Q else F i undef w)
  (aC:∀a w,Below w0.heap.size w0 w->(∀i o d,ops[i]? =some o->o.dst=some d->F i (a.tmps.getD d undef) w)->(∀t,wr ops t=none->a.tmps.getD t undef=a0.tmps.getD t undef)->a.defers=a0.defers->a.tmps.size=a0.tmps.size->Q .normal a w):
  ∀ (J:Nat) (L:Array Bool) (a:Act) (w:World),bx' ops F a0 w0 L a w->(List.range ops.size).countP (fun i=> !L.getD i false)<=J->wpAnyIn (Fence.wide.inRound lr) n P .any ops Q J L a w:=by
 have ao:∀ (L:Array Bool) (a:Act) (w:World),bx' ops F a0 w0 L a w->Region.ready .any ops L=[]->Q .normal a w:=by
  intro L a w r U;have aD:∀n i,i < n->i < ops.size->L.getD i false=true:=by
   intro n;induction n with
   |zero=>intro i h;omega
   |succ n ih=>
    intro i h hi;by_cases aE:i < n
    ·exact ih i aE hi
    ·have e:i=n:=by omega
     subst e;cases ap:L.getD i false
     ·exfalso;have D:ops[i]? =some ops[i]:=Array.getElem?_eq_getElem hi;obtain⟨_,_,h3⟩:=al' Y D;have:i∈Region.ready .any ops L:=mem_ready.2 ⟨by
       have hs:i < L.size:=by rw[r.size];exact hi
       rw[Array.getD_eq_getD_getElem?,Array.getElem?_eq_getElem hs]at ap ⊢;exact ap,ops[i],D,fun e Z G=>by
       have hd:av' ops i e.on=true:=by unfold av';rw[D];exact Array.any_eq_true'.2 ⟨e,Z,by simp[G]⟩
       have I:=h3 _ hd;exact ih e.on I (by omega)⟩
      rw[U]at this;cases this
     ·rfl
  refine aC a w r.ext (fun i o d D hd=>r.vals i o d D hd (aD ops.size i (Array.getElem?_eq_some_iff.1 D).1 (Array.getElem?_eq_some_iff.1 D).1)) (fun t M=>r.rest t (fun j hj=>by rw[M]at hj;cases hj)) r.defers r.tsize
 intro J;induction J with
 |zero=>
  intro L a w r aF;have U:Region.ready .any ops L=[]:=by
   apply List.eq_nil_iff_forall_not_mem.2;intro i hi;obtain⟨h0,o,D,_⟩:=mem_ready.1 hi;have I:i < ops.size:=(Array.getElem?_eq_some_iff.1 D).1;have O:L.getD i false=false:=by
    have hs:i < L.size:=by rw[r.size];exact I
    rw[Array.getD_eq_getD_getElem?,Array.getElem?_eq_getElem hs]at h0 ⊢;exact h0
   have:0 < (List.range ops.size).countP (fun i=> !L.getD i false):=List.countP_pos_iff.2 ⟨i,List.mem_range.2 I,by simp[O]⟩;omega
  exact⟨U,ao L a w r U⟩
 |succ J ih=>
  intro L a w r aF;refine⟨ao L a w r,fun i hi=>?_⟩;obtain⟨h0,o,D,aG⟩:=mem_ready.1 hi;have I:i < ops.size:=(Array.getElem?_eq_some_iff.1 D).1;have aa:i < L.size:=by rw[r.size];exact I
  have O:L.getD i false=false:=by rw[Array.getD_eq_getD_getElem?,Array.getElem?_eq_getElem aa]at h0 ⊢;exact h0
  obtain⟨hd,hl,aL⟩:=al' Y D;have aq:∀j,av' ops i j=true->L.getD j false=true:=by intro j hj;unfold av' at hj;rw[D]at hj;obtain⟨e,Z,G⟩:=Array.any_eq_true'.1 hj;simp only[Bool.and_eq_true,beq_iff_eq]at G;rw[<-G.2];exact aG e Z G.1
  have aH:bw' ops F a0 i o a w:=by
   intro t M;cases H:wr ops t with
   |none=>exact r.rest t (fun j hj=>by rw[H]at hj;cases hj)
   |some j=>
    simp only[];have hj:=List.find?_some H;simp only[beq_iff_eq]at hj;split
    ·rename_i ab;cases ac:ops[j]? with
     |none=>rw[ac]at hj;cases hj
     |some aI=>rw[ac]at hj;exact r.vals j aI t ac hj (aq j ab)
    ·rename_i ab;refine r.rest t (fun aM au=>?_);rw[H]at au;cases au;rcases hl t M j H with h|h
     ·exact absurd h ab
     ·cases ad:L.getD j false
      ·rfl
      ·have:=r.closed j ad i h;rw[O]at this;cases this
  have av:∀v w',Below w.heap.size w w'->F i v w'->bx' ops F a0 w0 (L.setIfInBounds i true) (a.put o.dst v) w':=by
   intro v w' G ah;have V:∀k,(L.setIfInBounds i true).getD k false=true↔ (k=i\/L.getD k false=true):=by
    intro k;by_cases z:k=i
    ·subst z;simp[Array.getD_eq_getD_getElem?,aa]
    ·rw[getD_set_ne false (fun e=>z e.symm)];simp[z]
   have ax:∀t,(a.put o.dst v).tmps.getD t undef=if o.dst=some t then v else a.tmps.getD t undef:=by
    intro t;cases aJ:o.dst with
    |none=>simp[Act.put]
    |some d=>
     simp only[Act.put,Option.some.injEq];have aK:d < a.tmps.size:=by rw[r.tsize];exact(hd d aJ).1
     by_cases h:d=t
     ·subst h;simp[Array.getD_eq_getD_getElem?,aK]
     ·simp[Array.getD_eq_getD_getElem?,h]
   refine⟨by simp[r.size],r.ext.trans (G.mono r.ext.size),?_,?_,?_,?_,?_⟩
   ·intro k z j hj;rw[V]at z ⊢;rcases z with rfl|z
    ·exact .inr (aq j hj)
    ·exact .inr (r.closed k z j hj)
   ·intro k ok d X ai z;rw[V]at z;rw[ax];rcases z with rfl|z
    ·rw[D]at X;cases X;rw[if_pos ai];exact ah
    ·have aj:o.dst≠some d:=by intro e;have h1:=(hd d e).2;have h2:=((al' Y X).1 d ai).2;rw[h1]at h2;cases h2;rw[O]at z;cases z
     rw[if_neg aj];exact aA k _ _ _ (r.vals k ok d X ai z) G
   ·intro t M;rw[ax];have aj:o.dst≠some t:=by intro e;have:=M i (hd t e).2;have h2:=(V i).2 (.inl rfl);rw[this]at h2;cases h2
    rw[if_neg aj];refine r.rest t (fun j hj=>?_);cases ad:L.getD j false
    ·rfl
    ·have:=M j hj;rw[(V j).2 (.inr ad)]at this;cases this
   ·cases o.dst <;> exact r.defers
   ·rw[<-r.tsize];cases o.dst <;> simp[Act.put]
  have ay:(List.range ops.size).countP (fun k=> !(L.setIfInBounds i true).getD k false)<=J:=by
   have:=cj' (l:=List.range ops.size) (p:=fun k=> !L.getD k false) (q:=fun k=> !(L.setIfInBounds i true).getD k false)
    (fun k _ z=>by
     by_cases az:k=i
     ·subst az;simp[O]
     ·rw[getD_set_ne false (fun e=>az e.symm)]at z;exact z)
    ⟨i,List.mem_range.2 I,by simp[O],by simp[Array.getD_eq_getD_getElem?,aa]⟩
   omega
  have ak:=aB i o D a w r.ext aH;unfold wpOpIn;rw[D];simp only[];split at ak
  ·rename_i H;rw[if_pos H];refine Oper.wpIn_mono ?_ ak;rintro a' w' ⟨v,rfl,G,ah⟩;exact ih _ _ _ (av v w' G ah) ay
  ·rename_i H;rw[if_neg H];exact⟨fun _ _=>trivial,ih _ _ _ (av undef w (Below.refl _ _) ak) ay⟩
theorem kt' {a0:Act} {w0:World} (D:Nat->Value->World->Prop) (Y:bz' ops a0.tmps.size=true) (last:Nat) (bb:ops.size=last+1) (au:eU' ops last=true)
  (aH:∀i v w w',D i v w->Below w.heap.size w w'->D i v w')
  (aI:∀i o,i < last->ops[i]? =some o->∀a w,Below w0.heap.size w0 w->bw' ops D a0 i o a w->
   if Region.wanted o (yielded ops a.tmps)=true then Oper.wpIn (Fence.wide.inRound lr) n P o a w (fun a' w'=>∃v,a'=a.put o.dst v/\Below w.heap.size w w'/\D i v w') Q else D i undef w)
  (aJ:∀a w,Below w0.heap.size w0 w->(∀i o d,i < last->ops[i]? =some o->o.dst=some d->D i (a.tmps.getD d undef) w)->(∀t,(∀j,wr ops t=some j->j=last)->a.tmps.getD t undef=a0.tmps.getD t undef)->a.defers=a0.defers->a.tmps.size=a0.tmps.size->wpOpIn (Fence.wide.inRound lr) n P ops Q last (Q .normal) a w):
  ∀ (M:Nat) (L:Array Bool) (a:Act) (w:World),bx' ops D a0 w0 L a w->L.getD last false=false->(List.range ops.size).countP (fun i=> !L.getD i false)<=M->wpAnyIn (Fence.wide.inRound lr) n P .any ops Q M L a w:=by
 have aK:∀ (L:Array Bool) (a:Act) (w:World),bx' ops D a0 w0 L a w->L.getD last false=false->Region.ready .any ops L=[]->False:=by
  intro L a w r I aL;have Z:∀n i,i < n->i < ops.size->L.getD i false=true:=by
   intro n;induction n with
   |zero=>intro i h;omega
   |succ n ih=>
    intro i h hi;by_cases aM:i < n
    ·exact ih i aM hi
    ·have e:i=n:=by omega
     subst e;cases av:L.getD i false
     ·exfalso;have F:ops[i]? =some ops[i]:=Array.getElem?_eq_getElem hi;obtain⟨_,_,h3⟩:=al' Y F;have:i∈Region.ready .any ops L:=mem_ready.2 ⟨by
       have hs:i < L.size:=by rw[r.size];exact hi
       rw[Array.getD_eq_getD_getElem?,Array.getElem?_eq_getElem hs]at av ⊢;exact av,ops[i],F,fun e ad G=>by
       have hd:av' ops i e.on=true:=by unfold av';rw[F];exact Array.any_eq_true'.2 ⟨e,ad,by simp[G]⟩
       have U:=h3 _ hd;exact ih e.on U (by omega)⟩
      rw[aL]at this;cases this
     ·rfl
  have:=Z ops.size last (by omega) (by omega);rw[I]at this;cases this
 have aN:∀ (L:Array Bool) (a:Act) (w:World),bx' ops D a0 w0 L a w->(∀j,av' ops last j=true->L.getD j false=true)->∀n i,last<=i+n->i < last->L.getD i false=true:=by
  intro L a w r V n;induction n with
  |zero=>intro i h hi;omega
  |succ n ih=>
   intro i h hi;unfold eU' at au;have h1:=List.all_eq_true.1 au i (List.mem_range.2 hi);obtain⟨k,z,hd⟩:=List.any_eq_true.1 h1;have bc:k < last+1:=List.mem_range.1 z;by_cases aO:k=last
   ·subst aO;exact V i hd
   ·have U:i < k:=by
     unfold av' at hd;cases J:ops[k]? with
     |none=>rw[J]at hd;cases hd
     |some ok=>obtain⟨_,_,h3⟩:=al' Y J;exact h3 i (by unfold av';exact hd)
    exact r.closed k (ih k (by omega) (by omega)) i hd
 intro M;induction M with
 |zero=>intro L a w r I aP;have:0 < (List.range ops.size).countP (fun i=> !L.getD i false):=List.countP_pos_iff.2 ⟨last,List.mem_range.2 (by omega),by simp only[I];rfl⟩;omega
 |succ M ih=>
  intro L a w r I aP;refine⟨fun h=>(aK L a w r I h).elim,fun i hi=>?_⟩;obtain⟨h0,o,F,aQ⟩:=mem_ready.1 hi;have U:i < ops.size:=(Array.getElem?_eq_some_iff.1 F).1;have aa:i < L.size:=by rw[r.size];exact U
  have ab:L.getD i false=false:=by rw[Array.getD_eq_getD_getElem?,Array.getElem?_eq_getElem aa]at h0 ⊢;exact h0
  obtain⟨hd,hl,be⟩:=al' Y F;have V:∀j,av' ops i j=true->L.getD j false=true:=by intro j hj;unfold av' at hj;rw[F]at hj;obtain⟨e,ad,G⟩:=Array.any_eq_true'.1 hj;simp only[Bool.and_eq_true,beq_iff_eq]at G;rw[<-G.2];exact aQ e ad G.1
  by_cases ax:i=last
  ·subst ax;have Z:=aN L a w r V i;refine wpOpIn_mono ?_ (aJ a w r.ext (fun j aR d hj aS aT=>r.vals j aR d aS aT (Z j (by omega) hj)) (fun t O=>r.rest t (fun j hj=>by rw[O j hj];exact I)) r.defers r.tsize);intro a' w' aU;refine wpAnyIn_done ?_ aU _;apply List.eq_nil_iff_forall_not_mem.2;intro j hj;obtain⟨ay,az,X,_⟩:=mem_ready.1 hj;have aV:j < ops.size:=(Array.getElem?_eq_some_iff.1 X).1;have aW:j < L.size:=by rw[r.size];exact aV
   have ah:(L.setIfInBounds i true).getD j false=false:=by rw[Array.getD_eq_getD_getElem?,Array.getElem?_eq_getElem (by simpa using aW)]at ay ⊢;exact ay
   by_cases aA:j=i
   ·subst aA;simp[Array.getD_eq_getD_getElem?,aa]at ah
   ·rw[getD_set_ne false (fun e=>aA e.symm),Z j (by omega) (by omega)]at ah;cases ah
  have aX:i < last:=by omega
  have aY:bw' ops D a0 i o a w:=by
   intro t O;cases H:wr ops t with
   |none=>exact r.rest t (fun j hj=>by rw[H]at hj;cases hj)
   |some j=>
    simp only[];have hj:=List.find?_some H;simp only[beq_iff_eq]at hj;split
    ·rename_i ai;cases X:ops[j]? with
     |none=>rw[X]at hj;cases hj
     |some az=>rw[X]at hj;exact r.vals j az t X hj (V j ai)
    ·rename_i ai;refine r.rest t (fun bf aB=>?_);rw[H]at aB;cases aB;rcases hl t O j H with h|h
     ·exact absurd h ai
     ·cases aj:L.getD j false
      ·rfl
      ·have:=r.closed j aj i h;rw[ab]at this;cases this
  have aC:∀v w',Below w.heap.size w w'->D i v w'->bx' ops D a0 w0 (L.setIfInBounds i true) (a.put o.dst v) w':=by
   intro v w' G ak;have ac:∀k,(L.setIfInBounds i true).getD k false=true↔ (k=i\/L.getD k false=true):=by
    intro k;by_cases z:k=i
    ·subst z;simp[Array.getD_eq_getD_getElem?,aa]
    ·rw[getD_set_ne false (fun e=>z e.symm)];simp[z]
   have aD:∀t,(a.put o.dst v).tmps.getD t undef=if o.dst=some t then v else a.tmps.getD t undef:=by
    intro t;cases aZ:o.dst with
    |none=>simp[Act.put]
    |some d=>
     simp only[Act.put,Option.some.injEq];have ba:d < a.tmps.size:=by rw[r.tsize];exact(hd d aZ).1
     by_cases h:d=t
     ·subst h;simp[Array.getD_eq_getD_getElem?,ba]
     ·simp[Array.getD_eq_getD_getElem?,h]
   refine⟨by simp[r.size],r.ext.trans (G.mono r.ext.size),?_,?_,?_,?_,?_⟩
   ·intro k z j hj;rw[ac]at z ⊢;rcases z with rfl|z
    ·exact .inr (V j hj)
    ·exact .inr (r.closed k z j hj)
   ·intro k ok d J ao z;rw[ac]at z;rw[aD];rcases z with rfl|z
    ·rw[F]at J;cases J;rw[if_pos ao];exact ak
    ·have ap:o.dst≠some d:=by intro e;have h1:=(hd d e).2;have h2:=((al' Y J).1 d ao).2;rw[h1]at h2;cases h2;rw[ab]at z;cases z
     rw[if_neg ap];exact aH k _ _ _ (r.vals k ok d J ao z) G
   ·intro t O;rw[aD];have ap:o.dst≠some t:=by intro e;have:=O i (hd t e).2;have h2:=(ac i).2 (.inl rfl);rw[this]at h2;cases h2
    rw[if_neg ap];refine r.rest t (fun j hj=>?_);cases aj:L.getD j false
    ·rfl
    ·have:=O j hj;rw[(ac j).2 (.inr aj)]at this;cases this
   ·cases o.dst <;> exact r.defers
   ·rw[<-r.tsize];cases o.dst <;> simp[Act.put]
  have aE:(List.range ops.size).countP (fun k=> !(L.setIfInBounds i true).getD k false)<=M:=by
   have:=cj' (l:=List.range ops.size) (p:=fun k=> !L.getD k false) (q:=fun k=> !(L.setIfInBounds i true).getD k false)
    (fun k _ z=>by
     by_cases aF:k=i
     ·subst aF;simp[ab]
     ·rw[getD_set_ne false (fun e=>aF e.symm)]at z;exact z)
    ⟨i,List.mem_range.2 U,by simp[ab],by simp[Array.getD_eq_getD_getElem?,aa]⟩
   omega
  have aG:(L.setIfInBounds i true).getD last false=false:=by rw[getD_set_ne false ax];exact I
  have aq:=aI i o aX F a w r.ext aY;unfold wpOpIn;rw[F];simp only[];split at aq
  ·rename_i H;rw[if_pos H];refine Oper.wpIn_mono ?_ aq;rintro a' w' ⟨v,rfl,G,ak⟩;exact ih _ _ _ (aC v w' G ak) aG aE
  ·rename_i H;rw[if_neg H];exact⟨fun _ _=>trivial,ih _ _ _ (aC undef w (Below.refl _ _) aq) aG aE⟩
theorem jp' {id:Nat} {a0:Act} {w0:World} (D:P.follows .mixedOrders=true) (r:Nat->Value->World->Prop) (F:bz' ops a0.tmps.size=true)
  (G:∀i v w w',r i v w->Below w.heap.size w w'->r i v w')
  (H:∀i o,ops[i]? =some o->∀a w,Below w0.heap.size w0 w->bw' ops r a0 i o a w->
   if Region.wanted o (yielded ops a.tmps)=true then Oper.wpIn (Fence.wide.inRound lr) n P o a w (fun a' w'=>∃v,a'=a.put o.dst v/\Below w.heap.size w w'/\r i v w') Q else r i undef w)
  (I:∀a w,Below w0.heap.size w0 w->(∀i o d,ops[i]? =some o->o.dst=some d->r i (a.tmps.getD d undef) w)->(∀t,wr ops t=none->a.tmps.getD t undef=a0.tmps.getD t undef)->a.defers=a0.defers->a.tmps.size=a0.tmps.size->Q .normal a w):
  (Code.region id ops true).wpIn (Fence.wide.inRound lr) n P Q a0 w0:=by
 refine wpIn_region_any D (sb' (w0:=w0) r F G H I ops.size _ a0 _ ⟨by simp,(Below.refl _ _).drew,?_,?_,fun _ _=>rfl,rfl,rfl⟩ ?_)
 ·intro k z;simp[Array.getD_eq_getD_getElem?]at z;rcases h:(Array.replicate ops.size false)[k]? with _|b <;> simp[h]at z;subst z;have:=Array.getElem?_eq_some_iff.1 h;obtain⟨h1,h2⟩:=this;simp at h2
 ·intro i o d J hd z;exfalso;simp[Array.getD_eq_getD_getElem?]at z;rcases h:(Array.replicate ops.size false)[i]? with _|b <;> simp[h]at z;subst z;have:=Array.getElem?_eq_some_iff.1 h;obtain⟨h1,h2⟩:=this;simp at h2
 ·exact Nat.le_trans List.countP_le_length (by simp)
def eP' (lr n:Nat) (P:Program) (ops:Array Oper) (Q:Exit->Act->World->Prop) (L:List (Value->World->Prop)) (a0:Act) (w0:World):List Oper->List (List (Tmp×Option Nat))->List (Value->World->Prop)->Prop
 |o::os,z::D,r::F=>(∀a w,Below w0.heap.size w0 w->M' L a0 a w z->
   if Region.wanted o (yielded ops a.tmps)=true then Oper.wpIn (Fence.wide.inRound lr) n P o a w (fun a' w'=>∃v,a'=a.put o.dst v/\Below w.heap.size w w'/\r v w') Q else r undef w)/\eP' lr n P ops Q L a0 w0 os D F
 |[],_,_=>True
 | _,_,_=>False
theorem eF' {L:List (Value->World->Prop)} {a0:Act} {w0:World}:∀ {os:List Oper} {D:List (List (Tmp×Option Nat))} {F:List (Value->World->Prop)},eP' lr n P ops Q L a0 w0 os D F->
  ∀ (i:Nat) o r,os[i]? =some o->D[i]? =some r->∀a w,Below w0.heap.size w0 w->M' L a0 a w r->
   if Region.wanted o (yielded ops a.tmps)=true then Oper.wpIn (Fence.wide.inRound lr) n P o a w (fun a' w'=>∃v,a'=a.put o.dst v/\Below w.heap.size w w'/\F.getD i (fun _ _=>True) v w') Q else F.getD i (fun _ _=>True) undef w
 |[],_,_,_,i,o,r,z,_=>by simp at z
 |o::os,[],_,h,_,_,_,_,_=>h.elim
 |o::os,r::D,[],h,_,_,_,_,_=>h.elim
 |o::os,r::D,I::F,h,0,H,pl',z,G=>by simp at z G;subst z;subst G;exact h.1
 |o::os,r::D,I::F,h,i+1,H,pl',z,G=>eF' h.2 i H pl' (by simpa using z) (by simpa using G)
theorem iq' {id:Nat} {a0:Act} {w0:World} (D:P.follows .mixedOrders=true) (L:List (Value->World->Prop)) (r:List (List (Tmp×Option Nat))) (F:bz' ops a0.tmps.size=true)
  (G:bZ' ops=r) (H:bD' L) (I:eP' lr n P ops Q L a0 w0 ops.toList r L)
  (J:∀a w,Below w0.heap.size w0 w->(∀i o d,ops[i]? =some o->o.dst=some d->L.getD i (fun _ _=>True) (a.tmps.getD d undef) w)->(∀t,wr ops t=none->a.tmps.getD t undef=a0.tmps.getD t undef)->a.defers=a0.defers->a.tmps.size=a0.tmps.size->Q .normal a w):
  (Code.region id ops true).wpIn (Fence.wide.inRound lr) n P Q a0 w0:=by
 refine jp' D (fun i=>L.getD i (fun _ _=>True)) F (fun i=>bo' H i) ?_ J;intro i o z a w M O;have U:i < ops.size:=(Array.getElem?_eq_some_iff.1 z).1;have V:r[i]? =some ((o.looksAt ops).map fun t=>(t,match wr ops t with
    |some j=>if av' ops i j=true then some j else none
    |none=>none)):=by
  rw[<-G];unfold bZ';rw[List.getElem?_map,List.getElem?_range U,Option.map_some,z];rfl
 exact eF' I i o _ (by simpa using z) V a w M (bk' rfl (o:=o) _ O)
theorem ir' {id:Nat} {a0:Act} {w0:World} (H:P.follows .mixedOrders=true) (L:List (Value->World->Prop)) (z:List (List (Tmp×Option Nat))) (F:List (Option Tmp)) (D:List Bool)
  (I:bz' ops a0.tmps.size=true) (J:bZ' ops=z) (M:eu' ops=F) (G:bl' ops a0.tmps.size=D) (O:bD' L) (U:eP' lr n P ops Q L a0 w0 ops.toList z L)
  (V:∀f w,Below w0.heap.size w0 w->af' f w F L->Q .normal {tmps:=(Y' D a0.tmps.toList 0 f).toArray,defers:=a0.defers} w):
  (Code.region id ops true).wpIn (Fence.wide.inRound lr) n P Q a0 w0:=by
 refine iq' H L z I J O U ?_;intro a w r X Y hd hs;have h:=V (fun t=>a.tmps.getD t undef) w r (by rw[<-M];exact cH' (fun i o d Z aa=>X i o d (by simpa using Z) aa));have e:Y' D a0.tmps.toList 0 (fun t=>a.tmps.getD t undef)=a.tmps.toList:=by
  refine ck' _ _ _ _ _ (by rw[<-G];simp[bl']) (by simpa using hs) ?_ ?_
  ·intro j hj _;simp[Array.getD_eq_getD_getElem?,List.getD_eq_getElem?_getD]
  ·intro j hj r;rw[<-G]at r;have ab:j < a0.tmps.size:=by rw[<-hs];simpa using hj
   have ac:wr ops j=none:=by unfold bl' at r;simp[List.getD_eq_getElem?_getD,List.getElem?_map,List.getElem?_range ab]at r;exact r
   have:=Y j ac;simpa[Array.getD_eq_getD_getElem?,List.getD_eq_getElem?_getD]using this
 rw[e,<-hd]at h;exact h
theorem jq' {id:Nat} {a0:Act} {w0:World} (O:P.follows .mixedOrders=true) (L:List (Value->World->Prop)) (F:List (List (Tmp×Option Nat))) (I:List (Option Tmp)) (G:List Bool) (last:Nat) (ol:Oper) (U:ops[last]? =some ol) (V:ol.guard=none)
  (J:ops.size=last+1) (X:eU' ops last=true)
  (Y:bz' ops a0.tmps.size=true) (Z:bZ' ops=F) (aa:eu' ops=I) (M:bl' ops a0.tmps.size=G) (ab:bD' L) (ac:eP' lr n P ops Q L a0 w0 (ops.toList.take last) F L)
  (ad:∀f w,Below w0.heap.size w0 w->af' f w (I.take last) L->Oper.wpIn (Fence.wide.inRound lr) n P ol {tmps:=(Y' G a0.tmps.toList 0 f).toArray,defers:=a0.defers} w (Q .normal) Q):
  (Code.region id ops true).wpIn (Fence.wide.inRound lr) n P Q a0 w0:=by
 refine wpIn_region_any O (kt' (w0:=w0) (fun i=>L.getD i (fun _ _=>True)) Y last J X (fun i=>bo' ab i) ?_ ?_ ops.size _ a0 _ ⟨by simp,(Below.refl _ _).drew,?_,?_,fun _ _=>rfl,rfl,rfl⟩ ?_ ?_)
 ·intro i o H z a w D ah;have ai:i < ops.size:=(Array.getElem?_eq_some_iff.1 z).1;have aj:F[i]? =some ((o.looksAt ops).map fun t=>(t,match wr ops t with
     |some j=>if av' ops i j=true then some j else none
     |none=>none)):=by
   rw[<-Z];unfold bZ';rw[List.getElem?_map,List.getElem?_range ai,Option.map_some,z];rfl
  exact eF' ac i o _ (by rw[List.getElem?_take,if_pos H];simpa using z) aj a w D (bk' rfl (o:=o) _ ah)
 ·intro a w D ak ao hd hs;have h:=ad (fun t=>a.tmps.getD t undef) w D (by
   rw[<-aa,eu',<-List.map_take];exact cH' (fun i o d z ap=>by
    rw[List.getElem?_take]at z;split at z
    ·rename_i H;exact ak i o d H (by simpa using z) ap
    ·cases z))
  have e:Y' G a0.tmps.toList 0 (fun t=>a.tmps.getD t undef)=a.tmps.toList:=by
   refine ck' _ _ _ _ _ (by rw[<-M];simp[bl']) (by simpa using hs) ?_ ?_
   ·intro j hj _;simp[Array.getD_eq_getD_getElem?,List.getD_eq_getElem?_getD]
   ·intro j hj D;rw[<-M]at D;have aq:j < a0.tmps.size:=by rw[<-hs];simpa using hj
    have au:wr ops j=none:=by unfold bl' at D;simp[List.getD_eq_getElem?_getD,List.getElem?_map,List.getElem?_range aq]at D;exact D
    have:=ao j (fun k r=>by rw[au]at r;cases r);simpa[Array.getD_eq_getD_getElem?,List.getD_eq_getElem?_getD]using this
  rw[e,<-hd]at h;unfold wpOpIn;rw[U];simp only[];rw[if_pos (by simp[Region.wanted,V])];exact h
 ·intro k r;simp[Array.getD_eq_getD_getElem?]at r;rcases h:(Array.replicate ops.size false)[k]? with _|b <;> simp[h]at r;subst r;obtain⟨h1,h2⟩:=Array.getElem?_eq_some_iff.1 h;simp at h2
 ·intro i o d z hd r;exfalso;simp[Array.getD_eq_getD_getElem?]at r;rcases h:(Array.replicate ops.size false)[i]? with _|b <;> simp[h]at r;subst r;obtain⟨h1,h2⟩:=Array.getElem?_eq_some_iff.1 h;simp at h2
 ·simp[Array.getD_eq_getD_getElem?,J]
 ·exact Nat.le_trans List.countP_le_length (by simp)
end
attribute [local go_sem] Oper.semAt_some
def xy' (B:Nat) (D:List UInt8) (v:Value) (r:World):Prop:=∃g z,v= .slice (some ⟨g,0,none⟩) 1 1/\B<=g/\r.heap[g]? =some (.cells #[z] 48 (0,0))/\ax' B r z D
theorem eQ' {B:Nat} {w r:World} {v:Value} {l:List UInt8} {E:Nat->Prop} (h:ax' B w v l) (hF:Far E w r) (D:∀k,E k->k < B):ax' B r v l:=
 R' h (fun k z=>hF.rest k (World.ownsRow.lt h k z).2 (fun e=>by have:=D k e;have:=(World.ownsRow.lt h k z).1;omega))
theorem cf' {B:Nat} {w r:World} {v:Value} {l:List UInt8} (h:ax' B w v l) (z:Below w.heap.size w r):ax' B r v l:=
 R' h (fun k D=>z.block k (World.ownsRow.lt h k D).2)
theorem qg' (B:Nat) (l:List UInt8):bL' (fun v r=>ax' B r v l):=fun _ _ _ h z=>cf' h z
theorem is' {B:Nat} {l:List UInt8} {E:Nat->Prop} (r:∀k,E k->k < B):ba' E (fun v z=>ax' B z v l):=fun _ _ _ h hF=>eQ' h hF r
theorem qh' (B:Nat) (z:List UInt8):bL' (xy' B z):=fun _ _ _ h r=>by
 obtain⟨g,D,e,h1,h2,h3⟩:=h;exact⟨g,D,e,h1,(r.block g (lt_of_block h2)).trans h2,cf' h3 r⟩
theorem it' {B:Nat} {z:List UInt8} {E:Nat->Prop} (r:∀k,E k->k < B):ba' E (xy' B z):=fun _ _ _ h hF=>by
 obtain⟨g,D,e,h1,h2,h3⟩:=h;exact⟨g,D,e,h1,hF.blk h2 (fun e=>by have:=r _ e;omega),eQ' h3 hF r⟩
def xz' (B D:Nat) (lv:Value) (fs:List Value) (F:List UInt8) (v:Value) (r:World):Prop:=∃z,r.ownsRow D 48 1 v (fs.length+1) (fs++[z])/\ax' B r z F/\∀k,v.ownBlock=some k->lv.ownBlock=some k\/B<=k
theorem qi' (B z:Nat) (lv:Value) (fs:List Value) (D:List UInt8):bL' (xz' B z lv fs D):=fun _ _ _ h r=>by
 obtain⟨F,h1,h2,h3⟩:=h;exact⟨F,R' h1 (fun k G=>r.block k (World.ownsRow.lt h1 k G).2),cf' h2 r,h3⟩
theorem ow' {B r:Nat} {lv:Value} {fs:List Value} {F:List UInt8} {E:Nat->Prop} (z:∀k,E k->k < B/\k < r):ba' E (xz' B r lv fs F):=fun _ _ _ h hF=>by
 obtain⟨G,h1,h2,h3⟩:=h;exact⟨G,R' h1 (fun k D=>hF.rest k (World.ownsRow.lt h1 k D).2 (fun e=>by have:=(z k e).2;have:=(World.ownsRow.lt h1 k D).1;omega)),eQ' h2 hF (fun k e=>(z k e).1),h3⟩
theorem lq' {H:Array Oper} {o:Oper} {a:Act} {K:Act->World->Prop} {I:Exit->Act->World->Prop} {E:Prop} {w:World} {J M:Nat} (O:o.guard=none) (s x:Operand) (t:TypeId) (D:o.op= .call {callee:= .builtin .append,args:= #[s,x],argTypes:= #[t,t]})
  (base:Nat) (e:TypeId) (F:Value) (size bytes:Nat) (Q:Tryz.prog.underlying t=some (.slice e)) (U:(Tryz.prog.info? e).map (fun i=>(i.zero,i.size,i.bytes))=some (some F,size,bytes)) (V:F.cells.size=size) (X:0 < size)
  (v:Value) (n:Nat) (xs:List Value) (Y:w.ownsRow base e size v n xs) (hs:a.eval s=v) (G:Addr) (m c:Nat) (z:List Value) (Z:a.eval x= .slice (some G) m c) (hl:z.length=m * size) (aa:∀j u,z[j]? =some u->w.cell? (G.add j)=some u)
  (h1:∀u∈z,u.oneCell'=true) (ab:n+m<=maxLen) (ac:(n+m) * bytes<=140737488355328) (ad:base<=w.heap.size)
  (h:∀r w',w'.ownsRow base e size r (n+m) (xs++z)->w.grownBy w' v.ownBlock->(r.ownBlock=v.ownBlock\/r.ownBlock=some w.heap.size)->K (a.put o.dst r) w'):if Region.wanted o (yielded H a.tmps)=true then o.wpIn (Fence.wide.inRound J) M Tryz.prog a w K I else E:=by
 rw[if_pos (by simp[Region.wanted,O])];obtain⟨i0,hi,ah,ai,aj⟩:=bp' U;obtain⟨r,w',ak,h2,h3,_,h5⟩:=run_append_own_at (P:=Tryz.prog) (w:=w) base t o.type e i0 F size bytes Q hi ah ai aj V X v n xs Y G m c z hl aa h1 ab ac ad;unfold Oper.wpIn;refine⟨by simp[Oper.about,D,resolve,Target.leads,Sem.run_pure],?_⟩;rw[Oper.semAt_plain _ _ _ (by rw[D];intro c ao;cases ao)];simp[execOp,D,resolve,invoke,builtin,hs,Z,ak,Result.andThen];exact h r w' h2 h3 h5
theorem hA' (e s:Nat) (f:Mod.Flow) (t:Nat):∀k,(Mod.sendTo e s f t k).2.length<=k
 |0=>Nat.le_refl _
 |k+1=>by
  have ih:=hA' e s f t k;by_cases h:k < f.kept.length
  ·cases hd:Mod.due f t k f.kept[k].2 with
   |false=>rw[en' h hd];omega
   |true=>rw[eo' h hd];simp;omega
  ·rw[aW' (by omega)];omega
section
variable {w W:World} {g0 p i:Nat} {c:Av} {st:Mod.Stv} {g:Nat->Nat} {free:List Nat} {sh:Nat->List (Nat×Value)} {pl:Nat->List Nat} {F:List ByteArray} {a:Mod.Ag} {tk k:Nat}
theorem cr'.due (h:cr' w g0 p i c st g free pl F (aJ' a i tk k) W) (hi:i < 3) (r:k < (a.fl i).kept.length) (z:(a.fl i).kept[k].2<=1000000000000) (D:tk<=1000000000000):
  Calls Tryz.prog 106 #[.pointer (some ⟨p,4+i * 6,none⟩), .int .i64 ((a.fl i).base+1+k:Nat), .int .i64 tk] W fun G H=>G= .returned (.bool (Mod.due (a.fl i) tk k (a.fl i).kept[k].2))/\Below W.heap.size W H:=by
 obtain⟨lv,fs,O,sh,Q,U,I,J,_⟩:=h.mid;have hj:k < ((aJ' a i tk k).fl i).kept.length:=by rw[rY'];exact r
 have M:((aJ' a i tk k).fl i).kept[k]=(a.fl i).kept[k]:=by have:=lp' (tk:=tk) r;rw[List.getElem?_eq_getElem hj]at this;injection this
 have:=tU' I J hi k hj tk (a.fl i).kept[k].2 (by rw[M]) z D;rw[rZ',jW']at this;exact this
theorem cr'.tick (h:cr' w g0 p i c st g free pl F (aJ' a i tk k) W):W.cell? ⟨p,23,none⟩=some (.int .i64 a.ticks):=by
 obtain⟨lv,fs,z,sh,D,G,r,H,_⟩:=h.mid;rw[t' r.ks.blk,r.ks.at'];rfl
end
section
variable {w:World} {p:Nat} {g:Nat->Nat} {free:List Nat} {sh:Nat->List (Nat×Value)} {st:Mod.Stv} {c:Av} {a:Mod.Ag} {pl:Nat->List Nat}
theorem sc' (bj:aC' w p g a.ticks a.welcome a.fenced free sh st c) (bE:aQ' a st.opening g free sh pl) (i:Nat) (aD:i < 3) (dj:a.ticks≠0) (dl:a.ticks<=1000000000000) (dm:(a.fl i).base+(a.fl i).kept.length < 4294967296) (cu:∀x∈ (a.fl i).kept,x.1.size<=20/\x.2<=1000000000000):
  Calls Tryz.prog 68 #[A' p, .int .i64 i] w fun au F=>∃lv fs Z bF,au= .returned lv/\Q' w.heap.size F lv fs (bN' a i a.ticks 4) (PaU p Z)/\aC' F p g a.ticks a.welcome a.fenced free bF st Z/\aQ' (aJ' a i a.ticks 4) st.opening g free bF pl/\Far (PaU p c) w F/\(∀j,PaU p Z j->PaU p c j\/w.heap.size<=j)/\Z.s=c.s/\Z.rv=c.rv:=by
 have dq:=lt_of_block bj.ks.blk;have dr:(0:Int)<=(i:Int):=by omega
 have dt:(i:Int) < 3:=by omega
 have aL:=y' (And.intro bj bE);clear bj bE;unfold A' at *;refine callsIn_wide.1 (callsIn_of_wp_marks (n:=5) Tryz.func68 rfl trivial ?_ rfl);refine wpIn_wide.2 ?_;simp only[Tryz.ntmps68,List.size_toArray,List.length_cons,List.length_nil,Nat.reduceAdd,Nat.reduceSub,Array.replicate_succ,Array.replicate_zero,List.push_toArray,List.append_toArray,List.nil_append,List.cons_append];go_upto_region 2 with fail;obtain⟨g0,aM⟩:∃g0,g0=w.heap.size:=⟨_,rfl⟩;have bG:=y' aM;rw[<-aM];refine H' (fun x=>x.heap[g0]? =some (.cells #[.pointer (some ⟨p,0,none⟩)] 74 (0,0))/\x.heap[g0+1]? =some (.cells #[.int .i64 i] 3 (0,0))/\x.heap[g0+2]? =some (.cells #[.slice none 0 0] 32 (0,0))/\Below g0 w x/\x.heap.size=g0+3) ?_ ?_
 ·rw[aM];have cv:=heap_alloc_new w (.cells #[.pointer (some ⟨p,0,none⟩)] 74);have bH:=heap_alloc_new (w.alloc (.cells #[.pointer (some ⟨p,0,none⟩)] 74)) (.cells #[.int .i64 i] 3);have bI:=heap_alloc_new ((w.alloc (.cells #[.pointer (some ⟨p,0,none⟩)] 74)).alloc (.cells #[.int .i64 i] 3)) (.cells #[.slice none 0 0] 32);simp only[World.size_alloc]at bH bI;refine⟨?_,?_,bI,((((Below.refl _ _).alloc (Nat.le_refl _) _).alloc (by simp) _).alloc (by simp;omega) _),by simp⟩
  ·rw[hao _ _ (by simp;omega),hao _ _ (by simp)];exact cv
  ·rw[hao _ _ (by simp)];exact bH
 clear aM;rintro x ⟨h0,h1,h2,r,aa⟩;have c0:=t' (i:=0) h0;have c1:=t' (i:=0) h1;simp at c0 c1;have bJ:=y' (And.intro h0 (And.intro h1 (And.intro h2 (And.intro r aa))));have cw:g0 < x.heap.size:=by omega
 have cx:g0+1 < x.heap.size:=by omega
 clear h0 h1 h2 r;go_region;go_upto_region 3 with fail;refine H' (fun y=>y.heap[g0]? =some (.cells #[.pointer (some ⟨p,0,none⟩)] 74 (0,0))/\y.heap[g0+1]? =some (.cells #[.int .i64 i] 3 (0,0))/\y.heap[g0+2]? =some (.cells #[.slice none 0 0] 32 (0,0))/\y.heap[g0+3]? =some (.cells #[.pointer (some ⟨p,4+i * 6,none⟩)] 193 (0,0))/\Below g0 w y/\y.heap.size=g0+4) ?_ ?_
 ·obtain⟨h0,h1,h2,r,aa⟩:=i' bJ;exact⟨(hao _ _ (by omega)).trans h0,(hao _ _ (by omega)).trans h1,(hao _ _ (by omega)).trans h2,by have:=heap_alloc_new x (.cells #[.pointer (some ⟨p,4+i * 6,none⟩)] 193);rw[aa]at this;exact this,(r.alloc (by omega) _).drew,by show(x.alloc _).heap.size= _;simp;omega⟩
 clear bJ c0 c1 cw cx aa;rintro y ⟨h0,h1,h2,h3,r,aa⟩;have c3:=t' (i:=0) h3;simp at c3;have bK:=y' (And.intro h0 (And.intro h1 (And.intro h2 (And.intro h3 (And.intro r aa)))));clear h0 h1 h2 h3 r;go_wp2_with (go_at_call 105;refine(kZ' _ _ _ _).mono ?_;rintro e F ⟨rfl,ap⟩);obtain⟨h0,h1,h2,h3,r,_⟩:=i' bK;have bk:F.heap.size=g0+6:=by rw[ap];simp[dt',aa]
 have z:∀k,k < g0+4->F.heap[k]? =y.heap[k]? :=fun k G=>by rw[ap];unfold dt';rw[hao _ _ (by simp;omega),hao _ _ (by omega)]
 have bL:F.heap[g0+4]? =some (.cells #[.pointer (some ⟨p,4+i * 6,none⟩)] 197 (0,0)):=by rw[ap];unfold dt';rw[hao _ _ (by simp;omega),<-aa];exact heap_alloc_new _ _
 have bM:F.heap[g0+5]? =some (.cells #[.int .i64 4] 3 (0,0)):=by rw[ap];unfold dt';have:=heap_alloc_new (y.alloc (.cells #[.pointer (some ⟨p,4+i * 6,none⟩)] 197)) (.cells #[.int .i64 4] 3);rw[World.size_alloc,aa]at this;exact this
 have aN:Below g0 w F:=by rw[ap];unfold dt';exact(r.alloc (by omega) _).alloc (by simp;omega) _
 have aE:=y' (And.intro ((z g0 (by omega)).trans h0) (And.intro ((z (g0+1) (by omega)).trans h1) (And.intro ((z (g0+2) (by omega)).trans h2) (And.intro ((z (g0+3) (by omega)).trans h3) (And.intro bL (And.intro bM aN))))));rw[<-ap];clear h0 h1 h2 h3 r z bL bM aN ap bK c3;obtain⟨tk,bN⟩:∃tk,tk=a.ticks:=⟨_,rfl⟩;have bO:=y' bN;have cy:tk≠0:=by omega
 have cz:tk<=1000000000000:=by omega
 clear bN;have bP:(aE' (a.fl i).base (a.fl i).kept (pl i)).length=(a.fl i).kept.length:=dF' _ _ _ ((i' aL).2.pn i aD);refine wpIn_wide.1 (jR' (n:=5) (b:=g0+4) (p:=p) (o:=4+i * 6) (m:=4) (c.nv (i * 3)) (c.mv (i * 3)) (aE' (a.fl i).base (a.fl i).kept (pl i)) (gv' _ _ _) rfl rfl (fun k W=>cr' w g0 p i c st g free pl (bN' a i tk k) (aJ' a i tk k) W) ?_ ?_ ?_ ?_ ?_ ?_)
 ·intro k W du h av;rw[bk]at av;exact h.same2 av
 ·exact fun k W h=>h.iterK aD
 ·intro W bQ dv;obtain⟨h0,h1,h2,h3,h4,h5,aN⟩:=i' aE;have G:=fun k (G:k < F.heap.size)=>bQ.block k G;exact qf' (i' aL).1 (i' aL).2 (i' bG) (aN.trans (bQ.mono (by omega))) ((G _ (by omega)).trans h0) ((G _ (by omega)).trans h1) ((G _ (by omega)).trans h2) ((G _ (by omega)).trans h3) ((G _ (by omega)).trans h4) ((G _ (by omega)).trans h5) (by omega)
 ·intro k G W dw I cA;rw[bk]at cA ⊢;have aq:k < (a.fl i).kept.length:=by rw[bP]at G;exact G
  have bR:(aE' (a.fl i).base (a.fl i).kept (pl i))[k]=((a.fl i).base+1+k,ce' (a.fl i).kept[k].1 ((pl i).getD k 0)):=by have h1:=ji' (a.fl i).base (a.fl i).kept (pl i) k ((i' aL).2.pn i aD) aq;rw[List.getElem?_eq_getElem G]at h1;injection h1
  rw[bR];obtain⟨ao,bl⟩:∃ao,ao=(a.fl i).kept[k].1:=⟨_,rfl⟩;obtain⟨ai,aO⟩:∃ai,ai=(a.fl i).base+1+k:=⟨_,rfl⟩;rw[<-bl,<-aO];generalize (pl i).getD k 0=q;have ax:=y' (And.intro bl aO);obtain⟨ah,aP⟩:∃ah,ah=W.heap.size:=⟨_,rfl⟩;have dx:g0+8<=ah:=by omega
  have dy:=y' aP;have cB:=y' I;clear bl aO bR I aE G;unfold ce';gi_wp2;refine⟨⟨hao _ _ (by omega),hao _ _ (by omega)⟩,?_⟩;intro aF av;rw[<-aP];have aQ:aF.heap[ah]? =some (.cells #[.string ao, .int .i64 q] 140 (0,0)):=by rw[av.rest ah (by omega) (by omega),aP];exact heap_alloc_new _ _
  have H:=((i' cB).below ((Below.refl _ _).alloc (Nat.le_refl _) _)).same2 av;obtain⟨lv,fs,Z,aR,M,D,J,O,ab,Q,ac,ad,ay,az⟩:=H.mid;have aS:=t' (i:=0) H.h0;have bS:=t' (i:=0) H.h1;have bT:=t' (i:=0) M;have aT:=t' (i:=0) H.h3;have bU:=t' (i:=0) aQ;have bm:aF.cell? ⟨p,23,none⟩=some (.int .i64 tk):=by rw[H.tick,i' bO]
  simp at aS bS bT aT bU;have cC:ao.size<=20/\(a.fl i).kept[k].2<=1000000000000:=by have:=cu _ (List.getElem_mem aq);rw[(i' ax).1];exact this
  have aO:ai < 4294967296:=by have:=(i' ax).2;omega
  have aG:=fun x (r:Below aF.heap.size aF x)=>y' ((H.below r).due aD aq cC.2 cz);rw[<-(i' ax).2]at aG;obtain⟨aU,bn⟩:∃aU,aU=Mod.due (a.fl i) tk k (a.fl i).kept[k].2:=⟨_,rfl⟩;rw[<-bn]at aG;have aV:=y' bn;have aH:=y' H;have bV:=lt_of_block H.h0;have dz:=lt_of_block H.h1;have bW:=lt_of_block H.h3;have bX:=lt_of_block aQ;have bY:p < aF.heap.size:=lt_of_block J.ks.blk;have bZ:=y' aQ;clear aP av aQ M D J O ab Q ac ad ay az H bn;gi_upto_region 6 with fail;refine ir' (by kernel_rfl)
   [fun v _=>v= .pointer (some ⟨p,4+i * 6,none⟩),fun v _=>v= .int .i64 ai,fun v _=>v= .pointer (some ⟨p,0,none⟩),fun v _=>v= .pointer (some ⟨p,0,none⟩),fun v _=>v= .pointer (some ⟨p,23,none⟩),fun v _=>v= .int .i64 tk,fun v _=>v= .bool aU]
   [[(6,none)],[(7,none)],[(2,none)],[(22,some 2)],[(23,some 3)],[(24,some 4)],[(20,some 0),(21,some 1),(25,some 5)]] [some 20,some 21,some 22,some 23,some 24,some 25,some 26] [false,false,false,false,false,false,false,false,false,false,false,false,false,false,false,false,false,false,false,false,true,true,true,true,true,true,true,false,false,false,false,false,false,false,false,false,false,false,false,false,false,false,false,false,false,false,false,false]
   (by kernel_rfl) (by kernel_rfl) (by kernel_rfl) (by kernel_rfl) ?_ ?_ ?_
  ·repeat' (first|exact O' _|exact trivial|apply And.intro)
  ·refine⟨?_,?_,?_,?_,?_,?_,?_,trivial⟩;all_goals
    intro b x r U;have z0:=(r.cell (p:=⟨g0,0,none⟩) bV).trans aS;have z3:=(r.cell (p:=⟨g0+3,0,none⟩) bW).trans aT;have cD:=(r.cell (p:=⟨p,23,none⟩) bY).trans bm;have aW:=y' (i' (aG x r));clear r aG;simp only[M',List.getD_cons_zero,List.getD_cons_succ,Array.getD_eq_getD_getElem?]at U;try simp at U
    try go_simp
   all_goals first
    |exact⟨rfl,Below.refl _ _⟩
    |exact⟨_,rfl,Below.refl _ _,rfl⟩
    |exact Below.refl _ _
    |(refine⟨trivial,((callsIn_wide.2 (i' aW)).inRound _).mono ?_⟩;rintro au F ⟨rfl,r⟩;exact⟨_,rfl,r,rfl⟩)
    |(refine⟨trivial,((callsIn_wide.2 (i' aW)).inRound _).mono ?_⟩;rintro au F ⟨rfl,r⟩;exact⟨rfl,r⟩)
    |skip
  intro f x ca V;simp only[af']at V;have cE:=V.2.2.2.2.2.2.1;have aj:=y' ca;clear V aG ca;simp only[Y',cE];generalize f 20=dA;generalize f 21=dB;generalize f 22=dC;generalize f 23=dD;generalize f 24=dE;generalize f 25=dF;cases aU with
  |false=>
   gi_wp2
   have aa:=(i' aH).sz;refine⟨(i' aj).block _ (by omega),(i' aj).block _ (by omega),?_⟩;rw[qd' aq (i' aV).symm,pW' aq (i' aV).symm];exact(i' aH).below (i' aj)
  |true=>
   have cb:=(i' aj).size;have cc:=((i' aj).cell (p:=⟨g0,0,none⟩) bV).trans aS;have aX:=((i' aj).cell (p:=⟨g0+3,0,none⟩) bW).trans aT;have cd:=((i' aj).cell (p:=⟨p,23,none⟩) bY).trans bm;have cF:g0 < x.heap.size:=by omega
   have cG:g0+3 < x.heap.size:=by omega
   have cH:p < x.heap.size:=by omega
   clear aS bS bT aT bU bm;have aY:=fun y (r:Below x.heap.size x y)=>y' (((i' aH).below ((i' aj).trans (r.mono cb))).put aD aq (i' aV).symm cy);rw[<-(i' ax).2]at aY;gi_upto_region 7 with fail;refine jq' (by kernel_rfl)
    [fun v _=>v= .pointer (some ⟨p,4+i * 6,none⟩),fun v _=>v= .pointer (some ⟨p,4+i * 6,none⟩),fun v _=>v= .pointer (some ⟨p,4+i * 6+2,none⟩),fun v _=>v= .int .i64 ai,fun v _=>v= .pointer (some ⟨p,0,none⟩),fun v _=>v= .pointer (some ⟨p,0,none⟩),fun v _=>v= .pointer (some ⟨p,23,none⟩),fun v _=>v= .int .i64 tk,fun _ _=>True]
    [[(6,none)],[(27,some 0)],[(28,some 1)],[(7,none)],[(2,none)],[(31,some 4)],[(32,some 5)],[(33,some 6)],[(29,some 2),(30,some 3),(34,some 7)]] [some 27,some 28,some 29,some 30,some 31,some 32,some 33,some 34,some 35] [false,false,false,false,false,false,false,false,false,false,false,false,false,false,false,false,false,false,false,false,false,false,false,false,false,false,false,true,true,true,true,true,true,true,true,true,false,false,false,false,false,false,false,false,false,false,false,false]
    8 _ rfl rfl (by kernel_rfl) (by kernel_rfl) (by kernel_rfl) (by kernel_rfl) (by kernel_rfl) (by kernel_rfl) ?_ ?_ ?_
   ·repeat' (first|exact O' _|exact X'|exact trivial|apply And.intro)
   ·refine⟨?_,?_,?_,?_,?_,?_,?_,?_,trivial⟩;all_goals
     intro b y r U;have z0:=(r.cell (p:=⟨g0,0,none⟩) cF).trans cc;have z3:=(r.cell (p:=⟨g0+3,0,none⟩) cG).trans aX;have cD:=(r.cell (p:=⟨p,23,none⟩) cH).trans cd;clear r aY;simp only[M',List.getD_cons_zero,List.getD_cons_succ,Array.getD_eq_getD_getElem?]at U;try simp at U
     try go_simp
    all_goals first
     |exact⟨rfl,Below.refl _ _⟩
     |exact⟨_,rfl,Below.refl _ _,rfl⟩
     |exact Below.refl _ _
     |skip
   intro aI y bo V;simp only[af',List.take]at V;have cI:=V.2.2.1;have cJ:=V.2.2.2.1;have cK:=V.2.2.2.2.2.2.2.1;have cL:=y' (i' (aY y bo));have aJ:=y' ((i' aj).trans (bo.mono cb));clear V aY bo cc aX cd;simp only[Y',cI,cJ,cK];generalize aI 27=dG;generalize aI 28=dH;generalize aI 31=dI;generalize aI 32=dJ;generalize aI 33=dK;go_simp;refine⟨trivial,((callsIn_wide.2 (i' cL)).inRound _).mono ?_⟩;rintro au F ⟨rfl,I,aZ,ba,aa,ce⟩;have dL:=(i' aJ).size;have bb:=(ce ah _ (((i' aJ).block ah bX).trans (i' bZ))).trans (((i' aJ).block ah bX).trans (i' bZ));have aZ:=aZ.trans ((i' aJ).block _ (by have:=(i' aH).sz;omega));have ba:=ba.trans ((i' aJ).block _ (by have:=(i' aH).sz;omega));have cf:=y' (And.intro aZ ba);obtain⟨lv,fs,Z,aR,M,D,J,O,ab,Q,ac,ad,ay,az⟩:=I.mid;have bp:=I.lo;have dM:=I.sz;have dN:fs.length<=3:=by have h1:=D.len;have h2:=hA' a.epoch i (a.fl i) tk k;unfold bN' at h1;rw[List.length_map]at h1;omega
   obtain⟨X,Y,cM,_⟩:=(aq' D.row).shape;subst cM;obtain⟨ep,bc⟩:∃ep,ep=st.opening:=⟨_,rfl⟩;have cg:ep=a.epoch:=by rw[bc];exact O.ep
   have dO:ep < 4294967296:=by rw[bc];exact J.stt.op
   obtain⟨aA,bq⟩:∃aA,aA=Wire.bytes 3 ep i ai ao.data.toList:=⟨_,rfl⟩;have ch:=fun y=>y' (eI' 3 ep i ai ao y (by omega) (by omega) (by omega) (by omega) (by omega));rw[<-bq]at ch;have ci:bN' a i tk (k+1)=bN' a i tk k++[⟨aA.toArray⟩]:=by rw[qc' aq (i' aV).symm,bq,cg,(i' ax).1,(i' ax).2]
   have ak:∀j,(Value.slice X fs.length Y).ownBlock=some j->g0+8<=j/\j < F.heap.size:=fun j hj=>D.lt j (.inl hj);have cN:(Value.slice X fs.length Y).ownBlock≠some ah:=(aq' D.row).ne bb (by decide);have c0:=t' (i:=0) I.h0;have c1:=t' (i:=0) I.h1;have c2:=t' (i:=0) M;have cO:=t' (i:=0) bb;have dP:=I' (i:=0) M;simp at c0 c1 c2 cO;have cj:=fun y (c4:Av) (K:aC' y p g (aJ' a i tk (k+1)).ticks (aJ' a i tk (k+1)).welcome (aJ' a i tk (k+1)).fenced free aR st c4)=>y' (bq' K);rw[<-bc]at cj;have ck:∀j,j=g0+2\/(Value.slice X fs.length Y).ownBlock=some j->¬PaU p Z j:=fun j hj hu=>by
    rcases hj with rfl|hj
    ·rcases Q _ hu with h|h
     ·have:=bp _ h;omega
     ·omega
    ·exact D.clear j (.inl hj) hu
   have aE:=y' (And.intro I (And.intro M (And.intro D (And.intro J (And.intro O (And.intro ab (And.intro Q (And.intro ac (And.intro ad (And.intro ay az))))))))));have cP:=y' bb;have cl:=y' M;have cm:=y' (And.intro I.h0 I.h1);have cQ:=y' J;have cR:=y' ci;clear I M D J O ab Q ac ad ay az ci bq bc cg ce bb aZ ba;unfold A' at *;gi_upto_region 8 with fail;refine jo' (by kernel_rfl)
    [fun v _=>v= .slice X fs.length Y,fun v _=>v= .pointer (some ⟨p,0,none⟩),fun v _=>v= .int .i64 ep,fun v _=>v= .int .i64 i,fun v _=>v= .int .i64 ai,fun v _=>v= .pointer (some ⟨ah,0,none⟩),fun v _=>v= .string ao,fun v _=>v= .agg #[.int .i64 3, .int .i64 ep, .int .i64 i, .int .i64 ai, .string ao],
     fun v y=>ax' F.heap.size y v aA,xy' F.heap.size aA,xz' F.heap.size (g0+8) (.slice X fs.length Y) fs aA,fun _ y=>cr' w g0 p i c st g free pl (bN' a i tk (k+1)) (aJ' a i tk (k+1)) y]
    [[(5,none)],[(2,none)],[(37,some 1)],[(3,none)],[(7,none)],[(8,none)],[(41,some 5)],[(38,some 2),(39,some 3),(40,some 4),(42,some 6)],[(43,some 7)],[(44,some 8)],[(36,some 0),(45,some 9)],[(5,none),(46,some 10)]] [some 36,some 37,some 38,some 39,some 40,some 41,some 42,some 43,some 44,some 45,some 46,none] [false,false,false,false,false,false,false,false,false,false,false,false,false,false,false,false,false,false,false,false,false,false,false,false,false,false,false,false,false,false,false,false,false,false,false,false,true,true,true,true,true,true,true,true,true,true,true,false]
    [(10,fun j=>(Value.slice X fs.length Y).ownBlock=some j),(11,fun j=>j=g0+2)]
    (by kernel_rfl) (by kernel_rfl) (by kernel_rfl) (by kernel_rfl) (by kernel_rfl) ?_ ?_ ?_ ?_
   ·repeat' (first|exact O' _|exact qg' _ _|exact qh' _ _|exact qi' _ _ _ _ _|exact(fun _ _ _ h r=>h.below r)|exact trivial|apply And.intro)
   ·repeat' (first|exact trivial|exact .inl rfl|exact .inr (.inr (an' _ _))|exact .inr (.inr (is' (fun j hj=>(ak j hj).2)))|exact .inr (.inr (it' (fun j hj=>(ak j hj).2)))|exact .inr (.inr (is' (fun j (hj:j=g0+2)=>by omega)))|exact .inr (.inr (it' (fun j (hj:j=g0+2)=>by omega)))|exact .inr (.inr (ow' (fun j (hj:j=g0+2)=>by omega)))|exact .inr (.inl (show av' _ 11 10=true by decide+kernel))|apply And.intro)
   ·refine⟨?_,?_,?_,?_,?_,?_,?_,?_,?_,?_,?_,?_,trivial⟩;all_goals
     intro b y r U;have cS:=r.size;have be:=y' r;have aB:∀ (cn:Array Oper) (co j:Nat),j≠g0+2->(Value.slice X fs.length Y).ownBlock≠some j->¬dB' [(10,fun j=>(Value.slice X fs.length Y).ownBlock=some j),(11,fun j=>j=g0+2)] cn co j:=fun cn co j h1 h2=>ae' (by intro q z;simp at z;rcases z with rfl|rfl;exact h2;exact h1);have br:∀j,j < g0+8->(Value.slice X fs.length Y).ownBlock≠some j:=fun j h1 e=>by have:=(ak j e).1;omega
     have z0:=t' (i:=0) (r.blk (i' cm).1 (aB _ _ _ (by omega) (br _ (by omega))));have cT:=t' (i:=0) (r.blk (i' cm).2 (aB _ _ _ (by omega) (br _ (by omega))));have cU:=t' (i:=0) (r.blk (i' cP) (aB _ _ _ (by omega) cN));simp at z0 cT cU;clear r aB br;simp only[M',List.getD_cons_zero,List.getD_cons_succ,Array.getD_eq_getD_getElem?]at U;try simp at U
    ·have bt:=t' (i:=0) ((i' be).blk (i' cl) (by
      rintro⟨q,z,g1,g2,aK⟩;simp at z;rcases z with rfl|rfl
      ·have:=(ak _ aK).1;omega
      ·exact absurd (show av' _ 11 0=false from g2) (by decide+kernel)))
     simp at bt;go_simp;first|exact⟨_,rfl,Far.refl _ _,rfl⟩|exact⟨rfl,Far.refl _ _⟩|exact Far.refl _ _
    ·go_simp;first|exact⟨_,rfl,Far.refl _ _,rfl⟩|exact⟨rfl,Far.refl _ _⟩|exact Far.refl _ _
    ·have K:=(i' cQ).far (i' be) (fun j hu=>ae' (by
      intro q z;simp at z;rcases z with rfl|rfl
      ·exact fun e=>ck j (.inr e) hu
      ·exact fun e=>ck j (.inl e) hu))
     have aW:=y' (i' (cj y _ K));clear K;go_simp;refine⟨trivial,((callsIn_wide.2 (i' aW)).inRound _).mono ?_⟩;rintro au cp ⟨rfl,cV⟩;obtain rfl:y=cp:=cV.symm;first|exact⟨_,rfl,Far.refl _ _,rfl⟩|exact⟨rfl,Far.refl _ _⟩|exact Far.refl _ _
    iterate 5
     ·go_simp;first|exact⟨_,rfl,Far.refl _ _,rfl⟩|exact⟨rfl,Far.refl _ _⟩|exact Far.refl _ _
    ·go_simp;refine⟨trivial,((callsIn_wide.2 (i' (ch y))).inRound _).mono ?_⟩;rintro au cp ⟨v,rfl,cW,r⟩;exact⟨_,rfl,C' r,au' cW (by omega)⟩
    ·obtain⟨cX,cY,bu,_⟩:=(aq' U).shape;have cq:=y' U;clear U;rw[bu]at cq;go_simp;exact⟨_,rfl,C' ((Below.refl _ _).alloc (Nat.le_refl _) _),_,_,rfl,cS,heap_alloc_new y _,ax'.alloc (i' cq) _⟩
    ·obtain⟨cZ,db,bw,dc,dQ,dd,bf⟩:=U;obtain⟨cX,cY,bu,_⟩:=(aq' bf).shape;have de:y.ownsRow (g0+8) 48 1 (.slice X fs.length Y) fs.length fs:=R' (i' aE).2.2.1.row (fun j hj=>(i' be).rest j (ak j hj).2 (by
      rintro⟨q,z,g1,g2,aK⟩;simp at z;rcases z with rfl|rfl
      ·exact g1 rfl
      ·have:j=g0+2:=aK;have:=(ak j hj).1;omega))
     refine lq' rfl (.tmp 36) (.tmp 45) 32 rfl (g0+8) 48 (.slice none 0 0) 1 24 Tryz.underlying32 (by kernel_rfl) rfl (by decide) (.slice X fs.length Y) fs.length fs de (by simp[Act.eval,cZ]) ⟨db,0,none⟩ 1 1 [bw] (by simp[Act.eval,dc]) rfl ?_ (by intro u hu;simp at hu;subst hu;rw[bu];rfl) (by unfold maxLen;omega) (by omega) (by omega) ?_
     ·intro j u hj;rw[cO',t' dd,Nat.zero_add];simpa using hj
     ·intro cr w' df cs dg;exact⟨cr,rfl,aj' (.head _) (br' cs),bw,df,R' bf (fun j hj=>cs.block j (World.ownsRow.lt bf j hj).2 (fun e=>by have:=(ak j e.symm).2;have:=(World.ownsRow.lt bf j hj).1;omega)),fun j hj=>by
       have hj:cr.ownBlock=some j:=hj;rcases dg with e|e
       ·exact .inl (by rw[<-e];exact hj)
       ·rw[e]at hj;injection hj with hj;exact .inr (by omega)⟩
    ·have bz:Far (fun j=>(Value.slice X fs.length Y).ownBlock=some j) F y:=(i' be).mono (by
      rintro j _ ⟨q,z,g1,g2,aK⟩;simp at z;rcases z with rfl|rfl
      ·exact aK
      ·exact absurd rfl g1)
     have bA:=bz.blk (i' cl) (fun e=>by have:=(ak _ e).1;omega);have bt:=t' (i:=0) bA;have dR:=I' (i:=0) bA;simp at bt;obtain⟨_,bw,aC,bg,hl⟩:=U;obtain⟨dS,dT,aX,_⟩:=(aq' aC).shape;rw[aX]at aC hl;have dh:=y' (And.intro aC (And.intro bg hl));have di:=y' bz;clear aC bg hl bz bA;go_simp;obtain⟨aC,bg,hl⟩:=i' dh;obtain⟨I,M,D,J,O,ab,Q,ac,ad,ay,az⟩:=i' aE;refine⟨aj' (.tail _ (.head _)) (S' y (g0+2) 0 _),?_⟩;rw[i' cR];exact uc' I M D J O ab Q ac ad ay az (i' di) (by simpa using bg) aC hl
   ·intro dU y hF V;have H:=V.2.2.2.2.2.2.2.2.2.2.2.1;have bB:=hF.mono (E':=fun j=>g0+8<=j\/j=g0+2) (fun j _ h=>by
     obtain⟨q,z,h⟩:=h;simp at z;rcases z with rfl|rfl
     ·exact .inl (ak j h).1
     ·exact .inr h)
    have bh:=bB.rest (g0+6) (by omega) (by omega);have bi:=bB.rest (g0+7) (by omega) (by omega);have bC:=y' (And.intro bh (And.intro bi H));clear V hF bB bh bi H;simp only[Y'];gi_wp2;obtain⟨bh,bi,H⟩:=i' bC;exact⟨bh.trans (i' cf).1,bi.trans (i' cf).2,H⟩
 ·intro k W h;have:=h.sz;omega
 ·intro W h hK;rw[bk]at hK ⊢;rw[bP,<-qe' rfl,<-pY' rfl]at h;obtain⟨lv,fs,Z,aR,M,D,J,O,ab,Q,ac,ad,_,_⟩:=h.mid;have c5:=t' (i:=0) M;simp at c5;have bp:=h.lo;have dV:=h.sz;have bC:=y' (And.intro D (And.intro J (And.intro O (And.intro ab (And.intro Q (And.intro ac ad))))));clear h M D J O ab Q ac ad;go_wp2;have bD:Far (fun k=>k=g0+6) W (W.putObj (g0+6) (.deferred none)):=⟨rfl,rfl,rfl,by rw[World.putObj_size];exact Nat.le_refl _,fun k _ h=>World.putObj_heap_other h⟩;refine⟨by simp, .inl ⟨_,_,rfl,run_takeDeferred hK,?_⟩⟩;obtain⟨D,J,O,ab,Q,ac,ad⟩:=i' bC;have dW:=i' bG;have aB:∀j,PaU p Z j->¬j=g0+6:=fun j hj e=>by
   rcases Q j hj with h1|h1
   ·have:=bp j h1;omega
   ·omega
  rw[i' bO]at D O;refine⟨_,results_tmp rfl _ _ _,_,fs,Z,aR,rfl,?_,J.far bD aB,O,ab.trans bD (fun k G e=>by omega),fun j hj=>(Q j hj).imp id (fun h=>by omega),ac,ad⟩;have:=D.keep (x:=W.putObj (g0+6) (.deferred none)) (fun k G=>bD.rest k (D.lt k G).2 (by have:=(D.lt k G).1;omega));exact⟨this.len,au' this.row (by omega),fun j v hj=>au' (this.each j v hj) (by omega),this.apart,this.clear⟩
end
end Go.Proofs.YtamafdcnbcoegabGreat
namespace Go.Proofs.YtamafdcnbcoegabGreat
open Go.RowKit
theorem Q'.up {B B':Nat} {z:World} {lv:Value} {fs:List Value} {D:List ByteArray} {F:Nat->Prop} (h:Q' B z lv fs D (fun _=>False)) (G:B'<=B) (H:∀k,F k->k < B):Q' B' z lv fs D F:=by
 refine⟨h.len,au' h.row G,fun j v hj=>au' (h.each j v hj) G,h.apart,fun k r hu=>?_⟩;have:=H k hu;rcases r with r|r
 ·have:=(World.ownsRow.lt h.row k r).1;omega
 ·obtain⟨j,hj,u,I,r⟩:=r;have:=(World.ownsRow.lt (h.each j u I) k r).1;omega
theorem sd' {w:World} {p e:Nat} {logs:Nat->List ByteArray} {sh:Nat->List (Nat×Value)} {st:Mod.Stv} {c:Sv} (r:aN' w p e logs sh st c) {v q:Nat} (z:w.heap[v]? =some (.cells #[A' q] 79 (0,0))):¬PkU p c v:=
 cp' r z (by decide) (by decide) (by decide) (by decide) (by decide) (by decide) (by decide) (by decide)
def lr' (a:Mod.Ag) (t s:Nat):List ByteArray:=(Mod.sendOut a.epoch t a.fl s).map fun l=>⟨l.toArray⟩
theorem jX' (a:Mod.Ag) (t s:Nat):lr' a t (s+1)=lr' a t s++bN' (bt' a t s) s t 4:=by
 unfold lr' bN';rw[gx'];show(Mod.sendOut a.epoch t a.fl s++(Mod.sendTo a.epoch s (a.fl s) t 4).2).map _= _;rw[List.map_append];rfl
theorem kC' {r:Type} {l z:List r} {j:Nat} {u:r} (h:(l++z)[j]? =some u):(l[j]? =some u/\j < l.length)\/(z[j - l.length]? =some u/\l.length<=j):=by
 by_cases hj:j < l.length
 ·rw[List.getElem?_append_left hj]at h;exact .inl ⟨h,hj⟩
 ·rw[List.getElem?_append_right (by omega)]at h;exact .inr ⟨h,by omega⟩
theorem mH' {B:Nat} {x y X:World} {lv ak H:Value} {fs z:List Value} {D F:List ByteArray} {I U':Nat->Prop}
  (h1:Q' B x lv fs D I) (h2:Q' x.heap.size y ak z F U') (hF:Far I x y) (Z:∀k,U' k->I k\/x.heap.size<=k) (ao:∀k,U' k->k < y.heap.size) (ap:B<=x.heap.size)
  (aq:X.ownsRow B 48 1 H (fs.length+z.length) (fs++z)) (aa:y.grownBy X lv.ownBlock) (hl:H.ownBlock=lv.ownBlock\/H.ownBlock=some y.heap.size):Q' B X H (fs++z) (D++F) U':=by
 have ab:=h1.len;have au:=h2.len;have aC:=hF.size;have ac:∀k,lv.ownBlock=some k->B<=k/\k < x.heap.size:=fun k r=>h1.lt k (.inl r);have J:∀ (j:Nat) (u:Value),fs[j]? =some u->∀k,u.ownBlock=some k->B<=k/\k < x.heap.size/\¬I k/\lv.ownBlock≠some k:=fun j u hj k r=>by have hd:pB' fs fs.length k:=⟨j,(List.getElem?_eq_some_iff.1 hj).1,u,hj,r⟩;have h3:=h1.lt k (.inr hd);exact⟨h3.1,h3.2,h1.clear k (.inr hd),uG' (wq' (h1.each j u hj)) (wq' h1.row) (by decide) r⟩
 have M:∀ (j:Nat) (u:Value),z[j]? =some u->∀k,u.ownBlock=some k->x.heap.size<=k/\k < y.heap.size/\¬U' k:=fun j u hj k r=>by have hd:pB' z z.length k:=⟨j,(List.getElem?_eq_some_iff.1 hj).1,u,hj,r⟩;have h3:=h2.lt k (.inr hd);exact⟨h3.1,h3.2,h2.clear k (.inr hd)⟩
 refine⟨by simp[ab,au],by simpa using aq,fun j u hj=>?_,fun ad ah u1 u2 av ax ay k O Q=>?_,fun k r hu=>?_⟩
 ·rcases kC' hj with ⟨hj,az⟩|⟨hj,az⟩
  ·have e:((D++F).map fun b=>b.data.toList).getD j []=(D.map fun b=>b.data.toList).getD j []:=by rw[List.getD_eq_getElem?_getD,List.getD_eq_getElem?_getD,List.map_append,List.getElem?_append_left (by simp;omega)]
   rw[e];exact R' (h1.each j u hj) (fun k r=>by obtain⟨ai,U,V,aj⟩:=J j u hj k r;exact(aa.block k (by omega) (fun e=>aj e.symm)).trans (hF.rest k U V))
  ·have e:((D++F).map fun b=>b.data.toList).getD j []=(F.map fun b=>b.data.toList).getD (j - fs.length) []:=by rw[List.getD_eq_getElem?_getD,List.getD_eq_getElem?_getD,List.map_append,List.getElem?_append_right (by simp;omega)];simp[ab]
   rw[e];refine au' (R' (h2.each _ u hj) (fun k r=>?_)) ap;obtain⟨ai,U,V⟩:=M _ u hj k r;exact aa.block k U (fun e=>by have:=(ac k e.symm).2;omega)
 ·rcases kC' av with ⟨a1,Y⟩|⟨a1,Y⟩ <;> rcases kC' ax with ⟨G,aA⟩|⟨G,aA⟩
  ·exact h1.apart ad ah u1 u2 a1 G ay k O Q
  ·have:=J ad u1 a1 k O;have:=M _ u2 G k Q;omega
  ·have:=J ah u2 G k Q;have:=M _ u1 a1 k O;omega
  ·exact h2.apart _ _ u1 u2 a1 G (by omega) k O Q
 ·rcases r with r|⟨j,hj,u,aB,r⟩
  ·rcases hl with e|e
   ·rw[e]at r;have h3:=ac k r;rcases Z k hu with h4|h4
    ·exact h1.clear k (.inl r) h4
    ·omega
   ·rw[e]at r;injection r with r;have:=ao k hu;omega
  ·rcases kC' aB with ⟨a1,Y⟩|⟨a1,Y⟩
   ·obtain⟨ai,U,V,aj⟩:=J j u a1 k r;rcases Z k hu with h4|h4
    ·exact V h4
    ·omega
   ·exact(M _ u a1 k r).2.2 hu
theorem ls' {I:Array Oper} {rest:List Oper} {o:Oper} {a:Act} {J:Exit->Act->World->Prop} {w:World} (M:o.guard=none) (s x:Operand) (t:TypeId) (O:o.op= .call {callee:= .builtin .append,args:= #[s,x],argTypes:= #[t,t]})
  (base:Nat) (e:TypeId) (F:Value) (size bytes:Nat) (G:Tryz.prog.underlying t=some (.slice e)) (V:(Tryz.prog.info? e).map (fun i=>(i.zero,i.size,i.bytes))=some (some F,size,bytes)) (X:F.cells.size=size) (Y:0 < size)
  (v:Value) (n:Nat) (xs:List Value) (H:w.ownsRow base e size v n xs) (hs:a.eval s=v) (Z:Nat) (Q:Value) (m:Nat) (z:List Value) (D:w.ownsRow Z e size Q m z) (U:a.eval x=Q)
  (h1:∀u∈z,u.oneCell'=true) (aa:n+m<=maxLen) (ab:(n+m) * bytes<=140737488355328) (ac:base<=w.heap.size)
  (h:∀r w',w'.ownsRow base e size r (n+m) (xs++z)->w.grownBy w' v.ownBlock->(r.ownBlock=v.ownBlock\/r.ownBlock=some w.heap.size)->wpList Tryz.prog I J rest (a.put o.dst r) w'):wpList Tryz.prog I J (o::rest) a w:=by
 obtain⟨i0,hi,ad,ah,ai⟩:=bp' V;rcases D.2 with ⟨rfl,rfl⟩|⟨g,cap,aj,rfl,ay,az,aA,aB,aC,aD⟩
 ·have ak:z=[]:=by have:=D.1;simpa using this
  subst ak;refine wpList_plain M fun K hK=>?_;have ao:(Builtin.append_ #[t,t] o.type #[v, .slice none 0 0]).run Tryz.prog w= .ok v w:=by
   rcases H.2 with ⟨rfl,rfl⟩|⟨g,cap,aj,rfl,_,_,ap,_⟩
   ·simp[Builtin.append_,run_underlying G,sizeOf,typeInfo,hi,Builtin.lenOf,Builtin.firstCells]
   ·simp[Builtin.append_,run_underlying G,sizeOf,typeInfo,hi,Builtin.lenOf,Builtin.firstCells,ap,storeCells]
  unfold Oper.wp;simp[execOp,O,resolve,invoke,builtin,hs,U,ao,Result.andThen];exact hK _ _ (h v w (by simpa using H) (World.grownBy.refl _ _) (.inl rfl))
 ·refine wpList_append_own_at w M s x t O base e i0 F size bytes G hi ad ah ai X Y v n xs hs H ⟨g,0,none⟩ m cap z U D.1 ?_ h1 aa ab ac (fun r w' aq au _ av=>h r w' aq au av);intro j u hj;have ax:j < m * size:=by rw[<-D.1];exact(List.getElem?_eq_some_iff.1 hj).1
  have:=World.ownsRow.cellAt D j ax;rw[hj]at this;rw[cO',Nat.zero_add];exact this
theorem lt' (a:Mod.Ag) (i t:Nat):(bN' a i t 4).length<=4:=by
 unfold bN';rw[List.length_map];exact hA' _ _ _ _ _
theorem lu' (a:Mod.Ag) (t:Nat):∀j,(lr' a t j).length<=4 * j
 |0=>Nat.le_refl _
 |j+1=>by have ih:=lu' a t j;have h:=lt' (bt' a t j) j t;rw[jX',List.length_append];omega
theorem Q'.one {B:Nat} {w:World} {lv:Value} {fs:List Value} {r:List ByteArray} {z:Nat->Prop} (h:Q' B w lv fs r z):∀u∈fs,u.oneCell'=true:=by
 intro u hu;obtain⟨j,hj,rfl⟩:=List.getElem_of_mem hu;obtain⟨D,cap,e,_⟩:=(aq' (h.each j _ (List.getElem?_eq_getElem hj))).shape;rw[e];rfl
section
variable {w:World} {p:Nat} {g:Nat->Nat} {free:List Nat} {sh:Nat->List (Nat×Value)} {st:Mod.Stv} {c:Av} {a:Mod.Ag} {pl:Nat->List Nat}
end
section
variable {top N:Nat} {C:jf' top} {w x y:World} {q sv rp f:Nat} {a ar ap:Mod.Ag} {r:wY'} {kv kvc hk hkc:Nat->Value} {U U':Nat->Prop} {left:Int} {i:Int} {s:ByteArray}
end
theorem jr' {a:Mod.Ag} {i:Int} {n:Nat} (h:a.refuses i n=0):(0<=i/\i < 3)/\n<=20/\a.room < 24:=by
 unfold Mod.Ag.refuses at h;split at h
 ·simp at h
 ·split at h
  ·simp at h
  ·split at h
   ·simp at h
   ·omega
section
variable {w:World} {p:Nat} {g:Nat->Nat} {free:List Nat} {sh:Nat->List (Nat×Value)} {st:Mod.Stv} {c:Av} {a:Mod.Ag} {pl:Nat->List Nat}
end
def xM' (w:World) (v:Nat) (a:Mod.Ag) (r:Nat->Prop):Prop:=
 ∃p g free sh z st c,w.heap[v]? =some (.cells #[A' p] 76 (0,0))/\aC' w p g a.ticks a.welcome a.fenced free sh st c/\xb' st/\aQ' a st.opening g free sh z/\r=fun k=>k=v\/PaU p c k
section
variable {w z:World} {p v:Nat} {g:Nat->Nat} {tk:Nat} {wel fen:Bool} {free:List Nat} {sh:Nat->List (Nat×Value)} {st:Mod.Stv} {c:Av} {a a':Mod.Ag} {U:Nat->Prop} {N:Nat}
theorem hB' (r:aC' w p g tk wel fen free sh st c) {q:Nat} (D:w.heap[v]? =some (.cells #[A' q] 76 (0,0))):¬PaU p c v:=
 cR' r D (by decide) (by decide) (by decide) (by decide) (by decide) (by decide) (by decide)
theorem qj' (h:xM' w v a U):
  Calls Tryz.prog 24 #[A' v] w fun D w'=>D= .returned (.int .i64 a.epoch)/\Below w.heap.size w w':=by
 obtain⟨p,g,free,sh,M,st,c,F,G,hs,H,rfl⟩:=h;have c0:w.cell? ⟨v,0,none⟩=some (A' p):=t' (i:=0) F;have r:=bq' G;rw[H.ep]at r;have I:=y' r;clear G F r H;unfold A' at *;go_enter Tryz.func24,Tryz.ntmps24;go_wp2_with (go_at_call 52;refine(i' I).mono ?_;rintro D y ⟨rfl,J⟩;obtain rfl:w=y:=J.symm);go_ret;exact⟨rfl,Below.refl _ _⟩
end
end Go.Proofs.YtamafdcnbcoegabGreat
