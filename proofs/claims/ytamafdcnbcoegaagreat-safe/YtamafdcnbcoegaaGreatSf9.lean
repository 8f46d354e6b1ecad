/-
  Part 9 of a proof: MonoFootIn, L21, L22, MonoIn, L23, K19, L24, L25, U3, L26.
-/
import Derived.OrdersIn
import Derived.Maps.AppendAt
import Derived.Sort.CutIn
import Derived.Test.YtamafdcnbcoegaaGreatSf8
set_option maxRecDepth 100000
set_option maxHeartbeats 40000000
namespace Go.Proofs.YtamafdcnbcoegaaGreat
open Go.RowKit
section
variable {P:Program} {ops:Array Oper} {Q:Exit->Act->World->Prop} {lr n:Nat}
theorem oZ' {a0:Act} {w0:World} (z:Nat->Value->World->Prop) (E:Nat->Nat->Prop) (ab:bq' ops a0.tmps.size=true)
  (aD:∀i j v w w',i≠j->ar' ops j i=false->z j v w->Far (E i) w w'->z j v w')
  (aE:∀i o,ops[i]? =some o->∀a w,Far (fun b=>∃k,k≠i/\ar' ops k i=false/\E k b) w0 w->bo' ops z a0 i o a w->
   if Region.wanted o (yielded ops a.tmps)=true then Oper.wpIn (Fence.wide.inRound lr) n P o a w (fun a' w'=>∃v,a'=a.put o.dst v/\Far (E i) w w'/\z i (iX' o.dst v) w') Q else z i undef w)
  (aF:∀a w,Far (fun b=>∃k,E k b) w0 w->(∀i o,ops[i]? =some o->z i (match o.dst with|some d=>a.tmps.getD d undef|none=>undef) w)->(∀t,wr ops t=none->a.tmps.getD t undef=a0.tmps.getD t undef)->a.defers=a0.defers->a.tmps.size=a0.tmps.size->Q .normal a w):
  ∀ (I:Nat) (L:Array Bool) (a:Act) (w:World),fQ' ops z E a0 w0 L a w->(List.range ops.size).countP (fun i=> !L.getD i false)<=I->wpAnyIn (Fence.wide.inRound lr) n P .any ops Q I L a w:=by
 have au:∀ (L:Array Bool) (a:Act) (w:World),fQ' ops z E a0 w0 L a w->Region.ready .any ops L=[]->Q .normal a w:=by
  intro L a w f Y;have aG:∀n i,i < n->i < ops.size->L.getD i false=true:=by
   intro n;induction n with
   |zero=>intro i h;omega
   |succ n ih=>
    intro i h hi;by_cases aH:i < n
    ·exact ih i aH hi
    ·have e:i=n:=by omega
     subst e;cases av:L.getD i false
     ·exfalso;have u:ops[i]? =some ops[i]:=Array.getElem?_eq_getElem hi;obtain⟨_,_,h3⟩:=ah' ab u;have:i∈Region.ready .any ops L:=mem_ready.2 ⟨by
       have hs:i < L.size:=by rw[f.size];exact hi
       rw[Array.getD_eq_getD_getElem?,Array.getElem?_eq_getElem hs]at av ⊢;exact av,ops[i],u,fun e ac D=>by
       have hd:ar' ops i e.on=true:=by unfold ar';rw[u];exact Array.any_eq_true'.2 ⟨e,ac,by simp[D]⟩
       have H:=h3 _ hd;exact ih e.on H (by omega)⟩
      rw[Y]at this;cases this
     ·rfl
  refine aF a w (f.ext.mono (fun b _ h=>h.imp fun k h=>h.2)) (fun i o u=>f.vals i o u (aG ops.size i (Array.getElem?_eq_some_iff.1 u).1 (Array.getElem?_eq_some_iff.1 u).1)) (fun t J=>f.rest t (fun j hj=>by rw[J]at hj;cases hj)) f.defers f.tsize
 intro I;induction I with
 |zero=>
  intro L a w f aI;have Y:Region.ready .any ops L=[]:=by
   apply List.eq_nil_iff_forall_not_mem.2;intro i hi;obtain⟨h0,o,u,_⟩:=mem_ready.1 hi;have H:i < ops.size:=(Array.getElem?_eq_some_iff.1 u).1;have F:L.getD i false=false:=by
    have hs:i < L.size:=by rw[f.size];exact H
    rw[Array.getD_eq_getD_getElem?,Array.getElem?_eq_getElem hs]at h0 ⊢;exact h0
   have:0 < (List.range ops.size).countP (fun i=> !L.getD i false):=List.countP_pos_iff.2 ⟨i,List.mem_range.2 H,by simp[F]⟩;omega
  exact⟨Y,au L a w f Y⟩
 |succ I ih=>
  intro L a w f aI;refine⟨au L a w f,fun i hi=>?_⟩;obtain⟨h0,o,u,aJ⟩:=mem_ready.1 hi;have H:i < ops.size:=(Array.getElem?_eq_some_iff.1 u).1;have ad:i < L.size:=by rw[f.size];exact H
  have F:L.getD i false=false:=by rw[Array.getD_eq_getD_getElem?,Array.getElem?_eq_getElem ad]at h0 ⊢;exact h0
  obtain⟨hd,hl,aN⟩:=ah' ab u;have ax:∀j,ar' ops i j=true->L.getD j false=true:=by intro j hj;unfold ar' at hj;rw[u]at hj;obtain⟨e,ac,D⟩:=Array.any_eq_true'.1 hj;simp only[Bool.and_eq_true,beq_iff_eq]at D;rw[<-D.2];exact aJ e ac D.1
  have aK:bo' ops z a0 i o a w:=by
   intro t J;cases G:wr ops t with
   |none=>exact f.rest t (fun j hj=>by rw[G]at hj;cases hj)
   |some j=>
    simp only[];have hj:=List.find?_some G;simp only[beq_iff_eq]at hj;split
    ·rename_i ah;cases ai:ops[j]? with
     |none=>rw[ai]at hj;cases hj
     |some ay=>rw[ai]at hj;have az:=f.vals j ay ai (ax j ah);have Z:ay.dst=some t:=hj;rw[Z]at az;exact az
    ·rename_i ah;refine f.rest t (fun aO Z=>?_);rw[G]at Z;cases Z;rcases hl t J j G with h|h
     ·exact absurd h ah
     ·cases aj:L.getD j false
      ·rfl
      ·have:=f.closed j aj i h;rw[F]at this;cases this
  have aA:∀v w',Far (E i) w w'->z i (iX' o.dst v) w'->fQ' ops z E a0 w0 (L.setIfInBounds i true) (a.put o.dst v) w':=by
   intro v w' D M;have O:∀k,(L.setIfInBounds i true).getD k false=true↔ (k=i\/L.getD k false=true):=by
    intro k;by_cases r:k=i
    ·subst r;simp[Array.getD_eq_getD_getElem?,ad]
    ·rw[getD_set_ne false (fun e=>r e.symm)];simp[r]
   have ak:∀t,(a.put o.dst v).tmps.getD t undef=if o.dst=some t then v else a.tmps.getD t undef:=by
    intro t;cases U:o.dst with
    |none=>simp[Act.put]
    |some d=>
     simp only[Act.put,Option.some.injEq];have aL:d < a.tmps.size:=by rw[f.tsize];exact(hd d U).1
     by_cases h:d=t
     ·subst h;simp[Array.getD_eq_getD_getElem?,aL]
     ·simp[Array.getD_eq_getD_getElem?,h]
   refine⟨by simp[f.size],(f.ext.mono (fun b _ h=>by obtain⟨k,h1,h2⟩:=h;exact⟨k,(O k).2 (.inr h1),h2⟩)).trans D (fun b _ h=>⟨i,(O i).2 (.inl rfl),h⟩),?_,?_,?_,?_,?_⟩
   ·intro k r j hj;rw[O]at r ⊢;rcases r with rfl|r
    ·exact .inr (ax j hj)
    ·exact .inr (f.closed k r j hj)
   ·intro k ok aa r;rw[O]at r;rcases r with rfl|r
    ·rw[u]at aa;cases aa;cases U:o.dst with
     |none=>rw[U]at M;exact M
     |some d=>rw[U]at M;simp only[];have aB:=ak d;rw[if_pos U,U]at aB;rw[aB];exact M
    ·have V:i≠k:=by intro e;subst e;rw[F]at r;cases r
     have aM:ar' ops k i=false:=by
      cases hd:ar' ops k i with
      |false=>rfl
      |true=>have:=f.closed k r i hd;rw[F]at this;cases this
     have X:=aD i k _ _ _ V aM (f.vals k ok aa r) D;cases ao:ok.dst with
     |none=>rw[ao]at X;exact X
     |some d=>
      rw[ao]at X;simp only[]at X ⊢;have ap:o.dst≠some d:=by intro e;have h1:=(hd d e).2;have h2:=((ah' ab aa).1 d ao).2;rw[h1]at h2;cases h2;exact V rfl
      rw[ak,if_neg ap];exact X
   ·intro t J;rw[ak];have ap:o.dst≠some t:=by intro e;have:=J i (hd t e).2;have h2:=(O i).2 (.inl rfl);rw[this]at h2;cases h2
    rw[if_neg ap];refine f.rest t (fun j hj=>?_);cases aj:L.getD j false
    ·rfl
    ·have:=J j hj;rw[(O j).2 (.inr aj)]at this;cases this
   ·cases o.dst <;> exact f.defers
   ·rw[<-f.tsize];cases o.dst <;> simp[Act.put]
  have aC:(List.range ops.size).countP (fun k=> !(L.setIfInBounds i true).getD k false)<=I:=by
   have:=cd' (l:=List.range ops.size) (p:=fun k=> !L.getD k false) (q:=fun k=> !(L.setIfInBounds i true).getD k false)
    (fun k _ r=>by
     by_cases V:k=i
     ·subst V;simp[F]
     ·rw[getD_set_ne false (fun e=>V e.symm)]at r;exact r)
    ⟨i,List.mem_range.2 H,by simp[F],by simp[Array.getD_eq_getD_getElem?,ad]⟩
   omega
  have aq:=aE i o u a w (f.ext.mono (fun b _ h=>by
   obtain⟨k,h1,h2⟩:=h;refine⟨k,fun e=>?_,?_,h2⟩
   ·subst e;rw[F]at h1;cases h1
   ·cases hd:ar' ops k i with
    |false=>rfl
    |true=>have:=f.closed k h1 i hd;rw[F]at this;cases this)) aK
  unfold wpOpIn;rw[u];simp only[];split at aq
  ·rename_i G;rw[if_pos G];refine Oper.wpIn_mono ?_ aq;rintro a' w' ⟨v,rfl,D,M⟩;exact ih _ _ _ (aA v w' D M) aC
  ·rename_i G;rw[if_neg G];exact⟨fun _ _=>trivial,ih _ _ _ (aA undef w (Far.refl _ _) (by cases o.dst <;> exact aq)) aC⟩
def iH' (lr n:Nat) (P:Program) (ops:Array Oper) (Q:Exit->Act->World->Prop) (L:List (Value->World->Prop)) (f:List (Nat× (Nat->Prop))) (a0:Act) (w0:World):Nat->List Oper->List (List (Tmp×Option Nat))->List (Value->World->Prop)->Prop
 |i,o::os,u::z,r::D=>(∀a w,Far (dk' f ops i) w0 w->I' L a0 a w u->
   if Region.wanted o (yielded ops a.tmps)=true then Oper.wpIn (Fence.wide.inRound lr) n P o a w (fun a' w'=>∃v,a'=a.put o.dst v/\Far (ej' f i) w w'/\r (iX' o.dst v) w') Q else r undef w)/\iH' lr n P ops Q L f a0 w0 (i+1) os z D
 | _,[],_,_=>True
 | _,_,_,_=>False
theorem gm' {L:List (Value->World->Prop)} {F:List (Nat× (Nat->Prop))} {a0:Act} {w0:World}:∀ {s:Nat} {os:List Oper} {u:List (List (Tmp×Option Nat))} {z:List (Value->World->Prop)},iH' lr n P ops Q L F a0 w0 s os u z->
  ∀ (i:Nat) o f,os[i]? =some o->u[i]? =some f->∀a w,Far (dk' F ops (s+i)) w0 w->I' L a0 a w f->
   if Region.wanted o (yielded ops a.tmps)=true then Oper.wpIn (Fence.wide.inRound lr) n P o a w (fun a' w'=>∃v,a'=a.put o.dst v/\Far (ej' F (s+i)) w w'/\z.getD i (fun _ _=>True) (iX' o.dst v) w') Q else z.getD i (fun _ _=>True) undef w
 | _,[],_,_,_,i,o,f,r,_=>by simp at r
 | _,o::os,[],_,h,_,_,_,_,_=>h.elim
 | _,o::os,f::u,[],h,_,_,_,_,_=>h.elim
 | _,o::os,f::u,H::z,h,0,G,pl',r,D=>by simp at r D;subst r;subst D;exact h.1
 |s,o::os,f::u,H::z,h,i+1,G,pl',r,D=>by have:=gm' h.2 i G pl' (by simpa using r) (by simpa using D);rw[show s+1+i=s+(i+1) by omega]at this;simpa using this
theorem iI' {id:Nat} {a0:Act} {w0:World} (U:P.follows .mixedOrders=true) (L:List (Value->World->Prop)) (G:List (List (Tmp×Option Nat))) (J:List (Option Tmp)) (H:List Bool) (u:List (Nat× (Nat->Prop)))
  (V:mm' u=true) (X:bq' ops a0.tmps.size=true) (Y:bR' ops=G) (Z:ei' ops=J) (M:be' ops a0.tmps.size=H) (aa:bs' L) (ab:eG' ops L u) (ac:iH' lr n P ops Q L u a0 w0 0 ops.toList G L)
  (ad:∀O w,Far (fun b=>∃p∈u,p.2 b) w0 w->cf' O w J L->Q .normal {tmps:=(R' H a0.tmps.toList 0 O).toArray,defers:=a0.defers} w):
  (Code.region id ops true).wpIn (Fence.wide.inRound lr) n P Q a0 w0:=by
 refine wpIn_region_any U (oZ' (w0:=w0) (fun i=>L.getD i (fun _ _=>True)) (ej' u) X ?_ ?_ ?_ ops.size _ a0 _ ⟨by simp,A' ((Below.refl _ _).drew),?_,?_,fun _ _=>rfl,rfl,rfl⟩ ?_)
 ·intro i j v w w' aq hd F hF;by_cases hi:∃p∈u,p.1=i
  ·obtain⟨p,z,rfl⟩:=hi;have hs:=ek' (dw' ab p z) j (by omega) (by rw[Nat.zero_add];exact hd);exact hs v w w' F (hF.mono (fun b _ h=>by obtain⟨q,I,e,f⟩:=h;rw[it' V z I e.symm];exact f))
  ·exact bi' aa j v w w' F (hF.below (Nat.le_refl _) (fun k _ h=>by obtain⟨q,I,e,_⟩:=h;exact hi ⟨q,I,e⟩))
 ·intro i o D a w f ah;have ai:i < ops.size:=(Array.getElem?_eq_some_iff.1 D).1;have aj:G[i]? =some ((o.looksAt ops).map fun t=>(t,match wr ops t with
     |some j=>if ar' ops i j=true then some j else none
     |none=>none)):=by
   rw[<-Y];unfold bR';rw[List.getElem?_map,List.getElem?_range ai,Option.map_some,D];try rfl
  have:=gm' ac i o _ (by simpa using D) aj a w (by rw[Nat.zero_add];exact f.mono (fun b _ h=>by obtain⟨k,h1,h2,p,z,rfl,h3⟩:=h;exact⟨p,z,h1,h2,h3⟩)) (bd' rfl (o:=o) _ ah);rw[Nat.zero_add]at this;exact this
 ·intro a w f F ak hd hs;have h:=ad (fun t=>a.tmps.getD t undef) w (f.mono (fun b _ h=>by obtain⟨k,p,z,_,h3⟩:=h;exact⟨p,z,h3⟩)) (by rw[<-Z];exact eH' (fun i o D=>F i o (by simpa using D)));have e:R' H a0.tmps.toList 0 (fun t=>a.tmps.getD t undef)=a.tmps.toList:=by
   refine ce' _ _ _ _ _ (by rw[<-M];simp[be']) (by simpa using hs) ?_ ?_
   ·intro j hj _;simp[Array.getD_eq_getD_getElem?,List.getD_eq_getElem?_getD]
   ·intro j hj f;rw[<-M]at f;have ao:j < a0.tmps.size:=by rw[<-hs];simpa using hj
    have ap:wr ops j=none:=by unfold be' at f;simp[List.getD_eq_getElem?_getD,List.getElem?_map,List.getElem?_range ao]at f;exact f
    have:=ak j ap;simpa[Array.getD_eq_getD_getElem?,List.getD_eq_getElem?_getD]using this
  rw[e,<-hd]at h;exact h
 ·intro k r;simp[Array.getD_eq_getD_getElem?]at r;rcases h:(Array.replicate ops.size false)[k]? with _|b <;> simp[h]at r;subst r;have:=Array.getElem?_eq_some_iff.1 h;obtain⟨h1,h2⟩:=this;simp at h2
 ·intro i o D r;exfalso;simp[Array.getD_eq_getD_getElem?]at r;rcases h:(Array.replicate ops.size false)[i]? with _|b <;> simp[h]at r;subst r;have:=Array.getElem?_eq_some_iff.1 h;obtain⟨h1,h2⟩:=this;simp at h2
 ·exact Nat.le_trans List.countP_le_length (by simp)
end
theorem gH' (e s:Nat) (f:Mod.Flow) (t:Nat):∀k,(Mod.sendTo e s f t k).1.map (·.1)=f.kept.map (·.1)
 |0=>rfl
 |k+1=>by
  have ih:=gH' e s f t k;by_cases h:k < f.kept.length
  ·cases hd:Mod.due f t k f.kept[k].2 with
   |false=>rw[ea' h hd];exact ih
   |true=>
    rw[eb' h hd];simp only[List.map_set,ih];refine List.ext_getElem? fun n=>?_;rw[List.getElem?_set];by_cases r:k=n
    ·subst r;rw[if_pos rfl,if_pos (by simpa using h),List.getElem?_map,List.getElem?_eq_getElem h];rfl
    ·rw[if_neg r]
  ·rw[aS' (by omega)];exact ih
def bD' (a:Mod.Ag) (i tk k:Nat):List ByteArray:=(Mod.sendTo a.epoch i (a.fl i) tk k).2.map fun l=>⟨l.toArray⟩
theorem pa' {a:Mod.Ag} {i tk k:Nat} (f:k < (a.fl i).kept.length) (hd:Mod.due (a.fl i) tk k (a.fl i).kept[k].2=true):bD' a i tk (k+1)=bD' a i tk k++[⟨(Wire.bytes 3 a.epoch i ((a.fl i).base+1+k:Nat) (a.fl i).kept[k].1.data.toList).toArray⟩]:=by
 unfold bD';rw[eb' f hd];simp
theorem pb' {a:Mod.Ag} {i tk k:Nat} (f:k < (a.fl i).kept.length) (hd:Mod.due (a.fl i) tk k (a.fl i).kept[k].2=false):bD' a i tk (k+1)=bD' a i tk k:=by
 unfold bD';rw[ea' f hd]
theorem pc' {a:Mod.Ag} {i tk k:Nat} (h:k=min 4 (a.fl i).kept.length):bD' a i tk 4=bD' a i tk k:=by
 unfold bD';rw[je' (i:=k) (by omega) (by omega)]
section
variable {w W:World} {g0 p i:Nat} {c:Av} {st:Mod.Stv} {g:Nat->Nat} {free:List Nat} {sh:Nat->List (Nat×Value)} {pl:Nat->List Nat} {F:List ByteArray} {a:Mod.Ag} {tk k:Nat}
theorem cl'.iterK (h:cl' w g0 p i c st g free pl F (aG' a i tk k) W) (hi:i < 3):ne' W (g0+4) p (4+i * 6) 4 (c.nv (i * 3)) (c.mv (i * 3)) (aB' (a.fl i).base (a.fl i).kept (pl i)):=by
 have:=h.iter hi;rw[ds']at this;rw[eM' (a.fl i).base (a.fl i).kept (Mod.sendTo a.epoch i (a.fl i) tk k).1 (pl i) (gH' _ _ _ _ _).symm];exact this
theorem pd' (f:aA' w p g a.ticks a.welcome a.fenced free sh st c) (u:aO' a st.opening g free sh pl) (z:g0=w.heap.size) (D:Below g0 w W)
  (h0:W.heap[g0]? =some (.cells #[.pointer (some ⟨p,0,none⟩)] 88 (0,0)))
  (h1:W.heap[g0+1]? =some (.cells #[.int .i64 i] 3 (0,0)))
  (h2:W.heap[g0+2]? =some (.cells #[.slice none 0 0] 38 (0,0)))
  (h3:W.heap[g0+3]? =some (.cells #[.pointer (some ⟨p,4+i * 6,none⟩)] 213 (0,0)))
  (h4:W.heap[g0+4]? =some (.cells #[.pointer (some ⟨p,4+i * 6,none⟩)] 209 (0,0)))
  (h5:W.heap[g0+5]? =some (.cells #[.int .i64 4] 3 (0,0))) (G:g0+8<=W.heap.size):
  cl' w g0 p i c st g free pl (bD' a i tk 0) (aG' a i tk 0) W:=by
 have r:Below w.heap.size w W:=by rw[<-z];exact D
 rw[oT'];refine⟨h0,h1,h3,h4,h5,⟨_,[],c,sh,h2,⟨rfl,World.ownsRow_nil _ _ _ _,(fun j v hj=>by simp at hj),(fun i j I v hi=>by simp at hi),fun k H=>?_⟩,f.below r,u,A' r,fun j hj=> .inl hj,rfl,rfl,rfl,rfl⟩,G,fun j hj=>by have:=f.lt j hj;omega,by omega⟩;rcases H with h|⟨j,hj,_⟩
 ·cases h
 ·simp at hj
end
section
variable {w W z:World} {g0 p i:Nat} {c c':Av} {st:Mod.Stv} {g:Nat->Nat} {free:List Nat} {sh:Nat->List (Nat×Value)} {pl:Nat->List Nat} {F:List ByteArray} {A:Mod.Ag} {lv lv' v:Value} {fs:List Value} {b:ByteArray}
theorem sF' (h:cl' w g0 p i c st g free pl F A W) (ak:W.heap[g0+2]? =some (.cells #[lv] 38 (0,0))) (u:L' (g0+8) W lv fs F (PaU p c')) (O:aA' W p g A.ticks A.welcome A.fenced free sh st c') (ao:aO' A st.opening g free sh pl) (ap:Far (PaU p c) w W)
  (ac:∀j,PaU p c' j->PaU p c j\/g0+8<=j) (aq:c'.s=c.s) (au:c'.rv=c.rv) (av:c'.nv (i * 3)=c.nv (i * 3)) (ax:c'.mv (i * 3)=c.mv (i * 3))
  (hF:Far (fun k=>lv.ownBlock=some k) W z) (ad:as' W.heap.size z v b.data.toList) (ah:z.ownsRow (g0+8) 44 1 lv' (fs.length+1) (fs++[v])) (hl:∀k,lv'.ownBlock=some k->lv.ownBlock=some k\/W.heap.size<=k):
  cl' w g0 p i c st g free pl (F++[b]) A (z.setCell ⟨g0+2,0,none⟩ lv'):=by
 have Q:=O' z (g0+2) 0 lv';have ai:=h.sz;have aI:=h.gw;have aJ:=hF.size;have U:∀k,lv.ownBlock=some k->g0+8<=k/\k < W.heap.size:=fun k f=>u.lt k (.inl f);have H:Far (fun k=>lv.ownBlock=some k\/k=g0+2) W (z.setCell ⟨g0+2,0,none⟩ lv'):=(hF.mono (fun _ _ h=> .inl h)).trans Q (fun _ _ h=> .inr h);have ay:∀k,PaU p c' k->¬ (lv.ownBlock=some k\/k=g0+2):=fun k f e=>by
  rcases e with e|e
  ·exact u.clear k (.inl e) f
  ·rcases ac k f with h1|h1
   ·have:=h.lo k h1;omega
   ·omega
 have I:∀k,k≠g0+2->k < g0+8->(z.setCell ⟨g0+2,0,none⟩ lv').heap[k]? =W.heap[k]? :=fun k h1 h2=>H.rest k (by omega) (fun e=>e.elim (fun e=>by have:=(U k e).1;omega) (fun e=>h1 e));have az:=u.len;have J:∀k,v.ownBlock=some k->W.heap.size<=k/\k < z.heap.size:=fun k f=>World.ownsRow.lt ad k f;have V:∀ (j:Nat) (r:Value),fs[j]? =some r->∀k,r.ownBlock=some k->g0+8<=k/\k < W.heap.size/\lv.ownBlock≠some k:=fun j r hj k f=>by have h1:=World.ownsRow.lt (u.each j r hj) k f;exact⟨h1.1,h1.2,tg' (uF' (u.each j r hj)) (uF' u.row) (by decide) f⟩
 have aA:L' (g0+8) (z.setCell ⟨g0+2,0,none⟩ lv') lv' (fs++[v]) (F++[b]) (PaU p c'):=by
  refine⟨by simp[az],?_,fun j r hj=>?_,fun X Y u1 u2 aB aC aD k Z aa=>?_,fun k f hu=>?_⟩
  ·have:=M' ah (w':=z.setCell ⟨g0+2,0,none⟩ lv') (fun k f=>by have:=World.ownsRow.lt ah k f;exact Q.rest k this.2 (by omega));simpa using this
  ·by_cases D:j < fs.length
   ·rw[List.getElem?_append_left D]at hj;have e:((F++[b]).map fun b=>b.data.toList).getD j []=(F.map fun b=>b.data.toList).getD j []:=by rw[List.getD_eq_getElem?_getD,List.getD_eq_getElem?_getD,List.map_append,List.getElem?_append_left (by simp;omega)]
    rw[e];exact M' (u.each j r hj) (fun k f=>by obtain⟨h1,h2,h3⟩:=V j r hj k f;exact H.rest k h2 (fun e=>e.elim h3 (fun e=>by omega)))
   ·rw[List.getElem?_append_right (by omega)]at hj;have ab:j - fs.length=0:=by
     cases hd:j - fs.length with
     |zero=>rfl
     |succ n=>rw[hd]at hj;simp at hj
    rw[ab]at hj;simp at hj;subst hj;have e:((F++[b]).map fun b=>b.data.toList).getD j []=b.data.toList:=by rw[List.getD_eq_getElem?_getD,List.map_append,List.getElem?_append_right (by simp;omega)];simp[show j - F.length=0 by omega]
    rw[e];refine ap' (M' ad (fun k f=>?_)) (Nat.le_trans ai (Nat.le_refl _));have:=J k f;exact Q.rest k this.2 (by omega)
  ·have aj:∀ (j:Nat) (r:Value),(fs++[v])[j]? =some r->(fs[j]? =some r/\j < fs.length)\/(r=v/\j=fs.length):=fun j r hj=>by
    by_cases D:j < fs.length
    ·rw[List.getElem?_append_left D]at hj;exact .inl ⟨hj,D⟩
    ·rw[List.getElem?_append_right (by omega)]at hj;cases hd:j - fs.length with
     |zero=>rw[hd]at hj;simp at hj;exact .inr ⟨hj.symm,by omega⟩
     |succ n=>rw[hd]at hj;simp at hj
   rcases aj X u1 aB with ⟨a1,aE⟩|⟨a1,aE⟩ <;> rcases aj Y u2 aC with ⟨M,aF⟩|⟨M,aF⟩
   ·exact u.apart X Y u1 u2 a1 M aD k Z aa
   ·subst M;have:=V X u1 a1 k Z;have:=J k aa;omega
   ·subst a1;have:=V Y u2 M k aa;have:=J k Z;omega
   ·omega
  ·rcases f with f|⟨j,hj,r,G,f⟩
   ·rcases hl k f with h1|h1
    ·exact u.clear k (.inl h1) hu
    ·have:=O.lt k hu;omega
   ·by_cases D:j < fs.length
    ·rw[List.getElem?_append_left D]at G;exact u.clear k (.inr ⟨j,D,r,G,f⟩) hu
    ·rw[List.getElem?_append_right (by omega)]at G;have ab:j - fs.length=0:=by simp at hj;omega
     rw[ab]at G;simp at G;subst G;have:=J k f;have:=O.lt k hu;omega
 have aG:(z.setCell ⟨g0+2,0,none⟩ lv').heap[g0+2]? =some (.cells #[lv'] 38 (0,0)):=by have aH:z.heap[g0+2]? =some (.cells #[lv] 38 (0,0)):=(hF.rest (g0+2) (by omega) (fun e=>by have:=(U _ e).1;omega)).trans ak;have:=af' (j:=0) (v:=lv') aH;simpa using this
 exact⟨(I _ (by omega) (by omega)).trans h.h0,(I _ (by omega) (by omega)).trans h.h1,(I _ (by omega) (by omega)).trans h.h3,(I _ (by omega) (by omega)).trans h.h4,(I _ (by omega) (by omega)).trans h.h5,
  ⟨lv',fs++[v],c',sh,aG,aA,O.far H ay,ao,ap.trans H (fun k f e=>e.elim (fun e=>by have:=(U k e).1;omega) (fun e=>by omega)),ac,aq,au,av,ax⟩,Nat.le_trans ai H.size,h.lo,h.gw⟩
end
section
variable {P:Program} {ops:Array Oper} {Q:Exit->Act->World->Prop} {lr n:Nat}
theorem qT' {a0:Act} {w0:World} (z:Nat->Value->World->Prop) (V:bq' ops a0.tmps.size=true)
  (ay:∀i v w w',z i v w->Below w.heap.size w w'->z i v w')
  (az:∀i o,ops[i]? =some o->∀a w,Below w0.heap.size w0 w->bo' ops z a0 i o a w->
   if Region.wanted o (yielded ops a.tmps)=true then Oper.wpIn (Fence.wide.inRound lr) n P o a w (fun a' w'=>∃v,a'=a.put o.dst v/\Below w.heap.size w w'/\z i v w') Q else z i undef w)
  (aA:∀a w,Below w0.heap.size w0 w->(∀i o d,ops[i]? =some o->o.dst=some d->z i (a.tmps.getD d undef) w)->(∀t,wr ops t=none->a.tmps.getD t undef=a0.tmps.getD t undef)->a.defers=a0.defers->a.tmps.size=a0.tmps.size->Q .normal a w):
  ∀ (H:Nat) (L:Array Bool) (a:Act) (w:World),bp' ops z a0 w0 L a w->(List.range ops.size).countP (fun i=> !L.getD i false)<=H->wpAnyIn (Fence.wide.inRound lr) n P .any ops Q H L a w:=by
 have aj:∀ (L:Array Bool) (a:Act) (w:World),bp' ops z a0 w0 L a w->Region.ready .any ops L=[]->Q .normal a w:=by
  intro L a w f M;have aB:∀n i,i < n->i < ops.size->L.getD i false=true:=by
   intro n;induction n with
   |zero=>intro i h;omega
   |succ n ih=>
    intro i h hi;by_cases aC:i < n
    ·exact ih i aC hi
    ·have e:i=n:=by omega
     subst e;cases ak:L.getD i false
     ·exfalso;have u:ops[i]? =some ops[i]:=Array.getElem?_eq_getElem hi;obtain⟨_,_,h3⟩:=ah' V u;have:i∈Region.ready .any ops L:=mem_ready.2 ⟨by
       have hs:i < L.size:=by rw[f.size];exact hi
       rw[Array.getD_eq_getD_getElem?,Array.getElem?_eq_getElem hs]at ak ⊢;exact ak,ops[i],u,fun e X D=>by
       have hd:ar' ops i e.on=true:=by unfold ar';rw[u];exact Array.any_eq_true'.2 ⟨e,X,by simp[D]⟩
       have G:=h3 _ hd;exact ih e.on G (by omega)⟩
      rw[M]at this;cases this
     ·rfl
  refine aA a w f.ext (fun i o d u hd=>f.vals i o d u hd (aB ops.size i (Array.getElem?_eq_some_iff.1 u).1 (Array.getElem?_eq_some_iff.1 u).1)) (fun t I=>f.rest t (fun j hj=>by rw[I]at hj;cases hj)) f.defers f.tsize
 intro H;induction H with
 |zero=>
  intro L a w f aD;have M:Region.ready .any ops L=[]:=by
   apply List.eq_nil_iff_forall_not_mem.2;intro i hi;obtain⟨h0,o,u,_⟩:=mem_ready.1 hi;have G:i < ops.size:=(Array.getElem?_eq_some_iff.1 u).1;have J:L.getD i false=false:=by
    have hs:i < L.size:=by rw[f.size];exact G
    rw[Array.getD_eq_getD_getElem?,Array.getElem?_eq_getElem hs]at h0 ⊢;exact h0
   have:0 < (List.range ops.size).countP (fun i=> !L.getD i false):=List.countP_pos_iff.2 ⟨i,List.mem_range.2 G,by simp[J]⟩;omega
  exact⟨M,aj L a w f M⟩
 |succ H ih=>
  intro L a w f aD;refine⟨aj L a w f,fun i hi=>?_⟩;obtain⟨h0,o,u,aE⟩:=mem_ready.1 hi;have G:i < ops.size:=(Array.getElem?_eq_some_iff.1 u).1;have Y:i < L.size:=by rw[f.size];exact G
  have J:L.getD i false=false:=by rw[Array.getD_eq_getD_getElem?,Array.getElem?_eq_getElem Y]at h0 ⊢;exact h0
  obtain⟨hd,hl,aJ⟩:=ah' V u;have ao:∀j,ar' ops i j=true->L.getD j false=true:=by intro j hj;unfold ar' at hj;rw[u]at hj;obtain⟨e,X,D⟩:=Array.any_eq_true'.1 hj;simp only[Bool.and_eq_true,beq_iff_eq]at D;rw[<-D.2];exact aE e X D.1
  have aF:bo' ops z a0 i o a w:=by
   intro t I;cases F:wr ops t with
   |none=>exact f.rest t (fun j hj=>by rw[F]at hj;cases hj)
   |some j=>
    simp only[];have hj:=List.find?_some F;simp only[beq_iff_eq]at hj;split
    ·rename_i Z;cases aa:ops[j]? with
     |none=>rw[aa]at hj;cases hj
     |some aG=>rw[aa]at hj;exact f.vals j aG t aa hj (ao j Z)
    ·rename_i Z;refine f.rest t (fun aK ap=>?_);rw[F]at ap;cases ap;rcases hl t I j F with h|h
     ·exact absurd h Z
     ·cases ab:L.getD j false
      ·rfl
      ·have:=f.closed j ab i h;rw[J]at this;cases this
  have aq:∀v w',Below w.heap.size w w'->z i v w'->bp' ops z a0 w0 (L.setIfInBounds i true) (a.put o.dst v) w':=by
   intro v w' D ac;have O:∀k,(L.setIfInBounds i true).getD k false=true↔ (k=i\/L.getD k false=true):=by
    intro k;by_cases r:k=i
    ·subst r;simp[Array.getD_eq_getD_getElem?,Y]
    ·rw[getD_set_ne false (fun e=>r e.symm)];simp[r]
   have au:∀t,(a.put o.dst v).tmps.getD t undef=if o.dst=some t then v else a.tmps.getD t undef:=by
    intro t;cases aH:o.dst with
    |none=>simp[Act.put]
    |some d=>
     simp only[Act.put,Option.some.injEq];have aI:d < a.tmps.size:=by rw[f.tsize];exact(hd d aH).1
     by_cases h:d=t
     ·subst h;simp[Array.getD_eq_getD_getElem?,aI]
     ·simp[Array.getD_eq_getD_getElem?,h]
   refine⟨by simp[f.size],f.ext.trans (D.mono f.ext.size),?_,?_,?_,?_,?_⟩
   ·intro k r j hj;rw[O]at r ⊢;rcases r with rfl|r
    ·exact .inr (ao j hj)
    ·exact .inr (f.closed k r j hj)
   ·intro k ok d U ad r;rw[O]at r;rw[au];rcases r with rfl|r
    ·rw[u]at U;cases U;rw[if_pos ad];exact ac
    ·have ah:o.dst≠some d:=by intro e;have h1:=(hd d e).2;have h2:=((ah' V U).1 d ad).2;rw[h1]at h2;cases h2;rw[J]at r;cases r
     rw[if_neg ah];exact ay k _ _ _ (f.vals k ok d U ad r) D
   ·intro t I;rw[au];have ah:o.dst≠some t:=by intro e;have:=I i (hd t e).2;have h2:=(O i).2 (.inl rfl);rw[this]at h2;cases h2
    rw[if_neg ah];refine f.rest t (fun j hj=>?_);cases ab:L.getD j false
    ·rfl
    ·have:=I j hj;rw[(O j).2 (.inr ab)]at this;cases this
   ·cases o.dst <;> exact f.defers
   ·rw[<-f.tsize];cases o.dst <;> simp[Act.put]
  have av:(List.range ops.size).countP (fun k=> !(L.setIfInBounds i true).getD k false)<=H:=by
   have:=cd' (l:=List.range ops.size) (p:=fun k=> !L.getD k false) (q:=fun k=> !(L.setIfInBounds i true).getD k false)
    (fun k _ r=>by
     by_cases ax:k=i
     ·subst ax;simp[J]
     ·rw[getD_set_ne false (fun e=>ax e.symm)]at r;exact r)
    ⟨i,List.mem_range.2 G,by simp[J],by simp[Array.getD_eq_getD_getElem?,Y]⟩
   omega
  have ai:=az i o u a w f.ext aF;unfold wpOpIn;rw[u];simp only[];split at ai
  ·rename_i F;rw[if_pos F];refine Oper.wpIn_mono ?_ ai;rintro a' w' ⟨v,rfl,D,ac⟩;exact ih _ _ _ (aq v w' D ac) av
  ·rename_i F;rw[if_neg F];exact⟨fun _ _=>trivial,ih _ _ _ (aq undef w (Below.refl _ _) ai) av⟩
theorem jE' {a0:Act} {w0:World} (u:Nat->Value->World->Prop) (V:bq' ops a0.tmps.size=true) (last:Nat) (aZ:ops.size=last+1) (ap:eE' ops last=true)
  (aF:∀i v w w',u i v w->Below w.heap.size w w'->u i v w')
  (aG:∀i o,i < last->ops[i]? =some o->∀a w,Below w0.heap.size w0 w->bo' ops u a0 i o a w->
   if Region.wanted o (yielded ops a.tmps)=true then Oper.wpIn (Fence.wide.inRound lr) n P o a w (fun a' w'=>∃v,a'=a.put o.dst v/\Below w.heap.size w w'/\u i v w') Q else u i undef w)
  (aH:∀a w,Below w0.heap.size w0 w->(∀i o d,i < last->ops[i]? =some o->o.dst=some d->u i (a.tmps.getD d undef) w)->(∀t,(∀j,wr ops t=some j->j=last)->a.tmps.getD t undef=a0.tmps.getD t undef)->a.defers=a0.defers->a.tmps.size=a0.tmps.size->wpOpIn (Fence.wide.inRound lr) n P ops Q last (Q .normal) a w):
  ∀ (I:Nat) (L:Array Bool) (a:Act) (w:World),bp' ops u a0 w0 L a w->L.getD last false=false->(List.range ops.size).countP (fun i=> !L.getD i false)<=I->wpAnyIn (Fence.wide.inRound lr) n P .any ops Q I L a w:=by
 have aI:∀ (L:Array Bool) (a:Act) (w:World),bp' ops u a0 w0 L a w->L.getD last false=false->Region.ready .any ops L=[]->False:=by
  intro L a w f G aJ;have X:∀n i,i < n->i < ops.size->L.getD i false=true:=by
   intro n;induction n with
   |zero=>intro i h;omega
   |succ n ih=>
    intro i h hi;by_cases aK:i < n
    ·exact ih i aK hi
    ·have e:i=n:=by omega
     subst e;cases aq:L.getD i false
     ·exfalso;have z:ops[i]? =some ops[i]:=Array.getElem?_eq_getElem hi;obtain⟨_,_,h3⟩:=ah' V z;have:i∈Region.ready .any ops L:=mem_ready.2 ⟨by
       have hs:i < L.size:=by rw[f.size];exact hi
       rw[Array.getD_eq_getD_getElem?,Array.getElem?_eq_getElem hs]at aq ⊢;exact aq,ops[i],z,fun e ab D=>by
       have hd:ar' ops i e.on=true:=by unfold ar';rw[z];exact Array.any_eq_true'.2 ⟨e,ab,by simp[D]⟩
       have M:=h3 _ hd;exact ih e.on M (by omega)⟩
      rw[aJ]at this;cases this
     ·rfl
  have:=X ops.size last (by omega) (by omega);rw[G]at this;cases this
 have aL:∀ (L:Array Bool) (a:Act) (w:World),bp' ops u a0 w0 L a w->(∀j,ar' ops last j=true->L.getD j false=true)->∀n i,last<=i+n->i < last->L.getD i false=true:=by
  intro L a w f O n;induction n with
  |zero=>intro i h hi;omega
  |succ n ih=>
   intro i h hi;unfold eE' at ap;have h1:=List.all_eq_true.1 ap i (List.mem_range.2 hi);obtain⟨k,r,hd⟩:=List.any_eq_true.1 h1;have ba:k < last+1:=List.mem_range.1 r;by_cases aM:k=last
   ·subst aM;exact O i hd
   ·have M:i < k:=by
     unfold ar' at hd;cases H:ops[k]? with
     |none=>rw[H]at hd;cases hd
     |some ok=>obtain⟨_,_,h3⟩:=ah' V H;exact h3 i (by unfold ar';exact hd)
    exact f.closed k (ih k (by omega) (by omega)) i hd
 intro I;induction I with
 |zero=>intro L a w f G aN;have:0 < (List.range ops.size).countP (fun i=> !L.getD i false):=List.countP_pos_iff.2 ⟨last,List.mem_range.2 (by omega),by simp only[G];rfl⟩;omega
 |succ I ih=>
  intro L a w f G aN;refine⟨fun h=>(aI L a w f G h).elim,fun i hi=>?_⟩;obtain⟨h0,o,z,aO⟩:=mem_ready.1 hi;have M:i < ops.size:=(Array.getElem?_eq_some_iff.1 z).1;have Y:i < L.size:=by rw[f.size];exact M
  have Z:L.getD i false=false:=by rw[Array.getD_eq_getD_getElem?,Array.getElem?_eq_getElem Y]at h0 ⊢;exact h0
  obtain⟨hd,hl,bb⟩:=ah' V z;have O:∀j,ar' ops i j=true->L.getD j false=true:=by intro j hj;unfold ar' at hj;rw[z]at hj;obtain⟨e,ab,D⟩:=Array.any_eq_true'.1 hj;simp only[Bool.and_eq_true,beq_iff_eq]at D;rw[<-D.2];exact aO e ab D.1
  by_cases au:i=last
  ·subst au;have X:=aL L a w f O i;refine wpOpIn_mono ?_ (aH a w f.ext (fun j aP d hj aQ aR=>f.vals j aP d aQ aR (X j (by omega) hj)) (fun t J=>f.rest t (fun j hj=>by rw[J j hj];exact G)) f.defers f.tsize);intro a' w' aS;refine wpAnyIn_done ?_ aS _;apply List.eq_nil_iff_forall_not_mem.2;intro j hj;obtain⟨av,ax,U,_⟩:=mem_ready.1 hj;have aT:j < ops.size:=(Array.getElem?_eq_some_iff.1 U).1;have aU:j < L.size:=by rw[f.size];exact aT
   have ac:(L.setIfInBounds i true).getD j false=false:=by rw[Array.getD_eq_getD_getElem?,Array.getElem?_eq_getElem (by simpa using aU)]at av ⊢;exact av
   by_cases ay:j=i
   ·subst ay;simp[Array.getD_eq_getD_getElem?,Y]at ac
   ·rw[getD_set_ne false (fun e=>ay e.symm),X j (by omega) (by omega)]at ac;cases ac
  have aV:i < last:=by omega
  have aW:bo' ops u a0 i o a w:=by
   intro t J;cases F:wr ops t with
   |none=>exact f.rest t (fun j hj=>by rw[F]at hj;cases hj)
   |some j=>
    simp only[];have hj:=List.find?_some F;simp only[beq_iff_eq]at hj;split
    ·rename_i ad;cases U:ops[j]? with
     |none=>rw[U]at hj;cases hj
     |some ax=>rw[U]at hj;exact f.vals j ax t U hj (O j ad)
    ·rename_i ad;refine f.rest t (fun bc az=>?_);rw[F]at az;cases az;rcases hl t J j F with h|h
     ·exact absurd h ad
     ·cases ah:L.getD j false
      ·rfl
      ·have:=f.closed j ah i h;rw[Z]at this;cases this
  have aA:∀v w',Below w.heap.size w w'->u i v w'->bp' ops u a0 w0 (L.setIfInBounds i true) (a.put o.dst v) w':=by
   intro v w' D ai;have aa:∀k,(L.setIfInBounds i true).getD k false=true↔ (k=i\/L.getD k false=true):=by
    intro k;by_cases r:k=i
    ·subst r;simp[Array.getD_eq_getD_getElem?,Y]
    ·rw[getD_set_ne false (fun e=>r e.symm)];simp[r]
   have aB:∀t,(a.put o.dst v).tmps.getD t undef=if o.dst=some t then v else a.tmps.getD t undef:=by
    intro t;cases aX:o.dst with
    |none=>simp[Act.put]
    |some d=>
     simp only[Act.put,Option.some.injEq];have aY:d < a.tmps.size:=by rw[f.tsize];exact(hd d aX).1
     by_cases h:d=t
     ·subst h;simp[Array.getD_eq_getD_getElem?,aY]
     ·simp[Array.getD_eq_getD_getElem?,h]
   refine⟨by simp[f.size],f.ext.trans (D.mono f.ext.size),?_,?_,?_,?_,?_⟩
   ·intro k r j hj;rw[aa]at r ⊢;rcases r with rfl|r
    ·exact .inr (O j hj)
    ·exact .inr (f.closed k r j hj)
   ·intro k ok d H aj r;rw[aa]at r;rw[aB];rcases r with rfl|r
    ·rw[z]at H;cases H;rw[if_pos aj];exact ai
    ·have ak:o.dst≠some d:=by intro e;have h1:=(hd d e).2;have h2:=((ah' V H).1 d aj).2;rw[h1]at h2;cases h2;rw[Z]at r;cases r
     rw[if_neg ak];exact aF k _ _ _ (f.vals k ok d H aj r) D
   ·intro t J;rw[aB];have ak:o.dst≠some t:=by intro e;have:=J i (hd t e).2;have h2:=(aa i).2 (.inl rfl);rw[this]at h2;cases h2
    rw[if_neg ak];refine f.rest t (fun j hj=>?_);cases ah:L.getD j false
    ·rfl
    ·have:=J j hj;rw[(aa j).2 (.inr ah)]at this;cases this
   ·cases o.dst <;> exact f.defers
   ·rw[<-f.tsize];cases o.dst <;> simp[Act.put]
  have aC:(List.range ops.size).countP (fun k=> !(L.setIfInBounds i true).getD k false)<=I:=by
   have:=cd' (l:=List.range ops.size) (p:=fun k=> !L.getD k false) (q:=fun k=> !(L.setIfInBounds i true).getD k false)
    (fun k _ r=>by
     by_cases aD:k=i
     ·subst aD;simp[Z]
     ·rw[getD_set_ne false (fun e=>aD e.symm)]at r;exact r)
    ⟨i,List.mem_range.2 M,by simp[Z],by simp[Array.getD_eq_getD_getElem?,Y]⟩
   omega
  have aE:(L.setIfInBounds i true).getD last false=false:=by rw[getD_set_ne false au];exact G
  have ao:=aG i o aV z a w f.ext aW;unfold wpOpIn;rw[z];simp only[];split at ao
  ·rename_i F;rw[if_pos F];refine Oper.wpIn_mono ?_ ao;rintro a' w' ⟨v,rfl,D,ai⟩;exact ih _ _ _ (aA v w' D ai) aE aC
  ·rename_i F;rw[if_neg F];exact⟨fun _ _=>trivial,ih _ _ _ (aA undef w (Below.refl _ _) ao) aE aC⟩
theorem iJ' {id:Nat} {a0:Act} {w0:World} (u:P.follows .mixedOrders=true) (f:Nat->Value->World->Prop) (z:bq' ops a0.tmps.size=true)
  (D:∀i v w w',f i v w->Below w.heap.size w w'->f i v w')
  (F:∀i o,ops[i]? =some o->∀a w,Below w0.heap.size w0 w->bo' ops f a0 i o a w->
   if Region.wanted o (yielded ops a.tmps)=true then Oper.wpIn (Fence.wide.inRound lr) n P o a w (fun a' w'=>∃v,a'=a.put o.dst v/\Below w.heap.size w w'/\f i v w') Q else f i undef w)
  (G:∀a w,Below w0.heap.size w0 w->(∀i o d,ops[i]? =some o->o.dst=some d->f i (a.tmps.getD d undef) w)->(∀t,wr ops t=none->a.tmps.getD t undef=a0.tmps.getD t undef)->a.defers=a0.defers->a.tmps.size=a0.tmps.size->Q .normal a w):
  (Code.region id ops true).wpIn (Fence.wide.inRound lr) n P Q a0 w0:=by
 refine wpIn_region_any u (qT' (w0:=w0) f z D F G ops.size _ a0 _ ⟨by simp,(Below.refl _ _).drew,?_,?_,fun _ _=>rfl,rfl,rfl⟩ ?_)
 ·intro k r;simp[Array.getD_eq_getD_getElem?]at r;rcases h:(Array.replicate ops.size false)[k]? with _|b <;> simp[h]at r;subst r;have:=Array.getElem?_eq_some_iff.1 h;obtain⟨h1,h2⟩:=this;simp at h2
 ·intro i o d H hd r;exfalso;simp[Array.getD_eq_getD_getElem?]at r;rcases h:(Array.replicate ops.size false)[i]? with _|b <;> simp[h]at r;subst r;have:=Array.getElem?_eq_some_iff.1 h;obtain⟨h1,h2⟩:=this;simp at h2
 ·exact Nat.le_trans List.countP_le_length (by simp)
def eA' (lr n:Nat) (P:Program) (ops:Array Oper) (Q:Exit->Act->World->Prop) (L:List (Value->World->Prop)) (a0:Act) (w0:World):List Oper->List (List (Tmp×Option Nat))->List (Value->World->Prop)->Prop
 |o::os,r::u,f::z=>(∀a w,Below w0.heap.size w0 w->I' L a0 a w r->
   if Region.wanted o (yielded ops a.tmps)=true then Oper.wpIn (Fence.wide.inRound lr) n P o a w (fun a' w'=>∃v,a'=a.put o.dst v/\Below w.heap.size w w'/\f v w') Q else f undef w)/\eA' lr n P ops Q L a0 w0 os u z
 |[],_,_=>True
 | _,_,_=>False
theorem es' {L:List (Value->World->Prop)} {a0:Act} {w0:World}:∀ {os:List Oper} {u:List (List (Tmp×Option Nat))} {z:List (Value->World->Prop)},eA' lr n P ops Q L a0 w0 os u z->
  ∀ (i:Nat) o f,os[i]? =some o->u[i]? =some f->∀a w,Below w0.heap.size w0 w->I' L a0 a w f->
   if Region.wanted o (yielded ops a.tmps)=true then Oper.wpIn (Fence.wide.inRound lr) n P o a w (fun a' w'=>∃v,a'=a.put o.dst v/\Below w.heap.size w w'/\z.getD i (fun _ _=>True) v w') Q else z.getD i (fun _ _=>True) undef w
 |[],_,_,_,i,o,f,r,_=>by simp at r
 |o::os,[],_,h,_,_,_,_,_=>h.elim
 |o::os,f::u,[],h,_,_,_,_,_=>h.elim
 |o::os,f::u,G::z,h,0,F,pl',r,D=>by simp at r D;subst r;subst D;exact h.1
 |o::os,f::u,G::z,h,i+1,F,pl',r,D=>es' h.2 i F pl' (by simpa using r) (by simpa using D)
theorem hE' {id:Nat} {a0:Act} {w0:World} (u:P.follows .mixedOrders=true) (L:List (Value->World->Prop)) (f:List (List (Tmp×Option Nat))) (z:bq' ops a0.tmps.size=true)
  (D:bR' ops=f) (F:bs' L) (G:eA' lr n P ops Q L a0 w0 ops.toList f L)
  (H:∀a w,Below w0.heap.size w0 w->(∀i o d,ops[i]? =some o->o.dst=some d->L.getD i (fun _ _=>True) (a.tmps.getD d undef) w)->(∀t,wr ops t=none->a.tmps.getD t undef=a0.tmps.getD t undef)->a.defers=a0.defers->a.tmps.size=a0.tmps.size->Q .normal a w):
  (Code.region id ops true).wpIn (Fence.wide.inRound lr) n P Q a0 w0:=by
 refine iJ' u (fun i=>L.getD i (fun _ _=>True)) z (fun i=>bi' F i) ?_ H;intro i o r a w I J;have M:i < ops.size:=(Array.getElem?_eq_some_iff.1 r).1;have O:f[i]? =some ((o.looksAt ops).map fun t=>(t,match wr ops t with
    |some j=>if ar' ops i j=true then some j else none
    |none=>none)):=by
  rw[<-D];unfold bR';rw[List.getElem?_map,List.getElem?_range M,Option.map_some,r];rfl
 exact es' G i o _ (by simpa using r) O a w I (bd' rfl (o:=o) _ J)
theorem hG' {id:Nat} {a0:Act} {w0:World} (G:P.follows .mixedOrders=true) (L:List (Value->World->Prop)) (r:List (List (Tmp×Option Nat))) (z:List (Option Tmp)) (u:List Bool)
  (H:bq' ops a0.tmps.size=true) (I:bR' ops=r) (J:ei' ops=z) (D:be' ops a0.tmps.size=u) (M:bs' L) (O:eA' lr n P ops Q L a0 w0 ops.toList r L)
  (U:∀F w,Below w0.heap.size w0 w->ae' F w z L->Q .normal {tmps:=(R' u a0.tmps.toList 0 F).toArray,defers:=a0.defers} w):
  (Code.region id ops true).wpIn (Fence.wide.inRound lr) n P Q a0 w0:=by
 refine hE' G L r H I M O ?_;intro a w f V X hd hs;have h:=U (fun t=>a.tmps.getD t undef) w f (by rw[<-J];exact cx' (fun i o d Y Z=>V i o d (by simpa using Y) Z));have e:R' u a0.tmps.toList 0 (fun t=>a.tmps.getD t undef)=a.tmps.toList:=by
  refine ce' _ _ _ _ _ (by rw[<-D];simp[be']) (by simpa using hs) ?_ ?_
  ·intro j hj _;simp[Array.getD_eq_getD_getElem?,List.getD_eq_getElem?_getD]
  ·intro j hj f;rw[<-D]at f;have aa:j < a0.tmps.size:=by rw[<-hs];simpa using hj
   have ab:wr ops j=none:=by unfold be' at f;simp[List.getD_eq_getElem?_getD,List.getElem?_map,List.getElem?_range aa]at f;exact f
   have:=X j ab;simpa[Array.getD_eq_getD_getElem?,List.getD_eq_getElem?_getD]using this
 rw[e,<-hd]at h;exact h
theorem iK' {id:Nat} {a0:Act} {w0:World} (M:P.follows .mixedOrders=true) (L:List (Value->World->Prop)) (z:List (List (Tmp×Option Nat))) (G:List (Option Tmp)) (D:List Bool) (last:Nat) (ol:Oper) (O:ops[last]? =some ol) (U:ol.guard=none)
  (H:ops.size=last+1) (V:eE' ops last=true)
  (X:bq' ops a0.tmps.size=true) (Y:bR' ops=z) (Z:ei' ops=G) (I:be' ops a0.tmps.size=D) (aa:bs' L) (ab:eA' lr n P ops Q L a0 w0 (ops.toList.take last) z L)
  (ac:∀J w,Below w0.heap.size w0 w->ae' J w (G.take last) L->Oper.wpIn (Fence.wide.inRound lr) n P ol {tmps:=(R' D a0.tmps.toList 0 J).toArray,defers:=a0.defers} w (Q .normal) Q):
  (Code.region id ops true).wpIn (Fence.wide.inRound lr) n P Q a0 w0:=by
 refine wpIn_region_any M (jE' (w0:=w0) (fun i=>L.getD i (fun _ _=>True)) X last H V (fun i=>bi' aa i) ?_ ?_ ops.size _ a0 _ ⟨by simp,(Below.refl _ _).drew,?_,?_,fun _ _=>rfl,rfl,rfl⟩ ?_ ?_)
 ·intro i o F r a w u ad;have ah:i < ops.size:=(Array.getElem?_eq_some_iff.1 r).1;have ai:z[i]? =some ((o.looksAt ops).map fun t=>(t,match wr ops t with
     |some j=>if ar' ops i j=true then some j else none
     |none=>none)):=by
   rw[<-Y];unfold bR';rw[List.getElem?_map,List.getElem?_range ah,Option.map_some,r];rfl
  exact es' ab i o _ (by rw[List.getElem?_take,if_pos F];simpa using r) ai a w u (bd' rfl (o:=o) _ ad)
 ·intro a w u aj ak hd hs;have h:=ac (fun t=>a.tmps.getD t undef) w u (by
   rw[<-Z,ei',<-List.map_take];exact cx' (fun i o d r ao=>by
    rw[List.getElem?_take]at r;split at r
    ·rename_i F;exact aj i o d F (by simpa using r) ao
    ·cases r))
  have e:R' D a0.tmps.toList 0 (fun t=>a.tmps.getD t undef)=a.tmps.toList:=by
   refine ce' _ _ _ _ _ (by rw[<-I];simp[be']) (by simpa using hs) ?_ ?_
   ·intro j hj _;simp[Array.getD_eq_getD_getElem?,List.getD_eq_getElem?_getD]
   ·intro j hj u;rw[<-I]at u;have ap:j < a0.tmps.size:=by rw[<-hs];simpa using hj
    have aq:wr ops j=none:=by unfold be' at u;simp[List.getD_eq_getElem?_getD,List.getElem?_map,List.getElem?_range ap]at u;exact u
    have:=ak j (fun k f=>by rw[aq]at f;cases f);simpa[Array.getD_eq_getD_getElem?,List.getD_eq_getElem?_getD]using this
  rw[e,<-hd]at h;unfold wpOpIn;rw[O];simp only[];rw[if_pos (by simp[Region.wanted,U])];exact h
 ·intro k f;simp[Array.getD_eq_getD_getElem?]at f;rcases h:(Array.replicate ops.size false)[k]? with _|b <;> simp[h]at f;subst f;obtain⟨h1,h2⟩:=Array.getElem?_eq_some_iff.1 h;simp at h2
 ·intro i o d r hd f;exfalso;simp[Array.getD_eq_getD_getElem?]at f;rcases h:(Array.replicate ops.size false)[i]? with _|b <;> simp[h]at f;subst f;obtain⟨h1,h2⟩:=Array.getElem?_eq_some_iff.1 h;simp at h2
 ·simp[Array.getD_eq_getD_getElem?,H]
 ·exact Nat.le_trans List.countP_le_length (by simp)
end
attribute [local go_sem] Oper.semAt_some
def vP' (B:Nat) (u:List UInt8) (v:Value) (f:World):Prop:=∃g r,v= .slice (some ⟨g,0,none⟩) 1 1/\B<=g/\f.heap[g]? =some (.cells #[r] 44 (0,0))/\as' B f r u
theorem eB' {B:Nat} {w f:World} {v:Value} {l:List UInt8} {E:Nat->Prop} (h:as' B w v l) (hF:Far E w f) (u:∀k,E k->k < B):as' B f v l:=
 M' h (fun k r=>hF.rest k (World.ownsRow.lt h k r).2 (fun e=>by have:=u k e;have:=(World.ownsRow.lt h k r).1;omega))
theorem ca' {B:Nat} {w f:World} {v:Value} {l:List UInt8} (h:as' B w v l) (r:Below w.heap.size w f):as' B f v l:=
 M' h (fun k u=>r.block k (World.ownsRow.lt h k u).2)
theorem pe' (B:Nat) (l:List UInt8):bA' (fun v f=>as' B f v l):=fun _ _ _ h r=>ca' h r
theorem hH' {B:Nat} {l:List UInt8} {E:Nat->Prop} (f:∀k,E k->k < B):aU' E (fun v r=>as' B r v l):=fun _ _ _ h hF=>eB' h hF f
theorem pf' (B:Nat) (r:List UInt8):bA' (vP' B r):=fun _ _ _ h f=>by
 obtain⟨g,u,e,h1,h2,h3⟩:=h;exact⟨g,u,e,h1,(f.block g (lt_of_block h2)).trans h2,ca' h3 f⟩
theorem hJ' {B:Nat} {r:List UInt8} {E:Nat->Prop} (f:∀k,E k->k < B):aU' E (vP' B r):=fun _ _ _ h hF=>by
 obtain⟨g,u,e,h1,h2,h3⟩:=h;exact⟨g,u,e,h1,hF.blk h2 (fun e=>by have:=f _ e;omega),eB' h3 hF f⟩
def vQ' (B u:Nat) (lv:Value) (fs:List Value) (z:List UInt8) (v:Value) (f:World):Prop:=∃r,f.ownsRow u 44 1 v (fs.length+1) (fs++[r])/\as' B f r z/\∀k,v.ownBlock=some k->lv.ownBlock=some k\/B<=k
theorem pg' (B r:Nat) (lv:Value) (fs:List Value) (u:List UInt8):bA' (vQ' B r lv fs u):=fun _ _ _ h f=>by
 obtain⟨z,h1,h2,h3⟩:=h;exact⟨z,M' h1 (fun k D=>f.block k (World.ownsRow.lt h1 k D).2),ca' h2 f,h3⟩
theorem nx' {B f:Nat} {lv:Value} {fs:List Value} {z:List UInt8} {E:Nat->Prop} (r:∀k,E k->k < B/\k < f):aU' E (vQ' B f lv fs z):=fun _ _ _ h hF=>by
 obtain⟨D,h1,h2,h3⟩:=h;exact⟨D,M' h1 (fun k u=>hF.rest k (World.ownsRow.lt h1 k u).2 (fun e=>by have:=(r k e).2;have:=(World.ownsRow.lt h1 k u).1;omega)),eB' h2 hF (fun k e=>(r k e).1),h3⟩
theorem kG' {G:Array Oper} {o:Oper} {a:Act} {K:Act->World->Prop} {H:Exit->Act->World->Prop} {E:Prop} {w:World} {I J:Nat} (M:o.guard=none) (s x:Operand) (t:TypeId) (z:o.op= .call {callee:= .builtin .append,args:= #[s,x],argTypes:= #[t,t]})
  (base:Nat) (e:TypeId) (D:Value) (size bytes:Nat) (O:Tryz.prog.underlying t=some (.slice e)) (Q:(Tryz.prog.info? e).map (fun i=>(i.zero,i.size,i.bytes))=some (some D,size,bytes)) (U:D.cells.size=size) (V:0 < size)
  (v:Value) (n:Nat) (xs:List Value) (X:w.ownsRow base e size v n xs) (hs:a.eval s=v) (F:Addr) (m c:Nat) (r:List Value) (Y:a.eval x= .slice (some F) m c) (hl:r.length=m * size) (Z:∀j u,r[j]? =some u->w.cell? (F.add j)=some u)
  (h1:∀u∈r,u.oneCell'=true) (aa:n+m<=maxLen) (ab:(n+m) * bytes<=140737488355328) (ac:base<=w.heap.size)
  (h:∀f w',w'.ownsRow base e size f (n+m) (xs++r)->w.grownBy w' v.ownBlock->(f.ownBlock=v.ownBlock\/f.ownBlock=some w.heap.size)->K (a.put o.dst f) w'):if Region.wanted o (yielded G a.tmps)=true then o.wpIn (Fence.wide.inRound I) J Tryz.prog a w K H else E:=by
 rw[if_pos (by simp[Region.wanted,M])];obtain⟨i0,hi,ad,ah,ai⟩:=bj' Q;obtain⟨f,w',aj,h2,h3,_,h5⟩:=run_append_own_at (P:=Tryz.prog) (w:=w) base t o.type e i0 D size bytes O hi ad ah ai U V v n xs X F m c r hl Z h1 aa ab ac;unfold Oper.wpIn;refine⟨by simp[Oper.about,z,resolve,Target.leads,Sem.run_pure],?_⟩;rw[Oper.semAt_plain _ _ _ (by rw[z];intro c ak;cases ak)];simp[execOp,z,resolve,invoke,builtin,hs,Y,aj,Result.andThen];exact h f w' h2 h3 h5
theorem gI' (e s:Nat) (f:Mod.Flow) (t:Nat):∀k,(Mod.sendTo e s f t k).2.length<=k
 |0=>Nat.le_refl _
 |k+1=>by
  have ih:=gI' e s f t k;by_cases h:k < f.kept.length
  ·cases hd:Mod.due f t k f.kept[k].2 with
   |false=>rw[ea' h hd];omega
   |true=>rw[eb' h hd];simp;omega
  ·rw[aS' (by omega)];omega
section
variable {w W:World} {g0 p i:Nat} {c:Av} {st:Mod.Stv} {g:Nat->Nat} {free:List Nat} {sh:Nat->List (Nat×Value)} {pl:Nat->List Nat} {F:List ByteArray} {a:Mod.Ag} {tk k:Nat}
theorem cl'.due (h:cl' w g0 p i c st g free pl F (aG' a i tk k) W) (hi:i < 3) (f:k < (a.fl i).kept.length) (r:(a.fl i).kept[k].2<=1000000000000) (u:tk<=1000000000000):
  Calls Tryz.prog 138 #[.pointer (some ⟨p,4+i * 6,none⟩), .int .i64 ((a.fl i).base+1+k:Nat), .int .i64 tk] W fun z D=>z= .returned (.bool (Mod.due (a.fl i) tk k (a.fl i).kept[k].2))/\Below W.heap.size W D:=by
 obtain⟨lv,fs,J,sh,M,O,G,H,_⟩:=h.mid;have hj:k < ((aG' a i tk k).fl i).kept.length:=by rw[qQ'];exact f
 have I:((aG' a i tk k).fl i).kept[k]=(a.fl i).kept[k]:=by have:=kF' (tk:=tk) f;rw[List.getElem?_eq_getElem hj]at this;injection this
 have:=sx' G H hi k hj tk (a.fl i).kept[k].2 (by rw[I]) r u;rw[qR',jm']at this;exact this
theorem cl'.tick (h:cl' w g0 p i c st g free pl F (aG' a i tk k) W):W.cell? ⟨p,23,none⟩=some (.int .i64 a.ticks):=by
 obtain⟨lv,fs,r,sh,u,z,f,D,_⟩:=h.mid;rw[m' f.ks.blk,f.ks.at'];rfl
end
section
variable {w:World} {p:Nat} {g:Nat->Nat} {free:List Nat} {sh:Nat->List (Nat×Value)} {st:Mod.Stv} {c:Av} {a:Mod.Ag} {pl:Nat->List Nat}
theorem qU' (bh:aA' w p g a.ticks a.welcome a.fenced free sh st c) (bC:aO' a st.opening g free sh pl) (i:Nat) (aC:i < 3) (di:a.ticks≠0) (dj:a.ticks<=1000000000000) (dl:(a.fl i).base+(a.fl i).kept.length < 4294967296) (cr:∀x∈ (a.fl i).kept,x.1.size<=20/\x.2<=1000000000000):
  Calls Tryz.prog 93 #[y' p, .int .i64 i] w fun ap z=>∃lv fs X bD,ap= .returned lv/\L' w.heap.size z lv fs (bD' a i a.ticks 4) (PaU p X)/\aA' z p g a.ticks a.welcome a.fenced free bD st X/\aO' (aG' a i a.ticks 4) st.opening g free bD pl/\Far (PaU p c) w z/\(∀j,PaU p X j->PaU p c j\/w.heap.size<=j)/\X.s=c.s/\X.rv=c.rv:=by
 have dm:=lt_of_block bh.ks.blk;have dq:(0:Int)<=(i:Int):=by omega
 have dr:(i:Int) < 3:=by omega
 have aK:=t' (And.intro bh bC);clear bh bC;unfold y' at *;refine callsIn_wide.1 (callsIn_of_wp_marks (n:=5) Tryz.func93 rfl trivial ?_ rfl);refine wpIn_wide.2 ?_;simp only[Tryz.ntmps93,List.size_toArray,List.length_cons,List.length_nil,Nat.reduceAdd,Nat.reduceSub,Array.replicate_succ,Array.replicate_zero,List.push_toArray,List.append_toArray,List.nil_append,List.cons_append];go_upto_region 2 with fail;obtain⟨g0,aL⟩:∃g0,g0=w.heap.size:=⟨_,rfl⟩;have bE:=t' aL;rw[<-aL];refine C' (fun x=>x.heap[g0]? =some (.cells #[.pointer (some ⟨p,0,none⟩)] 88 (0,0))/\x.heap[g0+1]? =some (.cells #[.int .i64 i] 3 (0,0))/\x.heap[g0+2]? =some (.cells #[.slice none 0 0] 38 (0,0))/\Below g0 w x/\x.heap.size=g0+3) ?_ ?_
 ·rw[aL];have cs:=heap_alloc_new w (.cells #[.pointer (some ⟨p,0,none⟩)] 88);have bF:=heap_alloc_new (w.alloc (.cells #[.pointer (some ⟨p,0,none⟩)] 88)) (.cells #[.int .i64 i] 3);have bG:=heap_alloc_new ((w.alloc (.cells #[.pointer (some ⟨p,0,none⟩)] 88)).alloc (.cells #[.int .i64 i] 3)) (.cells #[.slice none 0 0] 38);simp only[World.size_alloc]at bF bG;refine⟨?_,?_,bG,((((Below.refl _ _).alloc (Nat.le_refl _) _).alloc (by simp) _).alloc (by simp;omega) _),by simp⟩
  ·rw[hao _ _ (by simp;omega),hao _ _ (by simp)];exact cs
  ·rw[hao _ _ (by simp)];exact bF
 clear aL;rintro x ⟨h0,h1,h2,f,Y⟩;have c0:=m' (i:=0) h0;have c1:=m' (i:=0) h1;simp at c0 c1;have bH:=t' (And.intro h0 (And.intro h1 (And.intro h2 (And.intro f Y))));have cu:g0 < x.heap.size:=by omega
 have cv:g0+1 < x.heap.size:=by omega
 clear h0 h1 h2 f;go_region;go_upto_region 3 with fail;refine C' (fun y=>y.heap[g0]? =some (.cells #[.pointer (some ⟨p,0,none⟩)] 88 (0,0))/\y.heap[g0+1]? =some (.cells #[.int .i64 i] 3 (0,0))/\y.heap[g0+2]? =some (.cells #[.slice none 0 0] 38 (0,0))/\y.heap[g0+3]? =some (.cells #[.pointer (some ⟨p,4+i * 6,none⟩)] 213 (0,0))/\Below g0 w y/\y.heap.size=g0+4) ?_ ?_
 ·obtain⟨h0,h1,h2,f,Y⟩:=i' bH;exact⟨(hao _ _ (by omega)).trans h0,(hao _ _ (by omega)).trans h1,(hao _ _ (by omega)).trans h2,by have:=heap_alloc_new x (.cells #[.pointer (some ⟨p,4+i * 6,none⟩)] 213);rw[Y]at this;exact this,(f.alloc (by omega) _).drew,by show(x.alloc _).heap.size= _;simp;omega⟩
 clear bH c0 c1 cu cv Y;rintro y ⟨h0,h1,h2,h3,f,Y⟩;have c3:=m' (i:=0) h3;simp at c3;have bI:=t' (And.intro h0 (And.intro h1 (And.intro h2 (And.intro h3 (And.intro f Y)))));clear h0 h1 h2 h3 f;go_wp2_with (go_at_call 137;refine(kp' _ _ _ _).mono ?_;rintro e z ⟨rfl,ak⟩);obtain⟨h0,h1,h2,h3,f,_⟩:=i' bI;have bi:z.heap.size=g0+6:=by rw[ak];simp[df',Y]
 have r:∀k,k < g0+4->z.heap[k]? =y.heap[k]? :=fun k D=>by rw[ak];unfold df';rw[hao _ _ (by simp;omega),hao _ _ (by omega)]
 have bJ:z.heap[g0+4]? =some (.cells #[.pointer (some ⟨p,4+i * 6,none⟩)] 209 (0,0)):=by rw[ak];unfold df';rw[hao _ _ (by simp;omega),<-Y];exact heap_alloc_new _ _
 have bK:z.heap[g0+5]? =some (.cells #[.int .i64 4] 3 (0,0)):=by rw[ak];unfold df';have:=heap_alloc_new (y.alloc (.cells #[.pointer (some ⟨p,4+i * 6,none⟩)] 209)) (.cells #[.int .i64 4] 3);rw[World.size_alloc,Y]at this;exact this
 have aM:Below g0 w z:=by rw[ak];unfold df';exact(f.alloc (by omega) _).alloc (by simp;omega) _
 have aD:=t' (And.intro ((r g0 (by omega)).trans h0) (And.intro ((r (g0+1) (by omega)).trans h1) (And.intro ((r (g0+2) (by omega)).trans h2) (And.intro ((r (g0+3) (by omega)).trans h3) (And.intro bJ (And.intro bK aM))))));rw[<-ak];clear h0 h1 h2 h3 f r bJ bK aM ak bI c3;obtain⟨tk,bL⟩:∃tk,tk=a.ticks:=⟨_,rfl⟩;have bM:=t' bL;have cw:tk≠0:=by omega
 have cx:tk<=1000000000000:=by omega
 clear bL;have bN:(aB' (a.fl i).base (a.fl i).kept (pl i)).length=(a.fl i).kept.length:=do' _ _ _ ((i' aK).2.pn i aC);refine wpIn_wide.1 (jg' (n:=5) (b:=g0+4) (p:=p) (o:=4+i * 6) (m:=4) (c.nv (i * 3)) (c.mv (i * 3)) (aB' (a.fl i).base (a.fl i).kept (pl i)) (ga' _ _ _) rfl rfl (fun k W=>cl' w g0 p i c st g free pl (bD' a i tk k) (aG' a i tk k) W) ?_ ?_ ?_ ?_ ?_ ?_)
 ·intro k W dt h aq;rw[bi]at aq;exact h.same2 aq
 ·exact fun k W h=>h.iterK aC
 ·intro W bO du;obtain⟨h0,h1,h2,h3,h4,h5,aM⟩:=i' aD;have D:=fun k (D:k < z.heap.size)=>bO.block k D;exact pd' (i' aK).1 (i' aK).2 (i' bE) (aM.trans (bO.mono (by omega))) ((D _ (by omega)).trans h0) ((D _ (by omega)).trans h1) ((D _ (by omega)).trans h2) ((D _ (by omega)).trans h3) ((D _ (by omega)).trans h4) ((D _ (by omega)).trans h5) (by omega)
 ·intro k D W dv G cy;rw[bi]at cy ⊢;have ao:k < (a.fl i).kept.length:=by rw[bN]at D;exact D
  have bP:(aB' (a.fl i).base (a.fl i).kept (pl i))[k]=((a.fl i).base+1+k,bZ' (a.fl i).kept[k].1 ((pl i).getD k 0)):=by have h1:=iC' (a.fl i).base (a.fl i).kept (pl i) k ((i' aK).2.pn i aC) ao;rw[List.getElem?_eq_getElem D]at h1;injection h1
  rw[bP];obtain⟨aj,bj⟩:∃aj,aj=(a.fl i).kept[k].1:=⟨_,rfl⟩;obtain⟨ad,aN⟩:∃ad,ad=(a.fl i).base+1+k:=⟨_,rfl⟩;rw[<-bj,<-aN];generalize (pl i).getD k 0=q;have au:=t' (And.intro bj aN);obtain⟨ac,aO⟩:∃ac,ac=W.heap.size:=⟨_,rfl⟩;have dw:g0+8<=ac:=by omega
  have dx:=t' aO;have cz:=t' G;clear bj aN bP G aD D;unfold bZ';gi_wp2;refine⟨⟨hao _ _ (by omega),hao _ _ (by omega)⟩,?_⟩;intro aE aq;rw[<-aO];have aP:aE.heap[ac]? =some (.cells #[.string aj, .int .i64 q] 158 (0,0)):=by rw[aq.rest ac (by omega) (by omega),aO];exact heap_alloc_new _ _
  have F:=((i' cz).below ((Below.refl _ _).alloc (Nat.le_refl _) _)).same2 aq;obtain⟨lv,fs,X,aQ,I,u,H,J,Z,M,aa,ab,av,ax⟩:=F.mid;have aR:=m' (i:=0) F.h0;have bQ:=m' (i:=0) F.h1;have bR:=m' (i:=0) I;have aS:=m' (i:=0) F.h3;have bS:=m' (i:=0) aP;have bk:aE.cell? ⟨p,23,none⟩=some (.int .i64 tk):=by rw[F.tick,i' bM]
  simp at aR bQ bR aS bS;have cA:aj.size<=20/\(a.fl i).kept[k].2<=1000000000000:=by have:=cr _ (List.getElem_mem ao);rw[(i' au).1];exact this
  have aN:ad < 4294967296:=by have:=(i' au).2;omega
  have aF:=fun x (f:Below aE.heap.size aE x)=>t' ((F.below f).due aC ao cA.2 cx);rw[<-(i' au).2]at aF;obtain⟨aT,bl⟩:∃aT,aT=Mod.due (a.fl i) tk k (a.fl i).kept[k].2:=⟨_,rfl⟩;rw[<-bl]at aF;have aU:=t' bl;have aG:=t' F;have bT:=lt_of_block F.h0;have dy:=lt_of_block F.h1;have bU:=lt_of_block F.h3;have bV:=lt_of_block aP;have bW:p < aE.heap.size:=lt_of_block H.ks.blk;have bX:=t' aP;clear aO aq aP I u H J Z M aa ab av ax F bl;gi_upto_region 6 with fail;refine hG' (by kernel_rfl)
   [fun v _=>v= .pointer (some ⟨p,4+i * 6,none⟩),fun v _=>v= .int .i64 ad,fun v _=>v= .pointer (some ⟨p,0,none⟩),fun v _=>v= .pointer (some ⟨p,0,none⟩),fun v _=>v= .pointer (some ⟨p,23,none⟩),fun v _=>v= .int .i64 tk,fun v _=>v= .bool aT]
   [[(6,none)],[(7,none)],[(2,none)],[(22,some 2)],[(23,some 3)],[(24,some 4)],[(20,some 0),(21,some 1),(25,some 5)]] [some 20,some 21,some 22,some 23,some 24,some 25,some 26] [false,false,false,false,false,false,false,false,false,false,false,false,false,false,false,false,false,false,false,false,true,true,true,true,true,true,true,false,false,false,false,false,false,false,false,false,false,false,false,false,false,false,false,false,false,false,false,false]
   (by kernel_rfl) (by kernel_rfl) (by kernel_rfl) (by kernel_rfl) ?_ ?_ ?_
  ·repeat' (first|exact J' _|exact trivial|apply And.intro)
  ·refine⟨?_,?_,?_,?_,?_,?_,?_,trivial⟩;all_goals
    intro b x f O;have z0:=(f.cell (p:=⟨g0,0,none⟩) bT).trans aR;have z3:=(f.cell (p:=⟨g0+3,0,none⟩) bU).trans aS;have cB:=(f.cell (p:=⟨p,23,none⟩) bW).trans bk;have aV:=t' (i' (aF x f));clear f aF;simp only[I',List.getD_cons_zero,List.getD_cons_succ,Array.getD_eq_getD_getElem?]at O;try simp at O
    try go_simp
   all_goals first
    |exact⟨rfl,Below.refl _ _⟩
    |exact⟨_,rfl,Below.refl _ _,rfl⟩
    |exact Below.refl _ _
    |(refine⟨trivial,((callsIn_wide.2 (i' aV)).inRound _).mono ?_⟩;rintro ap z ⟨rfl,f⟩;exact⟨_,rfl,f,rfl⟩)
    |(refine⟨trivial,((callsIn_wide.2 (i' aV)).inRound _).mono ?_⟩;rintro ap z ⟨rfl,f⟩;exact⟨rfl,f⟩)
    |skip
  intro ay x bY Q;simp only[ae']at Q;have cC:=Q.2.2.2.2.2.2.1;have ah:=t' bY;clear Q aF bY;simp only[R',cC];generalize ay 20=dz;generalize ay 21=dA;generalize ay 22=dB;generalize ay 23=dC;generalize ay 24=dD;generalize ay 25=dE;cases aT with
  |false=>
   gi_wp2
   have Y:=(i' aG).sz;refine⟨(i' ah).block _ (by omega),(i' ah).block _ (by omega),?_⟩;rw[pb' ao (i' aU).symm,oU' ao (i' aU).symm];exact(i' aG).below (i' ah)
  |true=>
   have bZ:=(i' ah).size;have ca:=((i' ah).cell (p:=⟨g0,0,none⟩) bT).trans aR;have aW:=((i' ah).cell (p:=⟨g0+3,0,none⟩) bU).trans aS;have cb:=((i' ah).cell (p:=⟨p,23,none⟩) bW).trans bk;have cD:g0 < x.heap.size:=by omega
   have cE:g0+3 < x.heap.size:=by omega
   have cF:p < x.heap.size:=by omega
   clear aR bQ bR aS bS bk;have aX:=fun y (f:Below x.heap.size x y)=>t' (((i' aG).below ((i' ah).trans (f.mono bZ))).put aC ao (i' aU).symm cw);rw[<-(i' au).2]at aX;gi_upto_region 7 with fail;refine iK' (by kernel_rfl)
    [fun v _=>v= .pointer (some ⟨p,4+i * 6,none⟩),fun v _=>v= .pointer (some ⟨p,4+i * 6,none⟩),fun v _=>v= .pointer (some ⟨p,4+i * 6+2,none⟩),fun v _=>v= .int .i64 ad,fun v _=>v= .pointer (some ⟨p,0,none⟩),fun v _=>v= .pointer (some ⟨p,0,none⟩),fun v _=>v= .pointer (some ⟨p,23,none⟩),fun v _=>v= .int .i64 tk,fun _ _=>True]
    [[(6,none)],[(27,some 0)],[(28,some 1)],[(7,none)],[(2,none)],[(31,some 4)],[(32,some 5)],[(33,some 6)],[(29,some 2),(30,some 3),(34,some 7)]] [some 27,some 28,some 29,some 30,some 31,some 32,some 33,some 34,some 35] [false,false,false,false,false,false,false,false,false,false,false,false,false,false,false,false,false,false,false,false,false,false,false,false,false,false,false,true,true,true,true,true,true,true,true,true,false,false,false,false,false,false,false,false,false,false,false,false]
    8 _ rfl rfl (by kernel_rfl) (by kernel_rfl) (by kernel_rfl) (by kernel_rfl) (by kernel_rfl) (by kernel_rfl) ?_ ?_ ?_
   ·repeat' (first|exact J' _|exact Z'|exact trivial|apply And.intro)
   ·refine⟨?_,?_,?_,?_,?_,?_,?_,?_,trivial⟩;all_goals
     intro b y f O;have z0:=(f.cell (p:=⟨g0,0,none⟩) cD).trans ca;have z3:=(f.cell (p:=⟨g0+3,0,none⟩) cE).trans aW;have cB:=(f.cell (p:=⟨p,23,none⟩) cF).trans cb;clear f aX;simp only[I',List.getD_cons_zero,List.getD_cons_succ,Array.getD_eq_getD_getElem?]at O;try simp at O
     try go_simp
    all_goals first
     |exact⟨rfl,Below.refl _ _⟩
     |exact⟨_,rfl,Below.refl _ _,rfl⟩
     |exact Below.refl _ _
     |skip
   intro aH y bm Q;simp only[ae',List.take]at Q;have cG:=Q.2.2.1;have cH:=Q.2.2.2.1;have cI:=Q.2.2.2.2.2.2.2.1;have cJ:=t' (i' (aX y bm));have aI:=t' ((i' ah).trans (bm.mono bZ));clear Q aX bm ca aW cb;simp only[R',cG,cH,cI];generalize aH 27=dF;generalize aH 28=dG;generalize aH 31=dH;generalize aH 32=dI;generalize aH 33=dJ;go_simp;refine⟨trivial,((callsIn_wide.2 (i' cJ)).inRound _).mono ?_⟩;rintro ap z ⟨rfl,G,aY,aZ,Y,cc⟩;have dK:=(i' aI).size;have ba:=(cc ac _ (((i' aI).block ac bV).trans (i' bX))).trans (((i' aI).block ac bV).trans (i' bX));have aY:=aY.trans ((i' aI).block _ (by have:=(i' aG).sz;omega));have aZ:=aZ.trans ((i' aI).block _ (by have:=(i' aG).sz;omega));have cd:=t' (And.intro aY aZ);obtain⟨lv,fs,X,aQ,I,u,H,J,Z,M,aa,ab,av,ax⟩:=G.mid;have bn:=G.lo;have dL:=G.sz;have dM:fs.length<=3:=by have h1:=u.len;have h2:=gI' a.epoch i (a.fl i) tk k;unfold bD' at h1;rw[List.length_map]at h1;omega
   obtain⟨U,V,cK,_⟩:=(al' u.row).shape;subst cK;obtain⟨ep,bb⟩:∃ep,ep=st.opening:=⟨_,rfl⟩;have ce:ep=a.epoch:=by rw[bb];exact J.ep
   have dN:ep < 4294967296:=by rw[bb];exact H.stt.op
   obtain⟨az,bo⟩:∃az,az=Wire.bytes 3 ep i ad aj.data.toList:=⟨_,rfl⟩;have cf:=fun y=>t' (ev' 3 ep i ad aj y (by omega) (by omega) (by omega) (by omega) (by omega));rw[<-bo]at cf;have cg:bD' a i tk (k+1)=bD' a i tk k++[⟨az.toArray⟩]:=by rw[pa' ao (i' aU).symm,bo,ce,(i' au).1,(i' au).2]
   have ai:∀j,(Value.slice U fs.length V).ownBlock=some j->g0+8<=j/\j < z.heap.size:=fun j hj=>u.lt j (.inl hj);have cL:(Value.slice U fs.length V).ownBlock≠some ac:=(al' u.row).ne ba (by decide);have c0:=m' (i:=0) G.h0;have c1:=m' (i:=0) G.h1;have c2:=m' (i:=0) I;have cM:=m' (i:=0) ba;have dO:=D' (i:=0) I;simp at c0 c1 c2 cM;have ch:=fun y (c4:Av) (K:aA' y p g (aG' a i tk (k+1)).ticks (aG' a i tk (k+1)).welcome (aG' a i tk (k+1)).fenced free aQ st c4)=>t' (bk' K);rw[<-bb]at ch;have ci:∀j,j=g0+2\/(Value.slice U fs.length V).ownBlock=some j->¬PaU p X j:=fun j hj hu=>by
    rcases hj with rfl|hj
    ·rcases M _ hu with h|h
     ·have:=bn _ h;omega
     ·omega
    ·exact u.clear j (.inl hj) hu
   have aD:=t' (And.intro G (And.intro I (And.intro u (And.intro H (And.intro J (And.intro Z (And.intro M (And.intro aa (And.intro ab (And.intro av ax))))))))));have cN:=t' ba;have cj:=t' I;have ck:=t' (And.intro G.h0 G.h1);have cO:=t' H;have cP:=t' cg;clear G I u H J Z M aa ab av ax cg bo bb ce cc ba aY aZ;unfold y' at *;gi_upto_region 8 with fail;refine iI' (by kernel_rfl)
    [fun v _=>v= .slice U fs.length V,fun v _=>v= .pointer (some ⟨p,0,none⟩),fun v _=>v= .int .i64 ep,fun v _=>v= .int .i64 i,fun v _=>v= .int .i64 ad,fun v _=>v= .pointer (some ⟨ac,0,none⟩),fun v _=>v= .string aj,fun v _=>v= .agg #[.int .i64 3, .int .i64 ep, .int .i64 i, .int .i64 ad, .string aj],
     fun v y=>as' z.heap.size y v az,vP' z.heap.size az,vQ' z.heap.size (g0+8) (.slice U fs.length V) fs az,fun _ y=>cl' w g0 p i c st g free pl (bD' a i tk (k+1)) (aG' a i tk (k+1)) y]
    [[(5,none)],[(2,none)],[(37,some 1)],[(3,none)],[(7,none)],[(8,none)],[(41,some 5)],[(38,some 2),(39,some 3),(40,some 4),(42,some 6)],[(43,some 7)],[(44,some 8)],[(36,some 0),(45,some 9)],[(5,none),(46,some 10)]] [some 36,some 37,some 38,some 39,some 40,some 41,some 42,some 43,some 44,some 45,some 46,none] [false,false,false,false,false,false,false,false,false,false,false,false,false,false,false,false,false,false,false,false,false,false,false,false,false,false,false,false,false,false,false,false,false,false,false,false,true,true,true,true,true,true,true,true,true,true,true,false]
    [(10,fun j=>(Value.slice U fs.length V).ownBlock=some j),(11,fun j=>j=g0+2)]
    (by kernel_rfl) (by kernel_rfl) (by kernel_rfl) (by kernel_rfl) (by kernel_rfl) ?_ ?_ ?_ ?_
   ·repeat' (first|exact J' _|exact pe' _ _|exact pf' _ _|exact pg' _ _ _ _ _|exact(fun _ _ _ h f=>h.below f)|exact trivial|apply And.intro)
   ·repeat' (first|exact trivial|exact .inl rfl|exact .inr (.inr (ak' _ _))|exact .inr (.inr (hH' (fun j hj=>(ai j hj).2)))|exact .inr (.inr (hJ' (fun j hj=>(ai j hj).2)))|exact .inr (.inr (hH' (fun j (hj:j=g0+2)=>by omega)))|exact .inr (.inr (hJ' (fun j (hj:j=g0+2)=>by omega)))|exact .inr (.inr (nx' (fun j (hj:j=g0+2)=>by omega)))|exact .inr (.inl (show ar' _ 11 10=true by decide+kernel))|apply And.intro)
   ·refine⟨?_,?_,?_,?_,?_,?_,?_,?_,?_,?_,?_,?_,trivial⟩;all_goals
     intro b y f O;have cQ:=f.size;have bc:=t' f;have aA:∀ (cl:Array Oper) (cm j:Nat),j≠g0+2->(Value.slice U fs.length V).ownBlock≠some j->¬dk' [(10,fun j=>(Value.slice U fs.length V).ownBlock=some j),(11,fun j=>j=g0+2)] cl cm j:=fun cl cm j h1 h2=>aa' (by intro q r;simp at r;rcases r with rfl|rfl;exact h2;exact h1);have bp:∀j,j < g0+8->(Value.slice U fs.length V).ownBlock≠some j:=fun j h1 e=>by have:=(ai j e).1;omega
     have z0:=m' (i:=0) (f.blk (i' ck).1 (aA _ _ _ (by omega) (bp _ (by omega))));have cR:=m' (i:=0) (f.blk (i' ck).2 (aA _ _ _ (by omega) (bp _ (by omega))));have cS:=m' (i:=0) (f.blk (i' cN) (aA _ _ _ (by omega) cL));simp at z0 cR cS;clear f aA bp;simp only[I',List.getD_cons_zero,List.getD_cons_succ,Array.getD_eq_getD_getElem?]at O;try simp at O
    ·have bq:=m' (i:=0) ((i' bc).blk (i' cj) (by
      rintro⟨q,r,g1,g2,aJ⟩;simp at r;rcases r with rfl|rfl
      ·have:=(ai _ aJ).1;omega
      ·exact absurd (show ar' _ 11 0=false from g2) (by decide+kernel)))
     simp at bq;go_simp;first|exact⟨_,rfl,Far.refl _ _,rfl⟩|exact⟨rfl,Far.refl _ _⟩|exact Far.refl _ _
    ·go_simp;first|exact⟨_,rfl,Far.refl _ _,rfl⟩|exact⟨rfl,Far.refl _ _⟩|exact Far.refl _ _
    ·have K:=(i' cO).far (i' bc) (fun j hu=>aa' (by
      intro q r;simp at r;rcases r with rfl|rfl
      ·exact fun e=>ci j (.inr e) hu
      ·exact fun e=>ci j (.inl e) hu))
     have aV:=t' (i' (ch y _ K));clear K;go_simp;refine⟨trivial,((callsIn_wide.2 (i' aV)).inRound _).mono ?_⟩;rintro ap cn ⟨rfl,cT⟩;obtain rfl:y=cn:=cT.symm;first|exact⟨_,rfl,Far.refl _ _,rfl⟩|exact⟨rfl,Far.refl _ _⟩|exact Far.refl _ _
    iterate 5
     ·go_simp;first|exact⟨_,rfl,Far.refl _ _,rfl⟩|exact⟨rfl,Far.refl _ _⟩|exact Far.refl _ _
    ·go_simp;refine⟨trivial,((callsIn_wide.2 (i' (cf y))).inRound _).mono ?_⟩;rintro ap cn ⟨v,rfl,cU,f⟩;exact⟨_,rfl,A' f,ap' cU (by omega)⟩
    ·obtain⟨cV,cW,br,_⟩:=(al' O).shape;have co:=t' O;clear O;rw[br]at co;go_simp;exact⟨_,rfl,A' ((Below.refl _ _).alloc (Nat.le_refl _) _),_,_,rfl,cQ,heap_alloc_new y _,as'.alloc (i' co) _⟩
    ·obtain⟨cX,cY,bt,cZ,dP,db,bd⟩:=O;obtain⟨cV,cW,br,_⟩:=(al' bd).shape;have dc:y.ownsRow (g0+8) 44 1 (.slice U fs.length V) fs.length fs:=M' (i' aD).2.2.1.row (fun j hj=>(i' bc).rest j (ai j hj).2 (by
      rintro⟨q,r,g1,g2,aJ⟩;simp at r;rcases r with rfl|rfl
      ·exact g1 rfl
      ·have:j=g0+2:=aJ;have:=(ai j hj).1;omega))
     refine kG' rfl (.tmp 36) (.tmp 45) 38 rfl (g0+8) 44 (.slice none 0 0) 1 24 Tryz.underlying38 (by kernel_rfl) rfl (by decide) (.slice U fs.length V) fs.length fs dc (by simp[Act.eval,cX]) ⟨cY,0,none⟩ 1 1 [bt] (by simp[Act.eval,cZ]) rfl ?_ (by intro dd hu;simp at hu;subst hu;rw[br];rfl) (by unfold maxLen;omega) (by omega) (by omega) ?_
     ·intro j dd hj;rw[cE',m' db,Nat.zero_add];simpa using hj
     ·intro cp w' de cq df;exact⟨cp,rfl,ac' (.head _) (bl' cq),bt,de,M' bd (fun j hj=>cq.block j (World.ownsRow.lt bd j hj).2 (fun e=>by have:=(ai j e.symm).2;have:=(World.ownsRow.lt bd j hj).1;omega)),fun j hj=>by
       have hj:cp.ownBlock=some j:=hj;rcases df with e|e
       ·exact .inl (by rw[<-e];exact hj)
       ·rw[e]at hj;injection hj with hj;exact .inr (by omega)⟩
    ·have bu:Far (fun j=>(Value.slice U fs.length V).ownBlock=some j) z y:=(i' bc).mono (by
      rintro j _ ⟨q,r,g1,g2,aJ⟩;simp at r;rcases r with rfl|rfl
      ·exact aJ
      ·exact absurd rfl g1)
     have bw:=bu.blk (i' cj) (fun e=>by have:=(ai _ e).1;omega);have bq:=m' (i:=0) bw;have dQ:=D' (i:=0) bw;simp at bq;obtain⟨_,bt,aB,be,hl⟩:=O;obtain⟨dR,dS,aW,_⟩:=(al' aB).shape;rw[aW]at aB hl;have dg:=t' (And.intro aB (And.intro be hl));have dh:=t' bu;clear aB be hl bu bw;go_simp;obtain⟨aB,be,hl⟩:=i' dg;obtain⟨G,I,u,H,J,Z,M,aa,ab,av,ax⟩:=i' aD;refine⟨ac' (.tail _ (.head _)) (O' y (g0+2) 0 _),?_⟩;rw[i' cP];exact sF' G I u H J Z M aa ab av ax (i' dh) (by simpa using be) aB hl
   ·intro dT y hF Q;have F:=Q.2.2.2.2.2.2.2.2.2.2.2.1;have bz:=hF.mono (E':=fun j=>g0+8<=j\/j=g0+2) (fun j _ h=>by
     obtain⟨q,r,h⟩:=h;simp at r;rcases r with rfl|rfl
     ·exact .inl (ai j h).1
     ·exact .inr h)
    have bf:=bz.rest (g0+6) (by omega) (by omega);have bg:=bz.rest (g0+7) (by omega) (by omega);have bA:=t' (And.intro bf (And.intro bg F));clear Q hF bz bf bg F;simp only[R'];gi_wp2;obtain⟨bf,bg,F⟩:=i' bA;exact⟨bf.trans (i' cd).1,bg.trans (i' cd).2,F⟩
 ·intro k W h;have:=h.sz;omega
 ·intro W h hK;rw[bi]at hK ⊢;rw[bN,<-pc' rfl,<-oW' rfl]at h;obtain⟨lv,fs,X,aQ,I,u,H,J,Z,M,aa,ab,_,_⟩:=h.mid;have c5:=m' (i:=0) I;simp at c5;have bn:=h.lo;have dU:=h.sz;have bA:=t' (And.intro u (And.intro H (And.intro J (And.intro Z (And.intro M (And.intro aa ab))))));clear h I u H J Z M aa ab;go_wp2;have bB:Far (fun k=>k=g0+6) W (W.putObj (g0+6) (.deferred none)):=⟨rfl,rfl,rfl,by rw[World.putObj_size];exact Nat.le_refl _,fun k _ h=>World.putObj_heap_other h⟩;refine⟨by simp, .inl ⟨_,_,rfl,run_takeDeferred hK,?_⟩⟩;obtain⟨u,H,J,Z,M,aa,ab⟩:=i' bA;have dV:=i' bE;have aA:∀j,PaU p X j->¬j=g0+6:=fun j hj e=>by
   rcases M j hj with h1|h1
   ·have:=bn j h1;omega
   ·omega
  rw[i' bM]at u J;refine⟨_,results_tmp rfl _ _ _,_,fs,X,aQ,rfl,?_,H.far bB aA,J,Z.trans bB (fun k D e=>by omega),fun j hj=>(M j hj).imp id (fun h=>by omega),aa,ab⟩;have:=u.keep (x:=W.putObj (g0+6) (.deferred none)) (fun k D=>bB.rest k (u.lt k D).2 (by have:=(u.lt k D).1;omega));exact⟨this.len,ap' this.row (by omega),fun j v hj=>ap' (this.each j v hj) (by omega),this.apart,this.clear⟩
end
end Go.Proofs.YtamafdcnbcoegaaGreat
namespace Go.Proofs.YtamafdcnbcoegaaGreat
open Go.RowKit
theorem L'.up {B B':Nat} {r:World} {lv:Value} {fs:List Value} {u:List ByteArray} {z:Nat->Prop} (h:L' B r lv fs u (fun _=>False)) (D:B'<=B) (F:∀k,z k->k < B):L' B' r lv fs u z:=by
 refine⟨h.len,ap' h.row D,fun j v hj=>ap' (h.each j v hj) D,h.apart,fun k f hu=>?_⟩;have:=F k hu;rcases f with f|f
 ·have:=(World.ownsRow.lt h.row k f).1;omega
 ·obtain⟨j,hj,G,H,f⟩:=f;have:=(World.ownsRow.lt (h.each j G H) k f).1;omega
theorem qV' {w:World} {p e:Nat} {logs:Nat->List ByteArray} {sh:Nat->List (Nat×Value)} {st:Mod.Stv} {c:Sv} (f:aL' w p e logs sh st c) {v q:Nat} (r:w.heap[v]? =some (.cells #[y' q] 93 (0,0))):¬PkU p c v:=
 cj' f r (by decide) (by decide) (by decide) (by decide) (by decide) (by decide) (by decide) (by decide)
def kH' (a:Mod.Ag) (t s:Nat):List ByteArray:=(Mod.sendOut a.epoch t a.fl s).map fun l=>⟨l.toArray⟩
theorem jn' (a:Mod.Ag) (t s:Nat):kH' a t (s+1)=kH' a t s++bD' (bn' a t s) s t 4:=by
 unfold kH' bD';rw[gd'];show(Mod.sendOut a.epoch t a.fl s++(Mod.sendTo a.epoch s (a.fl s) t 4).2).map _= _;rw[List.map_append];rfl
theorem jQ' {r:Type} {l u:List r} {j:Nat} {f:r} (h:(l++u)[j]? =some f):(l[j]? =some f/\j < l.length)\/(u[j - l.length]? =some f/\l.length<=j):=by
 by_cases hj:j < l.length
 ·rw[List.getElem?_append_left hj]at h;exact .inl ⟨h,hj⟩
 ·rw[List.getElem?_append_right (by omega)]at h;exact .inr ⟨h,by omega⟩
theorem lT' {B:Nat} {x y V:World} {lv aj G:Value} {fs u:List Value} {z D:List ByteArray} {H U':Nat->Prop}
  (h1:L' B x lv fs z H) (h2:L' x.heap.size y aj u D U') (hF:Far H x y) (Y:∀k,U' k->H k\/x.heap.size<=k) (ak:∀k,U' k->k < y.heap.size) (ao:B<=x.heap.size)
  (ap:V.ownsRow B 44 1 G (fs.length+u.length) (fs++u)) (Z:y.grownBy V lv.ownBlock) (hl:G.ownBlock=lv.ownBlock\/G.ownBlock=some y.heap.size):L' B V G (fs++u) (z++D) U':=by
 have aa:=h1.len;have aq:=h2.len;have aB:=hF.size;have ab:∀k,lv.ownBlock=some k->B<=k/\k < x.heap.size:=fun k f=>h1.lt k (.inl f);have I:∀ (j:Nat) (r:Value),fs[j]? =some r->∀k,r.ownBlock=some k->B<=k/\k < x.heap.size/\¬H k/\lv.ownBlock≠some k:=fun j r hj k f=>by have hd:oz' fs fs.length k:=⟨j,(List.getElem?_eq_some_iff.1 hj).1,r,hj,f⟩;have h3:=h1.lt k (.inr hd);exact⟨h3.1,h3.2,h1.clear k (.inr hd),tg' (uF' (h1.each j r hj)) (uF' h1.row) (by decide) f⟩
 have J:∀ (j:Nat) (r:Value),u[j]? =some r->∀k,r.ownBlock=some k->x.heap.size<=k/\k < y.heap.size/\¬U' k:=fun j r hj k f=>by have hd:oz' u u.length k:=⟨j,(List.getElem?_eq_some_iff.1 hj).1,r,hj,f⟩;have h3:=h2.lt k (.inr hd);exact⟨h3.1,h3.2,h2.clear k (.inr hd)⟩
 refine⟨by simp[aa,aq],by simpa using ap,fun j r hj=>?_,fun ac ad u1 u2 au av ax k M O=>?_,fun k f hu=>?_⟩
 ·rcases jQ' hj with ⟨hj,ay⟩|⟨hj,ay⟩
  ·have e:((z++D).map fun b=>b.data.toList).getD j []=(z.map fun b=>b.data.toList).getD j []:=by rw[List.getD_eq_getElem?_getD,List.getD_eq_getElem?_getD,List.map_append,List.getElem?_append_left (by simp;omega)]
   rw[e];exact M' (h1.each j r hj) (fun k f=>by obtain⟨ah,Q,U,ai⟩:=I j r hj k f;exact(Z.block k (by omega) (fun e=>ai e.symm)).trans (hF.rest k Q U))
  ·have e:((z++D).map fun b=>b.data.toList).getD j []=(D.map fun b=>b.data.toList).getD (j - fs.length) []:=by rw[List.getD_eq_getElem?_getD,List.getD_eq_getElem?_getD,List.map_append,List.getElem?_append_right (by simp;omega)];simp[aa]
   rw[e];refine ap' (M' (h2.each _ r hj) (fun k f=>?_)) ao;obtain⟨ah,Q,U⟩:=J _ r hj k f;exact Z.block k Q (fun e=>by have:=(ab k e.symm).2;omega)
 ·rcases jQ' au with ⟨a1,X⟩|⟨a1,X⟩ <;> rcases jQ' av with ⟨F,az⟩|⟨F,az⟩
  ·exact h1.apart ac ad u1 u2 a1 F ax k M O
  ·have:=I ac u1 a1 k M;have:=J _ u2 F k O;omega
  ·have:=I ad u2 F k O;have:=J _ u1 a1 k M;omega
  ·exact h2.apart _ _ u1 u2 a1 F (by omega) k M O
 ·rcases f with f|⟨j,hj,r,aA,f⟩
  ·rcases hl with e|e
   ·rw[e]at f;have h3:=ab k f;rcases Y k hu with h4|h4
    ·exact h1.clear k (.inl f) h4
    ·omega
   ·rw[e]at f;injection f with f;have:=ak k hu;omega
  ·rcases jQ' aA with ⟨a1,X⟩|⟨a1,X⟩
   ·obtain⟨ah,Q,U,ai⟩:=I j r a1 k f;rcases Y k hu with h4|h4
    ·exact U h4
    ·omega
   ·exact(J _ r a1 k f).2.2 hu
theorem kI' {G:Array Oper} {rest:List Oper} {o:Oper} {a:Act} {H:Exit->Act->World->Prop} {w:World} (I:o.guard=none) (s x:Operand) (t:TypeId) (J:o.op= .call {callee:= .builtin .append,args:= #[s,x],argTypes:= #[t,t]})
  (base:Nat) (e:TypeId) (z:Value) (size bytes:Nat) (D:Tryz.prog.underlying t=some (.slice e)) (U:(Tryz.prog.info? e).map (fun i=>(i.zero,i.size,i.bytes))=some (some z,size,bytes)) (V:z.cells.size=size) (X:0 < size)
  (v:Value) (n:Nat) (xs:List Value) (F:w.ownsRow base e size v n xs) (hs:a.eval s=v) (Y:Nat) (M:Value) (m:Nat) (r:List Value) (u:w.ownsRow Y e size M m r) (O:a.eval x=M)
  (h1:∀Q∈r,Q.oneCell'=true) (Z:n+m<=maxLen) (aa:(n+m) * bytes<=140737488355328) (ab:base<=w.heap.size)
  (h:∀f w',w'.ownsRow base e size f (n+m) (xs++r)->w.grownBy w' v.ownBlock->(f.ownBlock=v.ownBlock\/f.ownBlock=some w.heap.size)->wpList Tryz.prog G H rest (a.put o.dst f) w'):wpList Tryz.prog G H (o::rest) a w:=by
 obtain⟨i0,hi,ac,ad,ah⟩:=bj' U;rcases u.2 with ⟨rfl,rfl⟩|⟨g,cap,ai,rfl,ax,ay,az,aA,aB,aC⟩
 ·have aj:r=[]:=by have:=u.1;simpa using this
  subst aj;refine wpList_plain I fun K hK=>?_;have ak:(Builtin.append_ #[t,t] o.type #[v, .slice none 0 0]).run Tryz.prog w= .ok v w:=by
   rcases F.2 with ⟨rfl,rfl⟩|⟨g,cap,ai,rfl,_,_,ao,_⟩
   ·simp[Builtin.append_,run_underlying D,sizeOf,typeInfo,hi,Builtin.lenOf,Builtin.firstCells]
   ·simp[Builtin.append_,run_underlying D,sizeOf,typeInfo,hi,Builtin.lenOf,Builtin.firstCells,ao,storeCells]
  unfold Oper.wp;simp[execOp,J,resolve,invoke,builtin,hs,O,ak,Result.andThen];exact hK _ _ (h v w (by simpa using F) (World.grownBy.refl _ _) (.inl rfl))
 ·refine wpList_append_own_at w I s x t J base e i0 z size bytes D hi ac ad ah V X v n xs hs F ⟨g,0,none⟩ m cap r O u.1 ?_ h1 Z aa ab (fun f w' ap aq _ au=>h f w' ap aq au);intro j Q hj;have av:j < m * size:=by rw[<-u.1];exact(List.getElem?_eq_some_iff.1 hj).1
  have:=World.ownsRow.cellAt u j av;rw[hj]at this;rw[cE',Nat.zero_add];exact this
theorem kJ' (a:Mod.Ag) (i t:Nat):(bD' a i t 4).length<=4:=by
 unfold bD';rw[List.length_map];exact gI' _ _ _ _ _
theorem kK' (a:Mod.Ag) (t:Nat):∀j,(kH' a t j).length<=4 * j
 |0=>Nat.le_refl _
 |j+1=>by have ih:=kK' a t j;have h:=kJ' (bn' a t j) j t;rw[jn',List.length_append];omega
theorem L'.one {B:Nat} {w:World} {lv:Value} {fs:List Value} {r:List ByteArray} {u:Nat->Prop} (h:L' B w lv fs r u):∀f∈fs,f.oneCell'=true:=by
 intro f hu;obtain⟨j,hj,rfl⟩:=List.getElem_of_mem hu;obtain⟨z,cap,e,_⟩:=(al' (h.each j _ (List.getElem?_eq_getElem hj))).shape;rw[e];rfl
section
variable {w:World} {p:Nat} {g:Nat->Nat} {free:List Nat} {sh:Nat->List (Nat×Value)} {st:Mod.Stv} {c:Av} {a:Mod.Ag} {pl:Nat->List Nat}
end
section
variable {top N:Nat} {C:dD' top} {w x y:World} {q sv rp f:Nat} {a ar ap:Mod.Ag} {r:vr'} {kv kvc hk hkc:Nat->Value} {U U':Nat->Prop} {left:Int} {i:Int} {s:ByteArray}
end
theorem eC' {a:Mod.Ag} {i:Int} {n:Nat} (h:a.refuses i n=0):(0<=i/\i < 3)/\n<=20/\a.room < 24:=by
 unfold Mod.Ag.refuses at h;split at h
 ·simp at h
 ·split at h
  ·simp at h
  ·split at h
   ·simp at h
   ·omega
section
variable {w:World} {p:Nat} {g:Nat->Nat} {free:List Nat} {sh:Nat->List (Nat×Value)} {st:Mod.Stv} {c:Av} {a:Mod.Ag} {pl:Nat->List Nat}
end
def wf' (w:World) (v:Nat) (a:Mod.Ag) (f:Nat->Prop):Prop:=
 ∃p g free sh r st c,w.heap[v]? =some (.cells #[y' p] 90 (0,0))/\aA' w p g a.ticks a.welcome a.fenced free sh st c/\vu' st/\aO' a st.opening g free sh r/\f=fun k=>k=v\/PaU p c k
section
variable {w z:World} {p v:Nat} {g:Nat->Nat} {tk:Nat} {wel fen:Bool} {free:List Nat} {sh:Nat->List (Nat×Value)} {st:Mod.Stv} {c:Av} {a a':Mod.Ag} {U:Nat->Prop} {N:Nat}
theorem fG' (f:aA' w p g tk wel fen free sh st c) {q:Nat} (r:w.heap[v]? =some (.cells #[y' q] 90 (0,0))):¬PaU p c v:=
 cG' f r (by decide) (by decide) (by decide) (by decide) (by decide) (by decide) (by decide)
theorem ph' (h:wf' w v a U):
  Calls Tryz.prog 39 #[y' v] w fun r w'=>r= .returned (.int .i64 a.epoch)/\Below w.heap.size w w':=by
 obtain⟨p,g,free,sh,I,st,c,u,D,hs,F,rfl⟩:=h;have c0:w.cell? ⟨v,0,none⟩=some (y' p):=m' (i:=0) u;have f:=bk' D;rw[F.ep]at f;have G:=t' f;clear D u f F;unfold y' at *;go_enter Tryz.func39,Tryz.ntmps39;go_wp2_with (go_at_call 66;refine(i' G).mono ?_;rintro r y ⟨rfl,H⟩;obtain rfl:w=y:=H.symm);go_ret;exact⟨rfl,Below.refl _ _⟩
end
end Go.Proofs.YtamafdcnbcoegaaGreat
