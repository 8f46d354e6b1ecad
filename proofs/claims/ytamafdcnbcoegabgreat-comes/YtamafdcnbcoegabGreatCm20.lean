/-
  Part 20 of a proof: SG1, SG2, SF7, SF11.
-/
import Derived.Test.YtamafdcnbcoegabGreatCm19
set_option maxRecDepth 100000
set_option maxHeartbeats 40000000
namespace Go.Proofs.YtamafdcnbcoegabGreat
def Pre (L T:List ByteArray):Prop:=∀ (j:Nat) (x:ByteArray),L[j]? =some x->T[j]? =some x
theorem Pre.refl (T:List ByteArray):Pre T T:=fun _ _ h=>h
theorem Pre.trans {L T S:List ByteArray} (h:Pre L T) (r:Pre T S):Pre L S:=fun j x z=>r j x (h j x z)
theorem Pre.len {L T:List ByteArray} (h:Pre L T):L.length<=T.length:=by
 by_cases h0:T.length < L.length
 ·have:=h T.length L[T.length] (List.getElem?_eq_getElem h0);rw[List.getElem?_eq_none (Nat.le_refl _)]at this;cases this
 ·omega
theorem Pre.take {L T:List ByteArray} (h:Pre L T):T.take L.length=L:=by
 apply List.ext_getElem?;intro j;rw[List.getElem?_take];split
 ·rename_i hj;rw[List.getElem?_eq_getElem hj];exact h j _ (List.getElem?_eq_getElem hj)
 ·rw[List.getElem?_eq_none (by omega)]
theorem Pre.app (L z:List ByteArray):Pre L (L++z):=fun j x r=>by
 rw[List.getElem?_append_left (List.getElem?_eq_some_iff.1 r).1];exact r
def eR' (T:Nat->List ByteArray) (s q:Nat) (b:ByteArray):Prop:=1<=q/\(T s)[q - 1]? =some b
def lX' (T r:Nat->List ByteArray):Prop:=∀s,Pre (T s) (r s)
theorem lX'.refl (T:Nat->List ByteArray):lX' T T:=fun _=>Pre.refl _
theorem eR'.grows {T r:Nat->List ByteArray} {s q:Nat} {b:ByteArray} (h:eR' T s q b) (g:lX' T r):eR' r s q b:=⟨h.1,g s _ _ h.2⟩
def ge' (T:Nat->List ByteArray) (E:Nat) (l:List UInt8):Prop:=
 Wire.reads l=true/\Wire.epochOf l<=(E:Int)/\(Wire.kindOf l=1\/(Wire.kindOf l=3/\eR' T (Wire.streamOf l).toNat (Wire.seqOf l).toNat (Wire.bodyOf l)))
def gf' (lg:Nat->List ByteArray) (E r:Nat) (l:List UInt8):Prop:=
 Wire.reads l=true/\((Wire.kindOf l=5/\Wire.epochOf l<=(E:Int))\/
  (Wire.kindOf l=2/\Wire.epochOf l<=(r:Int)/\∀s,s < 3->Wire.numAt (Wire.bodyOf l).data.toList (4 * s)<=((lg s).length:Int))\/
  (Wire.kindOf l=4/\Wire.epochOf l<=(r:Int)/\Wire.seqOf l<=((lg (Wire.streamOf l).toNat).length:Int)))
theorem ge'.mono {T r:Nat->List ByteArray} {E E':Nat} {l:List UInt8} (h:ge' T E l) (g:lX' T r) (z:E<=E'):ge' r E' l:=by
 obtain⟨h1,h2,h3⟩:=h;exact⟨h1,by omega,h3.imp id (fun h=>⟨h.1,h.2.grows g⟩)⟩
theorem gf'.mono {lg r:Nat->List ByteArray} {E E' z D:Nat} {l:List UInt8} (h:gf' lg E z l) (g:∀s,(lg s).length<=(r s).length) (F:E<=E') (hs:z<=D):gf' r E' D l:=by
 obtain⟨h1,h3⟩:=h;refine⟨h1,?_⟩;rcases h3 with ⟨h2,h3⟩|⟨h2,h3,h4⟩|⟨h2,h3,h4⟩
 ·exact .inl ⟨h2,by omega⟩
 ·exact .inr (.inl ⟨h2,by omega,fun s hs=>by have:=h4 s hs;have:=g s;omega⟩)
 ·exact .inr (.inr ⟨h2,by omega,by have:=g (Wire.streamOf l).toNat;omega⟩)
theorem jA' {l:List UInt8} (h:Wire.reads l=true):0 < l.length/\l.length<=1000:=by
 unfold Wire.reads Wire.whole at h;simp only[Bool.and_eq_true,decide_eq_true_eq]at h;obtain⟨⟨h1,h2,_⟩,_⟩:=h;have:(l.getD 10 0).toNat < 256:=UInt8.toNat_lt _;omega
theorem dp' {k:Int} {e s q:Nat} {b:ByteArray} (r:Wire.proper k e s q b=true):
  Wire.reads (Wire.bytes k e s q b.data.toList)=true/\Wire.kindOf (Wire.bytes k e s q b.data.toList)=k/\Wire.epochOf (Wire.bytes k e s q b.data.toList)=e/\Wire.streamOf (Wire.bytes k e s q b.data.toList)=s/\Wire.seqOf (Wire.bytes k e s q b.data.toList)=q/\Wire.bodyOf (Wire.bytes k e s q b.data.toList)=b:=by
 obtain⟨h1,h2,h3,h4,h5⟩:=ci' r;obtain⟨g0,g1,g2,z,D,F⟩:=Wire.parts_bytes (k:=k) (e:=e) (s:=s) (q:=q) (b:=b) (by omega) (by omega) (by omega) (by omega) (by omega);refine⟨?_,g1,g2,z,D,F⟩;unfold Wire.reads;rw[g0,g1,g2,z,D,F,r];rfl
theorem jB' {T:Nat->List ByteArray} {E e s q:Nat} {b:ByteArray} (r:eR' T s q b) (hs:s < 3) (G:e<=E) (H:E<=2147483647) (I:q<=2147483647) (J:b.size<=20):ge' T E (Wire.bytes 3 e s q b.data.toList):=by
 have M:=r.1;obtain⟨g1,g2,O,z,D,F⟩:=dp' (k:=3) (e:=e) (s:=s) (q:=q) (b:=b) (by simp[Wire.proper,Wire.isNum,Wire.isStr];omega);refine⟨g1,by omega, .inr ⟨g2,?_⟩⟩;rw[z,D,F];exact r
theorem sy' {T:Nat->List ByteArray} {E e:Nat} (r:e<=E) (z:E<=2147483647):ge' T E (Wire.bytes 1 e 0 0 []):=by
 obtain⟨g1,g2,D,F,G,H⟩:=dp' (k:=1) (e:=e) (s:=0) (q:=0) (b:=⟨#[]⟩) (by simp[Wire.proper,Wire.isNum,ByteArray.size];omega);exact⟨g1,by rw[kc'];omega, .inl g2⟩
structure AgI (b:Nat) (T lg:Nat->List ByteArray) (se:Nat) (a:Mod.Ag):Prop where
 good:aL' b a
 ep:a.epoch<=b+1
 sep:se<=a.epoch
 room:a.room<=24
 kept:∀s,s < 3->(a.fl s).base<=(T s).length/\a.spool s=(T s).drop (a.fl s).base
 base:∀s,s < 3->(a.fl s).base<=(lg s).length
 fen:a.fenced=false
 wel:a.welcome=true->se=a.epoch
 hld:∀s,s < 3->∀n∈ (a.fl s).held,(a.fl s).base+2<=n/\n<=(a.fl s).base+4
section
variable {b se:Nat} {T lg:Nat->List ByteArray} {a:Mod.Ag}
theorem AgI.mono (r:AgI b T lg se a) {z:Nat} (h:b<=z):AgI z T lg se a:=
 ⟨r.good.mono h,by have:=r.ep;omega,r.sep,r.room,r.kept,r.base,r.fen,r.wel,r.hld⟩
theorem AgI.sink (r:AgI b T lg se a) {D:Nat->List ByteArray} {z:Nat} (g:∀s,(lg s).length<=(D s).length) (h1:se<=z) (h2:z<=a.epoch):AgI b T D z a:=
 ⟨r.good,r.ep,h2,r.room,r.kept,fun s hs=>Nat.le_trans (r.base s hs) (g s),r.fen,fun h=>by have:=r.wel h;omega,r.hld⟩
theorem vR' (a:Mod.Ag) (s:Nat):(a.spool s).length=(a.fl s).kept.length:=by simp[Mod.Ag.spool]
theorem AgI.at_ (r:AgI b T lg se a) {s:Nat} (hs:s < 3) {j:Nat} {x:ByteArray×Nat} (h:(a.fl s).kept[j]? =some x):(T s)[(a.fl s).base+j]? =some x.1:=by
 have h1:(a.spool s)[j]? =some x.1:=by simp[Mod.Ag.spool,h]
 rw[(r.kept s hs).2,List.getElem?_drop]at h1;exact h1
theorem ur' (a:Mod.Ag) {i:Nat} (hi:i < 3) (x:ByteArray):(a.submit i x).room=a.room+1:=by
 obtain rfl|rfl|rfl:i=0\/i=1\/i=2:=by omega
 all_goals
  simp[Mod.Ag.room,Mod.Ag.submit,Mod.upd];try omega
theorem AgI.submit (r:AgI b T lg se a) {i:Nat} (hi:i < 3) {x:ByteArray} (F:x.size<=20) (G:a.room < 24):AgI (b+1) (fun t=>if t=i then T i++[x]else T t) lg se (a.submit i x):=by
 have h1:=mA' r.good i x F;have H:=r.ep;have z:∀s,((a.submit i x).fl s).base=(a.fl s).base/\((a.submit i x).fl s).held=(a.fl s).held/\(a.submit i x).spool s=if s=i then a.spool i++[x]else a.spool s:=fun s=>by
  unfold Mod.Ag.spool Mod.Ag.submit Mod.upd;by_cases e:s=i
  ·subst e;simp
  ·simp[e]
 refine⟨h1,by show a.epoch<= _;omega,r.sep,by rw[ur' a hi];omega,fun s hs=>?_,fun s hs=>by rw[(z s).1];exact r.base s hs,r.fen,r.wel,fun s hs n D=>by rw[(z s).2.1]at D;rw[(z s).1];exact r.hld s hs n D⟩;rw[(z s).1,(z s).2.2];obtain⟨k1,k2⟩:=r.kept s hs;by_cases e:s=i
 ·subst e;simp only[if_true];refine⟨by rw[List.length_append];omega,?_⟩;rw[k2,List.drop_append,show(a.fl s).base - (T s).length=0 by omega,List.drop_zero]
 ·rw[if_neg e,if_neg e];exact⟨k1,k2⟩
theorem AgI.reop (r:AgI b T lg se a) (G:b+2<=2147483647):AgI (b+1) T lg se (Mod.reop a):=by
 have H:=r.ep;have z:∀s,s < 3->((Mod.reop a).fl s).base=(a.fl s).base/\((Mod.reop a).fl s).held=[]/\(Mod.reop a).spool s=a.spool s:=fun s hs=>by unfold Mod.Ag.spool Mod.reop;simp[hs]
 refine⟨(qN' r.good (by omega)).mono (Nat.le_succ _),by show a.epoch+1<= _;omega,by have:=r.sep;show se<=a.epoch+1;omega,?_,fun s hs=>by rw[(z s hs).1,(z s hs).2.2];exact r.kept s hs,fun s hs=>by rw[(z s hs).1];exact r.base s hs,rfl,fun h=>(by cases h),fun s hs n D=>(by rw[(z s hs).2.1]at D;cases D)⟩;have F:=r.room;simpa[Mod.Ag.room,Mod.reop]using F
theorem dl' (e s:Nat) (f:Mod.Flow) (t:Nat):∀i,∀l∈ (Mod.sendTo e s f t i).2,∃j x,f.kept[j]? =some x/\l=Wire.bytes 3 e s (f.base+1+j:Nat) x.1.data.toList
 |0,l,h=>by simp[Mod.sendTo]at h
 |i+1,l,h=>by
  simp only[Mod.sendTo]at h;cases r:f.kept[i]? with
  |none=>rw[r]at h;exact dl' e s f t i l h
  |some x=>
   rw[r]at h;simp only at h;split at h
   ·rcases List.mem_append.1 h with h|h
    ·exact dl' e s f t i l h
    ·rw[List.mem_singleton]at h;exact⟨i,x,r,h⟩
   ·exact dl' e s f t i l h
theorem gg' (e t:Nat) (f:Nat->Mod.Flow):∀n,∀l∈Mod.sendOut e t f n,∃s j x,s < n/\(f s).kept[j]? =some x/\l=Wire.bytes 3 e s ((f s).base+1+j:Nat) x.1.data.toList
 |0,l,h=>by simp[Mod.sendOut]at h
 |n+1,l,h=>by
  simp only[Mod.sendOut]at h;rcases List.mem_append.1 h with h|h
  ·obtain⟨s,j,x,h1,h2⟩:=gg' e t f n l h;exact⟨s,j,x,by omega,h2⟩
  ·obtain⟨j,x,h1,h2⟩:=dl' _ _ _ _ _ l h;exact⟨n,j,x,by omega,h1,h2⟩
theorem cg' (a:Mod.Ag):a.tick.1.epoch=a.epoch/\a.tick.1.fenced=a.fenced/\a.tick.1.welcome=a.welcome/\∀s,(a.tick.1.fl s).held=(a.fl s).held:=by
 unfold Mod.Ag.tick;split
 ·exact⟨rfl,rfl,rfl,fun _=>rfl⟩
 ·split
  ·exact⟨rfl,rfl,rfl,fun _=>rfl⟩
  ·refine⟨rfl,rfl,rfl,fun s=>?_⟩;simp only[Mod.sendFl];split <;> rfl
theorem AgI.tick (r:AgI b T lg se a) (H:b+2<=2147483647):AgI (b+1) T lg se a.tick.1/\∀l∈a.tick.2,ge' T a.epoch l:=by
 obtain⟨z,G,t3,t4⟩:=cg' a;have t5:=cL' a;have I:=r.ep;refine⟨⟨jQ' r.good,by rw[z];omega,by rw[z];exact r.sep,?_,fun s hs=>?_,fun s hs=>by rw[(t5 s).1];exact r.base s hs,by rw[G];exact r.fen,fun h=>by rw[z];exact r.wel (by rw[<-t3];exact h),fun s hs n F=>by rw[t4 s]at F;rw[(t5 s).1];exact r.hld s hs n F⟩,fun l hl=>?_⟩
 ·have hl:∀s,(a.tick.1.fl s).kept.length=(a.fl s).kept.length:=fun s=>by have:=congrArg List.length (t5 s).2;simpa using this
  have:=r.room;unfold Mod.Ag.room at this ⊢;rw[hl,hl,hl];exact this
 ·have h2:a.tick.1.spool s=a.spool s:=(t5 s).2;rw[(t5 s).1,h2];exact r.kept s hs
 ·unfold Mod.Ag.tick at hl;split at hl
  ·cases hl
  ·split at hl
   ·rw[List.mem_singleton]at hl;rw[hl];exact sy' (Nat.le_refl _) (by omega)
   ·obtain⟨s,j,x,hs,D,rfl⟩:=gg' _ _ _ _ l hl;have h1:=r.at_ hs D;have h2:=r.good.bod s hs x (List.mem_of_getElem? D);have h3:=r.good.sum s hs;have h4:=(List.getElem?_eq_some_iff.1 D).1;exact jB' ⟨by omega,by rw[show(a.fl s).base+1+j - 1=(a.fl s).base+j by omega];exact h1⟩ hs (Nat.le_refl _) (by omega) (by omega) h2.1
end
theorem lY' {q c:Nat}:∀i,∀m∈Mod.bitsOf q c i,q+2<=m/\m < q+2+i
 |0,m,h=>by simp[Mod.bitsOf]at h
 |i+1,m,h=>by
  simp only[Mod.bitsOf]at h;rcases List.mem_append.1 h with h|h
  ·have:=lY' i m h;omega
  ·split at h
   ·rw[List.mem_singleton]at h;omega
   ·cases h
theorem ee' (a:Mod.Ag) (k:Int) (e st q:Nat) (b:ByteArray) {s:Nat} (hs:s < 3):
  ∃n,n<=a.says k e st q b s/\((a.deliver k e st q b).fl s).base=(a.fl s).base+n/\(a.deliver k e st q b).spool s=(a.spool s).drop n/\
   ((n=0/\((a.deliver k e st q b).fl s).held=(a.fl s).held)\/∀m∈ ((a.deliver k e st q b).fl s).held,(a.fl s).base+n+2<=m/\m<=(a.fl s).base+n+4):=by
 have h0:∀a':Mod.Ag,(a'.fl s)=a.fl s->∃n,n<=a.says k e st q b s/\(a'.fl s).base=(a.fl s).base+n/\a'.spool s=(a.spool s).drop n/\
   ((n=0/\(a'.fl s).held=(a.fl s).held)\/∀m∈ (a'.fl s).held,(a.fl s).base+n+2<=m/\m<=(a.fl s).base+n+4):=fun a' D=>
  ⟨0,Nat.zero_le _,by rw[D];rfl,by simp[Mod.Ag.spool,D], .inl ⟨rfl,by rw[D]⟩⟩
 unfold Mod.Ag.deliver;split
 ·exact h0 _ rfl
 ·split
  ·exact h0 _ rfl
  ·split
   ·exact h0 _ rfl
   ·rename_i G O;split
    ·refine⟨_,Nat.le_refl _,?_,?_, .inr ?_⟩
     ·simp[Mod.fresh,hs,Mod.Ag.drop,Mod.dropTo,Mod.Flow.drop]
     ·simp[Mod.Ag.spool,Mod.fresh,hs,Mod.Ag.drop,Mod.dropTo,Mod.Flow.drop,Function.comp_def];try exact List.map_drop ..
     ·intro m z;simp[Mod.fresh,hs]at z
    ·split
     ·split
      ·exact h0 _ rfl
      ·rename_i H J I;have M:a.welcome=true:=by
        cases h:a.welcome
        ·exact absurd (.inl h) I
        ·rfl
       by_cases r:s=st
       ·have F:a.says k e st q b s=a.gone s q:=by unfold Mod.Ag.says;rw[if_neg G,if_neg H,if_pos ⟨J,by rw[r],M⟩]
        refine⟨_,Nat.le_refl _,?_,?_, .inr ?_⟩
        ·subst r;simp[Mod.upd,hs,Mod.Ag.drop,Mod.dropTo,Mod.Flow.drop]
        ·subst r;simp[Mod.Ag.spool,Mod.upd,hs,Mod.Ag.drop,Mod.dropTo,Mod.Flow.drop,List.map_drop]
        ·intro m z;subst r;simp only[Int.toNat_natCast,Mod.upd,if_true]at z;have h1:=lY' _ m z;have h2:¬a.ackSeq ((s:Nat):Int).toNat q < (a.fl ((s:Nat):Int).toNat).base:=fun h=>I (.inr h);simp only[Int.toNat_natCast]at h2;rw[F];unfold Mod.Ag.gone;unfold Mod.Ag.ackSeq at h1 h2;simp only[Int.toNat_natCast]at h1 h2;omega
       ·have F:a.says k e st q b s=0:=by unfold Mod.Ag.says;rw[if_neg G,if_neg H,if_neg (fun h=>r (by have:=h.2.1;omega))]
        refine h0 _ ?_;simp only[Int.toNat_natCast,Mod.upd,if_neg r,Mod.Ag.drop,Mod.dropTo,if_pos hs,Mod.Flow.drop,F];simp
     ·exact h0 _ rfl
theorem kz' (a:Mod.Ag) (k:Int) (e st q:Nat) (b:ByteArray) (h:¬ (k=5/\(a.epoch:Int) < e)):
  (a.deliver k e st q b).fenced=a.fenced/\(a.deliver k e st q b).epoch=a.epoch/\((a.deliver k e st q b).welcome=true->(k=2/\e=a.epoch)\/a.welcome=true):=by
 unfold Mod.Ag.deliver;rw[if_neg h];split
 ·exact⟨rfl,rfl,fun h=> .inr h⟩
 ·rename_i r;split
  ·exact⟨rfl,rfl,fun h=>by cases h⟩
  ·split
   ·rename_i h2;exact⟨rfl,rfl,fun _=> .inl ⟨h2,by omega⟩⟩
   ·split
    ·split
     ·exact⟨rfl,rfl,fun h=> .inr h⟩
     ·exact⟨rfl,rfl,fun h=> .inr h⟩
    ·exact⟨rfl,rfl,fun h=> .inr h⟩
theorem sz' {a:Mod.Ag} {lg:Nat->List ByteArray} {k:Int} {e st q:Nat} {b:ByteArray} {s:Nat}
  (h2:k=2->Wire.numAt b.data.toList (4 * s)<=((lg s).length:Int)) (h4:k=4->st=s->(q:Int)<=((lg s).length:Int)) (z:(a.fl s).base<=(lg s).length):
  (a.fl s).base+a.says k e st q b s<=(lg s).length:=by
 unfold Mod.Ag.says;split
 ·omega
 ·split
  ·rename_i r;have:=h2 r;unfold Mod.Ag.gone;omega
  ·split
   ·rename_i r;have:=h4 r.1 (by have:=r.2.1;omega);unfold Mod.Ag.gone;omega
   ·omega
theorem AgI.deliver {b D:Nat} {T lg:Nat->List ByteArray} {a:Mod.Ag} {l:List UInt8} (r:AgI b T lg D a) (z:gf' lg a.epoch D l):(aB' a l).1=0/\(aB' a l).2.epoch=a.epoch/\AgI b T lg D (aB' a l).2:=by
 obtain⟨J,z⟩:=z;obtain⟨k,e,st,q,bd,g1,g2,M,O,Q,ad,ah,ai,aj⟩:=bK' J;rw[g1,g2,M,O,Q,Int.toNat_natCast]at z;have X:aB' a l=(0,a.deliver k e st q bd):=hx' J g1 g2 M O Q;rw[X];have Y:¬ (k=5/\(a.epoch:Int) < e):=fun h=>by
  rcases z with ⟨_,h2⟩|⟨h2,_⟩|⟨h2,_⟩
  ·omega
  ·have:=h.1;omega
  ·have:=h.1;omega
 obtain⟨Z,H,aa⟩:=kz' a k e st q bd Y;have ak:=r.sep;refine⟨rfl,H,⟨fO' r.good _ _ _ _ _,by show(a.deliver k e st q bd).epoch<= _;rw[H];exact r.ep,by show D<=(a.deliver k e st q bd).epoch;rw[H];exact r.sep,Nat.le_trans (oV' a k e st q bd) r.room,fun s hs=>?_,fun s hs=>?_,by show(a.deliver k e st q bd).fenced=false;rw[Z];exact r.fen,fun h=>?_,fun s hs m U=>?_⟩⟩
 ·obtain⟨n,V,F,I,_⟩:=ee' a k e st q bd hs;show((a.deliver k e st q bd).fl s).base<= _/\(a.deliver k e st q bd).spool s= _;rw[F,I];obtain⟨k1,k2⟩:=r.kept s hs;have h1:=gs' a k e st q bd s;have h2:=congrArg List.length k2;rw[vR',List.length_drop]at h2;exact⟨by omega,by rw[k2,List.drop_drop]⟩
 ·obtain⟨n,V,F,I,_⟩:=ee' a k e st q bd hs;show((a.deliver k e st q bd).fl s).base<= _;rw[F];have h1:=sz' (a:=a) (lg:=lg) (k:=k) (e:=e) (st:=st) (q:=q) (b:=bd) (s:=s) (fun ab=>?_) (fun ab ac=>?_) (r.base s hs)
  ·omega
  ·rcases z with ⟨h2,_⟩|⟨h2,_,h3⟩|⟨h2,_⟩
   ·omega
   ·exact h3 s hs
   ·omega
  ·rcases z with ⟨h2,_⟩|⟨h2,_⟩|⟨h2,_,h3⟩
   ·omega
   ·omega
   ·rw[<-ac];exact h3
 ·show D=(a.deliver k e st q bd).epoch;rw[H];rcases aa h with ⟨h1,h2⟩|h1
  ·rcases z with ⟨h3,_⟩|⟨_,h3,_⟩|⟨h3,_⟩
   ·omega
   ·omega
   ·omega
  ·exact r.wel h1
 ·obtain⟨n,V,F,I,G⟩:=ee' a k e st q bd hs;show((a.deliver k e st q bd).fl s).base+2<=m/\m<=((a.deliver k e st q bd).fl s).base+4;rw[F];rcases G with ⟨rfl,G⟩|G
  ·exact r.hld s hs m (by rw[<-G];exact U)
  ·exact G m U
structure SkI (T:Nat->List ByteArray) (s:Mod.Sk):Prop where
 good:aw' s
 log:∀i,i < 3->Pre (s.logs i) (T i)
 held:∀h∈s.held,h.1 < 3/\eR' T h.1 h.2.1 h.2.2
theorem SkI.grows {T z:Nat->List ByteArray} {s:Mod.Sk} (r:SkI T s) (g:lX' T z):SkI z s:=⟨r.good,fun i hi=>(r.log i hi).trans (g i),fun h D=>⟨(r.held h D).1,(r.held h D).2.grows g⟩⟩
theorem fs' {T:Nat->List ByteArray} {a:Mod.Sk} {st q n:Nat} (D:∀h∈a.held,h.1 < 3/\eR' T h.1 h.2.1 h.2.2):∀ (f:Nat) (out:List ByteArray),(∀ (j:Nat) (x:ByteArray),out[j]? =some x->(T st)[q+j - 1]? =some x)->∀ (j:Nat) (x:ByteArray),(a.commitFrom st q n f out)[j]? =some x->(T st)[q+j - 1]? =some x
 |0,out,z=>z
 |f+1,out,z=>by
  rw[Mod.Sk.commitFrom];split
  ·cases hi:a.ix st (q+out.length)with
   |none=>exact z
   |some i=>
    have h1:=(D _ (gu' hi)).2.2;refine fs' D f _ (fun j x r=>?_);rw[List.getElem?_append]at r;split at r
    ·exact z j x r
    ·rw[List.getElem?_singleton]at r;split at r
     ·injection r with r;rw[<-r,show j=out.length by omega];exact h1
     ·cases r
  ·exact z
theorem iR' {T:Nat->List ByteArray} {a:Mod.Sk} (z:∀h∈a.held,h.1 < 3/\eR' T h.1 h.2.1 h.2.2) (k e:Int) {st q:Nat} {b:ByteArray} (D:eR' T st q b):∀ (j:Nat) (x:ByteArray),(a.commits k e st q b)[j]? =some x->(T st)[(a.logs st).length+j]? =some x:=by
 intro j x r;unfold Mod.Sk.commits at r;split at r
 ·simp at r
 ·rename_i F;split at r
  ·simp at r
  ·have G:(q:Int)=(a.logs st).length+1:=by have:=Classical.not_not.1 (fun h=>F (.inr (.inr h)));simpa using this
   simp only[Int.toNat_natCast]at r;have h1:=fs' (T:=T) (q:=q) z 120 [b] (fun j x r=>by
    rw[List.getElem?_singleton]at r;split at r
    ·rename_i hj;injection r with r;rw[<-r,hj];exact D.2
    ·cases r) j x r
   rw[show(a.logs st).length+j=q+j - 1 by omega];exact h1
theorem vS' {L z T:List ByteArray} (h:Pre L T) (D:∀ (j:Nat) (x:ByteArray),z[j]? =some x->T[L.length+j]? =some x):Pre (L++z) T:=fun j x r=>by
 rw[List.getElem?_append]at r;split at r
 ·exact h j x r
 ·have:=D _ x r;rwa [show L.length+(j - L.length)=j by omega]at this
theorem nI' {T:Nat->List ByteArray} {a:Mod.Sk} (z:∀i,i < 3->Pre (a.logs i) (T i)) {st:Nat} {r:List ByteArray} (D:∀ (j:Nat) (x:ByteArray),r[j]? =some x->(T st)[(a.logs st).length+j]? =some x):(∀i,i < 3->Pre ((grown a st r).logs i) (T i))/\∀i,(a.logs i).length<=((grown a st r).logs i).length:=by
 refine⟨fun i hi=>?_,fun i=>?_⟩
 ·simp only[grown];split
  ·rename_i e;subst e;exact vS' (z _ hi) D
  ·exact z i hi
 ·simp only[grown];split
  ·rename_i e;subst e;simp
  ·exact Nat.le_refl _
theorem iS' {T:Nat->List ByteArray} {a:Mod.Sk} (z:SkI T a) (k e:Int) {st q:Nat} {b:ByteArray} (hs:st < 3) (D:eR' T st q b):
  (∀i,i < 3->Pre ((ak' a k e st q b).logs i) (T i))/\(∀i,(a.logs i).length<=((ak' a k e st q b).logs i).length)/\∀h∈ (ak' a k e st q b).held,h.1 < 3/\eR' T h.1 h.2.1 h.2.2:=by
 unfold ak';split
 ·rw[fM'];refine⟨z.log,fun _=>Nat.le_refl _,fun h r=>?_⟩;unfold bA' at r;split at r
  ·rcases List.mem_append.1 r with r|r
   ·exact z.held h r
   ·rw[List.mem_singleton]at r;rw[r];exact⟨hs,D⟩
  ·exact z.held h r
 ·obtain⟨h1,h2⟩:=nI' z.log (iR' z.held k e D);refine⟨h1,h2,fun h r=>?_⟩;simp only[bB',Mod.Sk.forget,grown]at r;exact z.held h (List.mem_filter.1 r).1
theorem fm' {s:Mod.Sk} (r:aw' s):∀i,i < 3->(s.logs i).length<=120:=by
 have:=r.room;unfold Mod.Sk.count at this;intro i hi;obtain rfl|rfl|rfl:i=0\/i=1\/i=2:=by omega
 all_goals omega
theorem sA' {lg:Nat->List ByteArray} {E r n:Nat} (h:n<=E) (F:E<=2147483647):gf' lg E r (em' n).data.toList:=by
 obtain⟨g1,g2,z,G,H,I⟩:=dp' (k:=5) (e:=n) (s:=0) (q:=0) (b:=⟨#[]⟩) (by simp[Wire.proper,Wire.isNum,ByteArray.size];omega);have D:(em' n).data.toList=Wire.bytes 5 n ((0:Nat):Int) ((0:Nat):Int) (⟨#[]⟩:ByteArray).data.toList:=by simp[em']
 rw[D];exact⟨g1, .inl ⟨g2,by rw[z];omega⟩⟩
theorem vT' {a:Mod.Sk} {E n:Nat} (z:n<=2147483647) (D:aw' a):gf' a.logs E n (eM' a n).data.toList:=by
 have hl:=fm' D;have r:∀i,i < 3->(a.logs i).length<=2147483647:=fun i hi=>by have:=hl i hi;omega
 obtain⟨g1,g2,F,I,J,G⟩:=dp' (k:=2) (e:=n) (s:=0) (q:=0) (b:=gY' a) (kd' a n z r);have H:(eM' a n).data.toList=Wire.bytes 2 n ((0:Nat):Int) ((0:Nat):Int) (gY' a).data.toList:=by simp[eM']
 rw[H];refine⟨g1, .inr (.inl ⟨g2,by rw[F];omega,fun s hs=>?_⟩)⟩;rw[G,(qR' a r).2 s hs];omega
theorem vU' {a:Mod.Sk} {E:Nat} (r:aw' a) {s:Nat} (hs:s < 3):gf' a.logs E a.epoch (Wire.bytes 4 a.epoch s (a.logs s).length (ackBody a s (a.logs s).length).data.toList):=by
 have hl:=fm' r;obtain⟨g1,g2,z,D,F,G⟩:=dp' (gV' (a:=a) (s:=s) (up:=(a.logs s).length) r.ep hs (by have:=hl s hs;omega));refine⟨g1, .inr (.inr ⟨g2,by rw[z];omega,by rw[D,F,Int.toNat_natCast];omega⟩)⟩
theorem SkI.deliver {T:Nat->List ByteArray} {E:Nat} {s s':Mod.Sk} {l:List UInt8} {e:Int} {I:Bool} {J:List ByteArray} (F:SkI T s) (H:s.epoch<=E) (ad:E<=2147483647) (ah:ge' T E l) (h:jz' l false s e I s' J) (D:aw' s'):
  ((e=4/\J=[]/\I=true)\/(e=0/\I=false))/\SkI T s'/\(∀i,(s.logs i).length<=(s'.logs i).length)/\s.epoch<=s'.epoch/\s'.epoch<=E/\∀x∈J,gf' s'.logs E s'.epoch x.data.toList:=by
 obtain⟨M,ai,O⟩:=ah;obtain⟨k,z,st,q,bd,g1,g2,Q,U,V,aq,aa,au,av⟩:=bK' M;rw[g2]at ai;rw[g1,Q,U,V,Int.toNat_natCast,Int.toNat_natCast]at O;rcases h with ⟨h,_⟩|⟨_,rfl,rfl,rfl,n,ax,ay,rfl⟩|⟨_,rfl,rfl,rfl,rfl⟩
 ·cases h
 ·refine⟨.inl ⟨rfl,rfl,rfl⟩,?_⟩;have ab:(∀i,i < 3->Pre (iE' s l n i) (T i))/\∀i,(s.logs i).length<=(iE' s l n i).length:=by
   rw[(iF' M g1 g2 Q U V).2];unfold oN';split
   ·rename_i az;have X:eR' T st q bd:=by
     rcases O with h|⟨_,h⟩
     ·omega
     ·exact h
    refine nI' F.log (fun j x r=>iR' F.held 3 s.epoch X j x ?_);rw[List.getElem?_take]at r;split at r
    ·exact r
    ·cases r
   ·exact⟨F.log,fun _=>Nat.le_refl _⟩
  exact⟨⟨D,ab.1,fun h G=>by cases G⟩,ab.2,Nat.le_refl _,H,fun x r=>by cases r⟩
 ·rw[db' M g1 g2 Q U V]at D ⊢;refine⟨.inr ⟨rfl,rfl⟩,?_⟩;have ac:∀m,m<=E->∀x∈ [em' m],gf' s.logs E s.epoch x.data.toList:=fun m aj x r=>by rw[List.mem_singleton]at r;rw[r];exact sA' aj ad
  unfold bI' at D ⊢;rcases O with rfl|⟨rfl,X⟩
  ·rw[if_pos rfl]at D ⊢;split
   ·exact⟨F,fun _=>Nat.le_refl _,Nat.le_refl _,H,ac _ H⟩
   ·rename_i ak;rw[if_neg ak]at D;simp only[Int.toNat_natCast]at D ⊢;refine⟨⟨D,F.log,fun h G=>?_⟩,fun _=>Nat.le_refl _,by show s.epoch<=z;omega,by show z<=E;omega,fun x r=>?_⟩
    ·simp only[bc',dI']at G;split at G
     ·cases G
     ·exact F.held h G
    ·rw[List.mem_singleton]at r;rw[r];have Y:gf' s.logs E z (eM' s z).data.toList:=vT' (by omega) F.good;exact Y
  ·rw[if_neg (by decide),if_pos rfl]at D ⊢;split
   ·rename_i ao;rw[if_pos ao]at D;obtain⟨k1,k2,k3⟩:=iS' F 3 z aa X;have Z:=lW' s 3 z st q bd;refine⟨⟨D,k1,k3⟩,k2,by rw[Z];exact Nat.le_refl _,by rw[Z];exact H,fun x r=>?_⟩;rw[List.mem_singleton]at r;have Y:=vU' (a:=ak' s 3 z st q bd) (E:=E) D aa;have ap:(ih' s 3 z st q bd).data.toList=Wire.bytes 4 (ak' s 3 z st q bd).epoch st ((ak' s 3 z st q bd).logs st).length (ackBody (ak' s 3 z st q bd) st ((ak' s 3 z st q bd).logs st).length).data.toList:=by rw[Z];simp[ih']
    rw[r,ap];exact Y
   ·exact⟨F,fun _=>Nat.le_refl _,Nat.le_refl _,H,ac _ (by omega)⟩
theorem sB' (a:Mod.Sk) (l:List UInt8):∀x∈ (am' a l).2.2,0 < x.data.toList.length:=by
 have h1:∀ (k e s q:Int) (b:List UInt8),0 < (⟨(Wire.bytes k e s q b).toArray⟩:ByteArray).data.toList.length:=fun k e s q b=>by have:=Wire.length_bytes k e s q b;simp;omega
 intro x r;unfold am' at r;split at r
 ·unfold bI' at r;split at r
  ·split at r
   ·rw[List.mem_singleton]at r;rw[r];exact h1 _ _ _ _ _
   ·rw[List.mem_singleton]at r;rw[r];exact h1 _ _ _ _ _
  ·split at r
   ·split at r
    ·rw[List.mem_singleton]at r;rw[r];exact h1 _ _ _ _ _
    ·rw[List.mem_singleton]at r;rw[r];exact h1 _ _ _ _ _
   ·cases r
 ·cases r
theorem iT' {l:List UInt8} {d:Bool} {s:Mod.Sk} {e:Int} {D:Bool} {s':Mod.Sk} {z:List ByteArray} (h:jz' l d s e D s' z):z.length<=1/\∀x∈z,0 < x.data.toList.length/\x.data.toList.length<=1000:=by
 rcases h with ⟨_,_,_,_,rfl⟩|⟨_,_,_,rfl,_⟩|⟨_,_,_,_,rfl⟩
 ·exact⟨by simp,fun x r=>by cases r⟩
 ·exact⟨by simp,fun x r=>by cases r⟩
 ·have h1:=fh' s l;exact⟨h1.1,fun x r=>⟨sB' s l x r,by have:=h1.2 x r;omega⟩⟩
end Go.Proofs.YtamafdcnbcoegabGreat
namespace Go.Proofs.YtamafdcnbcoegabGreat
open Go.RowKit
def rdg (n:Nat):ByteArray:=⟨#[114]⟩++gc' n
theorem qY' {n:Nat} (h:n < 10000000000):(rdg n).size<=11:=by
 have:=jy' h;unfold rdg;rw[ByteArray.size_append];have:(ByteArray.mk #[114]).size=1:=rfl;omega
def gD' (i:Nat) (P:Pl) (e:Int) (r:Bool) (a':Mod.Ag):Bool×Pl:=
 if e=0 then(true,{P with a:=a',da:=r,made:=P.made+1,T:=fun t=>if t=i then P.T i++[rdg (P.made+1)]else P.T t})
 else if e=4 then(true,{P with a:=a',da:=r,made:=P.made+1,fa:=true,stream:=i,may:=rdg (P.made+1)})
 else if e=7 then(decide (a'.room=24),{P with a:=a',da:=r,made:=P.made+1})else(P.fa&&decide (e=3),{P with a:=a',da:=r,made:=P.made+1})
def qZ' (P:Pl):Nat:=(P.T 0).length+(P.T 1).length+(P.T 2).length
def xg' (SO:Int->Bool->Mod.Ag->Prop) (i:Nat) (P:Pl) (v:Value) (z:Pl):Prop:=(100<=qZ' P/\v= .bool true/\z=P)\/(qZ' P < 100/\∃ (e:Int) (r:Bool) (a':Mod.Ag),SO e r a'/\v= .bool (gD' i P e r a').1/\z=(gD' i P e r a').2)
def vV' (i:Nat) (P:Pl) (v:Value) (r:Pl):Prop:=xg' (ss' i (rdg (P.made+1)) P.da P.a) i P v r
def lZ' (B K p:Nat) (N:bd') (s:Nat) (b:ByteArray) (r:World):Prop:=∃v,Net B K p r (N.take s v b)
theorem lZ'.below {B K p s:Nat} {N:bd'} {b:ByteArray} {w r:World} (h:lZ' B K p N s b w) (z:Below w.heap.size w r):lZ' B K p N s b r:=by
 obtain⟨v,h⟩:=h;exact⟨v,h.below z⟩
theorem Net.tvShape {B K p:Nat} {w:World} {N:bd'} (r:Net B K p w N) {s:Nat} (hs:s < 3):w.ownsRow B 9 1 (N.tv s) (N.T s).length (aV' (N.T s))/\(∃D cap,N.tv s= .slice D (N.T s).length cap/\w.cell? ⟨p,4+s,none⟩=some (.slice D (N.T s).length cap))/\
  (∀k,(N.tv s).ownBlock=some k->B<=k/\k < w.heap.size/\k≠p):=by
 have z:w.ownsRow B 9 1 (N.tv s) (N.T s).length (aV' (N.T s)):=by
  obtain rfl|rfl|rfl:s=0\/s=1\/s=2:=by omega
  ·exact r.at_ 5
  ·exact r.at_ 6
  ·exact r.at_ 7
 obtain⟨D,cap,e,_⟩:=(aq' z).shape;refine⟨z,⟨D,cap,e,?_⟩,fun k F=>⟨(World.ownsRow.lt z k F).1,(World.ownsRow.lt z k F).2,fun e=>?_⟩⟩
 ·rw[<-e];obtain rfl|rfl|rfl:s=0\/s=1\/s=2:=by omega
  all_goals exact r.cell rfl
 ·exact(aq' z).ne (r.at_ 0) (by decide) (by rw[<-e];exact F)
def spK (a:Mod.Ag):Nat->Nat
 |0=>0
 |k+1=>spK a k+(aG' a k).length
theorem vW' (a:Mod.Ag):spK a 3=a.room:=by simp[spK,aG',Mod.Ag.spool,Mod.Ag.room]
theorem vX' (a:Mod.Ag) {N:Nat} (h:∀s,s < 3->(a.fl s).base+(a.fl s).kept.length<=N):∀k,k<=3->spK a k<=k * N
 |0,_=>by simp[spK]
 |k+1,r=>by
  have h1:=vX' a h k (by omega);have h2:=h k (by omega);have h3:(aG' a k).length<=(a.fl k).kept.length:=by simp only[aG',Mod.Ag.spool];split <;> simp
  simp only[spK];rw[Nat.succ_mul];omega
theorem gO' {SO:Int->Bool->Mod.Ag->Prop} {B K p b i:Nat} {w:World} {N:bd'} (ac:Net B K p w N) (ad:dx' b N.pl) (hi:i < 3) (br:∀e z a',SO e z a'->ss' i (rdg (N.made+1)) N.da N.a e z a')
  (bt:∀y,Far (fun k=>k=p) w y->Calls Tryz.prog 22 #[A' N.va, .int .i64 i, .string (rdg (N.made+1))] y fun Z w'=>
    ∃ (e:Int) (z:Bool) (a':Mod.Ag) (U':Nat->Prop),Z= .returned (.int .i64 e)/\AgE z w' N.va a' U'/\Far N.ua y w'/\(∀k,U' k->N.ua k\/y.heap.size<=k)/\SO e z a'):
  Calls Tryz.prog 7 #[.pointer (some ⟨p,0,none⟩), .int .i64 i] w (dy' B K p w (xg' SO i N.pl)):=by
 have bu:=y' bt;have bU:=y' br;clear bt br;have bV:qZ' N.pl<=100:=ad.room;obtain⟨_,⟨a0,cx,_,c4⟩,_⟩:=ac.tvShape (s:=0) (by omega);obtain⟨_,⟨a1,X,_,c5⟩,_⟩:=ac.tvShape (s:=1) (by omega);obtain⟨_,⟨cy,M,_,bw⟩,_⟩:=ac.tvShape (s:=2) (by omega);obtain⟨au,aS⟩:∃n,n=(N.T 0).length:=⟨_,rfl⟩;obtain⟨av,aT⟩:∃n,n=(N.T 1).length:=⟨_,rfl⟩;obtain⟨ax,aU⟩:∃n,n=(N.T 2).length:=⟨_,rfl⟩;rw[<-aS]at c4;rw[<-aT]at c5;rw[<-aU]at bw;have bz:qZ' N.pl=au+av+ax:=by rw[aS,aT,aU];rfl
 have bA:=y' bz;have cz:au+av+ax<=100:=by omega
 have aV:=y' ac;have bW:=y' ad;have bX:∀s,s < 3->(N.a.fl s).base+(N.a.fl s).kept.length<=10000000:=fun s hs=>by have h1:(N.a.fl s).base+(N.a.fl s).kept.length<=b:=ad.ag.sum s hs;have:=ad.lim;omega
 have cA:N.made<=10000000:=by have h1:N.made<=b:=ad.made;have:=ad.lim;omega
 have aW:w.cell? ⟨p,7,none⟩=some (.int .i64 N.made):=ac.cell rfl;have bY:=I' (i:=7) (ac.at_ 0);clear aS aT aU bz bV ac ad;go_enter Tryz.func7,Tryz.ntmps7;by_cases bZ:100<=au+av+ax
 ·have ca:(100:Int)<=(au:Int)+av+ax:=by omega
  go_upto_region 1 with fail
  go_quiet (fail)
  go_wp2;go_ret;exact⟨_,_,rfl, .inl ⟨by rw[i' bA];exact bZ,rfl,rfl⟩,⟨N,(i' aV).below (below_drewN (Below.refl _ _) _),rfl⟩,ao' _ _ _⟩
 ·have ca:¬ (100:Int)<=(au:Int)+av+ax:=by omega
  go_upto_region 1 with fail
  go_quiet (fail)
  go_upto_region 4 with fail
  obtain⟨H,ah⟩:∃H:bd',H={N with made:=N.made+1,stream:=N.stream,may:=N.may,seen:=N.seen,fa:=N.fa,fs:=N.fs}:=⟨_,rfl⟩;refine H' (fun x=>Net B K p x H/\Far (fun k=>k=p) w x) ⟨by rw[ah];exact((i' aV).below (below_drewN (Below.refl _ _) _)).put1 (j:=7) (v:= .int .i64 ((N.made:Int)+1)) (N.made+1) N.stream N.may N.seen N.fa N.fs rfl,(ao' _ _ _).trans (S' _ _ _ _) (fun _ _ h=>h)⟩ ?_;clear c4 c5 bw aW bY;rintro x ⟨aj,aF⟩;have bB:=y' (show H.pl={N.pl with made:=N.made+1} by rw[ah];rfl);have bC:H.va=N.va:=by rw[ah]
  have aG:H.made=N.made+1:=by rw[ah]
  have aW:x.cell? ⟨p,7,none⟩=some (.int .i64 H.made):=aj.cell rfl;have c0:x.cell? ⟨p,0,none⟩=some (A' H.va):=aj.cell rfl;have cB:=(aj.lt 0 p rfl).1;obtain⟨k1,aX⟩:∃k1,k1=H.made:=⟨_,rfl⟩;rw[<-aX]at aW aG;have cC:k1<=10000001:=by omega
  have aY:=y' (lT' k1 x (by omega));obtain⟨aH,aI⟩:∃aH,aH=gc' k1:=⟨_,rfl⟩;rw[<-aI]at aY;obtain⟨body,aZ⟩:∃body:ByteArray,body=⟨#[114]⟩++aH:=⟨_,rfl⟩;have aJ:Hid (body=rdg (N.made+1)):=y' (by rw[aZ,aI,aG];rfl);have cD:body.size<=11:=by rw[i' aJ];exact qY' (by omega)
  have cE:aH.size<=10:=by rw[aI];exact jy' (by omega)
  have ay:Hid (∀y:World,Below x.heap.size x y->Calls Tryz.prog 22 #[A' H.va, .int .i64 i, .string body] y fun Z w'=>
    ∃ (e:Int) (z:Bool) (a':Mod.Ag) (U':Nat->Prop),Z= .returned (.int .i64 e)/\SO e z a'/\Net B K p w' {H with a:=a',da:=z,ua:=U'}/\Far H.ua y w'):=y' (fun y O=>by
   have D:=aj.below O;have az:H.ua=N.ua:=by rw[ah]
   have h4:=(i' bu) y (aF.behind (O.mono aF.size));rw[<-bC,<-az,<-i' aJ]at h4;refine h4.mono ?_;rintro Z w' ⟨e,z,a',U',rfl,X,M,aA,cb⟩;exact⟨e,z,a',U',rfl,cb,D.agent X M aA,M⟩)
  clear bu;have bD:=y' (fun k (F:H.ua k)=>(aj.lt 1 k F).1);have Q:=y' (aF.mono (E':=fun k=>B<=k) (fun k _ e=>by have e:k=p:=e;omega));have cc:=y' ah;have cd:=y' (And.intro aX aG);clear ah aX aG bC aF aj aV aI;have bE:=y' aZ;clear aZ;go_upto_region 5 with (go_at_call 35;refine(i' aY).mono ?_;rintro Z y ⟨rfl,O⟩;replace ay:=y' ((i' ay) y O);replace c0:=(O.cell (p:=⟨p,0,none⟩) (World.block_lt_of_cell? _ _ c0)).trans c0;replace Q:=y' ((i' Q).behind (O.mono (i' Q).size));clear O);rw[<-i' bE];clear aY bE;go_upto_region 6 with (go_at_call 22;unfold A' at ay;refine(i' ay).mono ?_;rintro Z G ⟨e,z,a',U',rfl,ab,D,bF⟩;replace ab:=y' ab;replace D:=y' D;replace Q:=y' ((i' Q).trans bF (fun k _ h=>(i' bD) k h));clear bF);obtain⟨r,ba⟩:∃r:bd',r={H with a:=a',da:=z,ua:=U'}:=⟨_,rfl⟩;rw[<-ba]at D;have aa:Hid (r.pl={N.pl with a:=a',da:=z,made:=N.made+1}):=y' (by rw[ba,show({H with a:=a',da:=z,ua:=U'}:bd').pl={H.pl with a:=a',da:=z} from rfl,i' bB]);clear ba c0 ay bD cd bB cc bW;have ak:qZ' N.pl < 100:=by rw[i' bA];omega
  by_cases h0:e=0
  ·have I:=y' (show gD' i N.pl e z a'=(true,{N.pl with a:=a',da:=z,made:=N.made+1,T:=fun t=>if t=i then N.pl.T i++[rdg (N.made+1)]else N.pl.T t}) by unfold gD';rw[if_pos h0];rfl);subst h0;obtain⟨ao,⟨U,V,bb,bc⟩,ap⟩:=(i' D).tvShape hi;have ce:(r.T i).length<=100:=by
    have be:r.T i=N.T i:=congrArg (fun q=>Pl.T q i) (i' aa);rw[be];have h1:qZ' N.pl=(N.T 0).length+(N.T 1).length+(N.T 2).length:=rfl;obtain rfl|rfl|rfl:i=0\/i=1\/i=2:=by omega
    all_goals omega
   rw[bb]at ao ap;have bG:Hid (∀ (y:World) (v:Value),Far (fun k=>(Value.slice U (r.T i).length V).ownBlock=some k) G y->wQ' G.heap.size B (.slice U (r.T i).length V) (aV' (r.T i)) body v y->lZ' B K p r i body (y.setCell ⟨p,4+i,none⟩ v)):=y' (fun y v X M=>by rw[<-bb]at X M;exact⟨v,(i' D).take hi X (by have:=M.1;rw[fz']at this;exact this) M.2⟩);have bf:(aV' (r.T i)).length=(r.T i).length:=fz' _;obtain⟨un,aK⟩:∃un,un=(r.T i).length:=⟨_,rfl⟩;obtain⟨aL,bg⟩:∃aL,aL=aV' (r.T i):=⟨_,rfl⟩;rw[<-aK,<-bg]at bG ao;rw[<-bg,<-aK]at bf;rw[<-aK]at ap bc ce;have bH:∀k,(Value.slice U un V).ownBlock=some k->k < G.heap.size:=fun k F=>(ap k F).2.1;have cf:∀k,(Value.slice U un V).ownBlock=some k->B<=k:=fun k F=>(ap k F).1;have aM:(Value.slice U un V).ownBlock≠some p:=fun e=>(ap p e).2.2 rfl;have cg:=y' ao;have bI:=y' ((i' D).at_ 0:G.heap[p]? =some (.cells (bu' r) 37 (0,0)));have bh:=((i' D).lt 0 p rfl).2;have cF:=(i' D).hB;have cG:(i:Int) < 3:=by omega
   have cH:(0:Int)<=i:=by omega
   have cI:=D;clear ao bg aK bb ap D;go_upto_region 9 with fail;refine Z' (by kernel_rfl)
    [fun v _=>v= .pointer (some ⟨p,0,none⟩),fun v _=>v= .int .i64 i,fun v _=>v= .pointer (some ⟨p,0,none⟩),fun v _=>v= .int .i64 i,fun v _=>v= .pointer (some ⟨p,0,none⟩),fun v _=>v= .pointer (some ⟨p,4,none⟩),fun v _=>v= .pointer (some ⟨p,4+i,none⟩),fun v _=>v= .slice U un V,
     fun v _=>v= .string body,xI' G.heap.size body,wQ' G.heap.size B (.slice U un V) aL body,fun v _=>v= .pointer (some ⟨p,0,none⟩),fun v _=>v= .pointer (some ⟨p,4,none⟩),fun v _=>v= .pointer (some ⟨p,4+i,none⟩),fun _ y=>lZ' B K p r i body y]
    [[(0,none)],[(1,none)],[(0,none)],[(1,none)],[(64,some 2)],[(66,some 4)],[(67,some 5),(65,some 3)],[(68,some 6)],[(5,none)],[(70,some 8)],[(69,some 7),(71,some 9)],[(62,some 0)],[(73,some 11)],[(74,some 12),(63,some 1)],[(75,some 13),(72,some 10)]] [some 62,some 63,some 64,some 65,some 66,some 67,some 68,some 69,some 70,some 71,some 72,some 73,some 74,some 75,none] [false,false,false,false,false,false,false,false,false,false,false,false,false,false,false,false,false,false,false,false,false,false,false,false,false,false,false,false,false,false,false,false,false,false,false,false,false,false,false,false,false,false,false,false,false,false,false,false,false,false,false,false,false,false,false,false,false,false,false,false,false,false,true,true,true,true,true,true,true,true,true,true,true,true,true,true,false,false,false,false,false,false,false,false,false,false,false,false,false,false,false,false,false,false,false,false,false,false,false,false,false,false,false,false,false,false,false]
    [(10,fun k=>(Value.slice U un V).ownBlock=some k),(14,fun k=>k=p)]
    (by kernel_rfl) (by kernel_rfl) (by kernel_rfl) (by kernel_rfl) (by kernel_rfl) ?_ ?_ ?_ ?_
   ·repeat' (first|exact O' _|exact qS' _ _|exact qT' _ _ _ _ _|exact(fun _ _ _ h aB=>h.below aB)|exact trivial|apply And.intro)
   ·repeat' (first|exact trivial|exact .inl rfl|exact .inr (.inr (an' _ _))|exact .inr (.inr (iN' (fun k F=>bH k F)))|exact .inr (.inr (iN' (fun k (F:k=p)=>by omega)))|exact .inr (.inr (oW' (fun k (F:k=p)=>⟨by omega,by rw[F];exact aM⟩)))|exact .inr (.inl (show av' _ 14 10=true by decide+kernel))|apply And.intro)
   ·refine⟨?_,?_,?_,?_,?_,?_,?_,?_,?_,?_,?_,?_,?_,?_,?_,trivial⟩;all_goals
     intro cJ y aB aN;have ch:=aB.size;have bi:=y' aB;clear aB;simp only[M',List.getD_cons_zero,List.getD_cons_succ,Array.getD_eq_getD_getElem?]at aN;try simp at aN
    iterate 7
     ·go_simp;exact⟨_,rfl,Far.refl _ _,rfl⟩
    ·have z0:y.cell? ⟨p,4+i,none⟩=some (.slice U un V):=by
      have h1:=(i' bi).rest p bh (by
       rintro⟨q,Y,g1,g2,aC⟩;simp at Y;rcases Y with rfl|rfl
       ·exact aM aC
       ·exact absurd (show av' _ 14 7=false from g2) (by decide+kernel))
      exact(World.cell?_of_block h1).trans bc
     go_simp;exact⟨_,rfl,Far.refl _ _,rfl⟩
    ·go_simp;exact⟨_,rfl,Far.refl _ _,rfl⟩
    ·go_simp;exact⟨_,rfl,C' ((Below.refl _ _).alloc (Nat.le_refl _) _),_,rfl,ch,heap_alloc_new y _⟩
    ·obtain⟨ci,cj,ck,cK,cl⟩:=aN;have ao:=R' (w':=y) (i' cg) (fun k F=>(i' bi).rest k (bH k F) (by
      rintro⟨q,Y,g1,g2,aC⟩;simp at Y;rcases Y with rfl|rfl
      ·exact g1 rfl
      ·have e:k=p:=aC;exact aM (by rw[<-e];exact F)))
     refine fl' rfl (.tmp 69) (.tmp 71) 33 rfl B 9 (.string ⟨#[]⟩) 1 16 Tryz.underlying33 (by kernel_rfl) rfl (by decide) (.slice U un V) un aL ao (by simp[Act.eval,ci]) ⟨cj,0,none⟩ 1 1 [.string body] (by simp[Act.eval,ck]) rfl ?_ (by intro u hu;simp at hu;subst hu;rfl) (by unfold maxLen;omega) (by omega) (by omega) ?_
     ·intro k u F;rw[cO',t' cl,Nat.zero_add];simpa using F
     ·intro bJ w' X M aA;exact⟨bJ,rfl,aj' (.head _) (br' M),by rw[bf];exact X,fun k F=>by
       have F:bJ.ownBlock=some k:=F;rcases aA with e|e
       ·exact .inl (by rw[<-e];exact F)
       ·rw[e]at F;injection F with F;exact .inr (by omega)⟩
    iterate 3
     ·go_simp;exact⟨_,rfl,Far.refl _ _,rfl⟩
    ·have bj:Far (fun k=>(Value.slice U un V).ownBlock=some k) G y:=(i' bi).mono (by
      rintro k _ ⟨q,Y,g1,g2,aC⟩;simp at Y;rcases Y with rfl|rfl
      ·exact aC
      ·exact absurd rfl g1)
     have bk:=bj.blk (i' bI) aM;have cL:y.frozen? ⟨p,4+i,none⟩=false:=I' (i:=4+i) bk;have cM:y.cell? ⟨p,4+i,none⟩=some (.slice U un V):=by rw[t' bk,<-t' (i' bI)];exact bc
     obtain⟨cN,bl⟩:=aN;obtain⟨cO,cP,az,_⟩:=(aq' bl.1).shape;have bK:=y' bl;have cm:=y' bj;clear bl bk bj;rw[az,bf]at bK;go_simp;exact⟨aj' (.tail _ (.head _)) (S' y p (4+i) _),i' bG y _ (i' cm) (i' bK)⟩
   ·intro J y bL bM;have bN:=bM.2.2.2.2.2.2.2.2.2.2.2.2.2.2.1;have cn:=y' bN;have co:=y' (bL.mono (fun k _ h=>by
     obtain⟨q,Y,h⟩:=h;simp at Y;rcases Y with rfl|rfl
     ·exact cf k h
     ·have:k=p:=h;omega):Far (fun k=>B<=k) G y)
    clear bM bL bN;simp only[Y'];generalize J 62=cQ;generalize J 63=cR;generalize J 64=cS;generalize J 65=cT;generalize J 66=cU;generalize J 67=cV;generalize J 68=cW;generalize J 69=cX;generalize J 70=cY;generalize J 71=cZ;generalize J 72=db;generalize J 73=dc;generalize J 74=dd;generalize J 75=de;go_wp2;go_ret;obtain⟨cp,cq⟩:=i' cn;refine⟨_,_,rfl, .inr ⟨ak,0,z,a',i' ab,by rw[i' I];rfl,by rw[i' I]⟩,⟨_,cq,?_⟩,(i' Q).trans (i' co) (fun _ _ h=>h)⟩;rw[show(r.take i cp body).pl={r.pl with T:=fun t=>if t=i then r.pl.T i++[body]else r.pl.T t} from rfl,i' aa,i' aJ]
  ·have aO:G.cell? ⟨p,13,none⟩=some (.bool r.fa):=(i' D).cell rfl;have aP:r.fa=N.fa:=congrArg Pl.fa (i' aa);rw[aP]at aO;by_cases h4:e=4
   ·have I:=y' (show gD' i N.pl e z a'=(true,{N.pl with a:=a',da:=z,made:=N.made+1,fa:=true,stream:=i,may:=rdg (N.made+1)}) by unfold gD';rw[if_neg h0,if_pos h4];rfl);subst h4;have df:=I' (i:=13) ((i' D).at_ 0);have dg:G.cell? ⟨p,8,none⟩=some (.int .i64 r.stream):=(i' D).cell rfl;have dh:=I' (i:=8) ((i' D).at_ 0);have di:G.cell? ⟨p,9,none⟩=some (.string r.may):=(i' D).cell rfl;have dj:=I' (i:=9) ((i' D).at_ 0);clear aP;go_wp2;go_ret;have X:=(i' D).put1 (j:=13) (v:= .bool true) r.made r.stream r.may r.seen true r.fs rfl;have M:=X.put1 (j:=8) (v:= .int .i64 i) r.made i r.may r.seen true r.fs rfl;have aA:=M.put1 (j:=9) (v:= .string body) r.made i body r.seen true r.fs rfl;have cr:Far (fun k=>B<=k) G (((G.setCell ⟨p,13,none⟩ (.bool true)).setCell ⟨p,8,none⟩ (.int .i64 i)).setCell ⟨p,9,none⟩ (.string body)):=
     (((S' G p 13 (.bool true)).trans (S' _ p 8 (.int .i64 i)) (fun _ _ h=>h)).trans (S' _ p 9 (.string body)) (fun _ _ h=>h)).mono (fun k _ e=>by have e:k=p:=e;omega)
    refine⟨_,_,rfl, .inr ⟨ak,4,z,a',i' ab,by rw[i' I];rfl,by rw[i' I]⟩,⟨_,aA,?_⟩,(i' Q).trans cr (fun _ _ h=>h)⟩;rw[<-i' aJ];show({r.pl with fa:=true,stream:=i,may:=body}:Pl)= _;rw[i' aa]
   ·by_cases bm:e=7
    ·have I:=y' (show gD' i N.pl e z a'=(decide (a'.room=24),{N.pl with a:=a',da:=z,made:=N.made+1}) by unfold gD';rw[if_neg h0,if_neg h4,if_pos bm];rfl);subst bm;have bn:z=false/\a'=N.a:=by
      rcases(i' bU) _ _ _ (i' ab)with ⟨_,h,_⟩|⟨_,h,_⟩|⟨_,h,h2,h3⟩
      ·exact absurd h (by decide)
      ·exact absurd h (by decide)
      ·exact⟨h3,by rw[h2];unfold aD';rw[if_neg (by rw[<-h];decide)]⟩
     have bO:=vX' a' (N:=10000000) (fun s hs=>by rw[bn.2];have h1:=bX s hs;omega);have bP:Hid (∀y:World,Below G.heap.size G y->∀j:Nat,Calls Tryz.prog 18 #[A' r.va, .int .i64 j] y fun Z w'=>∃aQ cap,Z= .returned (.slice aQ (aG' a' j).length cap)/\Below y.heap.size y w'):=y' (fun y O j=>by
      have h1:AgE r.da y r.va r.a r.ua:=((i' D).below O).at_ 1;have be:r.da=false:=by have e:=congrArg Pl.da (i' aa);exact e.trans bn.1
      have cs:r.a=a':=congrArg Pl.a (i' aa);rw[be,cs]at h1;refine(h1.spool j).mono ?_;rintro Z w' ⟨lv,rfl,X,M⟩;obtain⟨aQ,cap,az,_⟩:=(aq' X).shape;exact⟨aQ,cap,by rw[az],M⟩)
     have c0:G.cell? ⟨p,0,none⟩=some (A' r.va):=(i' D).cell rfl;have bh:=((i' D).lt 0 p rfl).2;have cu:=y' (vW' a');have bQ:=y' c0;clear bn c0 aO aP;unfold A' at bQ bP;go_wp2;go_loopw[7,8] (fun k i wr=>∃j:Nat,j<=3/\i= .int .i64 j/\k= .int .i64 (spK a' j:Nat)/\Below G.heap.size G wr) (fun _ i _=>3 - (intOf i).toNat)
     case atStart=>exact⟨0,by omega,rfl,rfl,Below.refl _ _⟩
     case round=>
      obtain⟨j,hj,rfl,rfl,aq⟩:=hrel;have h1:=bO j hj;by_cases dl:j < 3
      ·have dm:(j:Int) < 3:=by omega
       have h2:=bO (j+1) (by omega);have c0:=(aq.cell (p:=⟨p,0,none⟩) bh).trans (i' bQ);have ai:=y' aq;have aR:=y' (show spK a' (j+1)=spK a' j+(aG' a' j).length from rfl);rw[i' aR]at h2;obtain⟨bo,bR⟩:∃bo,bo=spK a' j:=⟨_,rfl⟩;obtain⟨bp,bS⟩:∃bp,bp=(aG' a' j).length:=⟨_,rfl⟩;have bT:=y' ((i' bP) wr aq j);rw[<-bS]at bT h2 aR;rw[<-bR]at aR h1 h2 ⊢;have h3:bo+bp<=30000000:=by omega
       clear aq bR bS h1 h2;go_wp2_with (go_at_call 18;refine(i' bT).mono ?_;rintro Z y ⟨aQ,cap,rfl,O⟩;replace ai:=y' ((i' ai).trans (O.mono (i' ai).size));clear O);go_roundw
       case rel=>exact⟨j+1,by omega,by go_num,by rw[i' aR];go_num,i' ai⟩
       case measure=>simp[intOf];omega
      ·have cv:j=3:=by omega
       subst cv;rw[i' cu]at h1 ⊢;obtain⟨aD,bq⟩:∃aD,aD=a'.room:=⟨_,rfl⟩;have cw:=y' bq;rw[<-bq]at h1 ⊢;have ai:=y' aq;clear aq bq;go_wp2;go_ret;refine⟨_,_,rfl, .inr ⟨ak,7,z,a',i' ab,by rw[i' I,<-i' cw];simp[show(((aD:Nat):Int) ==24)=decide (aD=24) from by by_cases h:aD=24 <;> simp[h] <;> omega],by rw[i' I]⟩,⟨r,(i' D).below (i' ai),i' aa⟩,(i' Q).behind ((i' ai).mono (i' Q).size)⟩
    ·have I:=y' (show gD' i N.pl e z a'=(N.fa&&decide (e=3),{N.pl with a:=a',da:=z,made:=N.made+1}) by unfold gD';rw[if_neg h0,if_neg h4,if_neg bm];rfl);clear aP;cases aE:N.fa
     ·rw[aE]at aO;go_wp2;go_ret;exact⟨_,_,rfl, .inr ⟨ak,e,z,a',i' ab,by rw[i' I,aE];rfl,by rw[i' I]⟩,⟨r,i' D,i' aa⟩,i' Q⟩
     ·rw[aE]at aO;by_cases h3:e=3
      ·subst h3;go_wp2;go_ret;exact⟨_,_,rfl, .inr ⟨ak,3,z,a',i' ab,by rw[i' I,aE];rfl,by rw[i' I]⟩,⟨r,i' D,i' aa⟩,i' Q⟩
      ·go_wp2;go_ret;exact⟨_,_,rfl, .inr ⟨ak,e,z,a',i' ab,by rw[i' I,aE];simp[h3],by rw[i' I]⟩,⟨r,i' D,i' aa⟩,i' Q⟩
theorem mW' {B K p b i:Nat} {w:World} {P:Pl} (r:cx' B K p w P) (z:dx' b P) (hi:i < 3):
  Calls Tryz.prog 7 #[.pointer (some ⟨p,0,none⟩), .int .i64 i] w (dy' B K p w (vV' i P)):=by
 obtain⟨N,r,rfl⟩:=r;refine gO' r z hi (fun _ _ _ h=>h) (fun y D=>?_);have F:AgE N.da w N.va N.a N.ua:=r.at_ 1;exact(F.far D (fun k G e=>r.ne 1 0 k (by decide) G e)).submit i _ z.ag (by have:=z.lim;omega)
def dz' (z n:Int) (P:Pl) (v:Value) (r:Pl):Prop:=
 if bQ' z 12<=1 then vV' (bQ' n 3) P v r
 else if bQ' z 12<=3 then v= .bool true/\r=tkP P
 else if bQ' z 12<=5 then(if P.up.length=0 then v= .bool true/\r=P else ∃l,P.up[P.up.length - 1 - bQ' n P.up.length]? =some l/\TsR l P v r)
 else if bQ' z 12<=7 then(if P.dn.length=0 then v= .bool true/\r=P else ∃l,P.dn[P.dn.length - 1 - bQ' n P.dn.length]? =some l/\TaR l P v r)
 else if bQ' z 12=8 then NzR P v r
 else if bQ' z 12=9 then v= .bool true/\r=P
 else if bQ' z 12=10 then RoR P v r else RsR P v r
structure xh' (P:Pl):Prop where
 fa:P.fa=P.da
 fs:P.fs=P.ds
 may:P.may=⟨#[]⟩\/(P.stream < 3/\∀x∈aG' (Mod.reop P.a) P.stream,x≠P.may)
 tick:(cu' P.da P.a).2.length<=12/\∀l∈ (cu' P.da P.a).2,0 < l.length/\l.length<=1000
 out:∀l e d' s' F,jz' l P.ds P.s e d' s' F->F.length<=12/\∀x∈F,0 < x.data.toList.length/\x.data.toList.length<=1000
theorem cx'.below {B K p:Nat} {w y:World} {P:Pl} (r:cx' B K p w P) (z:Below w.heap.size w y):cx' B K p y P:=by
 obtain⟨N,h1,h2⟩:=r;exact⟨N,h1.below z,h2⟩
theorem cx'.mono {B K K' p:Nat} {w:World} {P:Pl} (r:cx' B K p w P) (hK:K<=K'):cx' B K' p w P:=by
 obtain⟨N,h1,h2⟩:=r;exact⟨N,h1.mono hK,h2⟩
-- netUpAt
theorem Far.behind' {B:Nat} {w x y:World} (h:Far (fun k=>B<=k) w x) (r:Below x.heap.size x y):Far (fun k=>B<=k) w y:=h.behind (r.mono h.size)
theorem Net.upAt {B K p:Nat} {w:World} {N:bd'} (D:Net B K p w N) {ix:Nat} (hi:ix < N.up.length):
  ∃g o r c l,(∃cap,N.upv= .slice (some ⟨g,o,none⟩) N.up.length cap)/\w.cell? ⟨g,o+ix,none⟩=some (.slice r l.length c)/\ab' w (.slice r l.length c) l/\N.pl.up[ix]? =some l/\g < w.heap.size:=by
 have h:w.ownsRow B 48 1 N.upv N.up.length (N.up.map (·.1)):=D.at_ 3;obtain⟨r,cap,e,_,_,H⟩:=(aq' h).shape;obtain⟨g,o,F,h2⟩:=H (by omega);have z:ax' B w N.up[ix].1 N.up[ix].2:=(D.at_ 8:∀f∈N.up++N.dn,ax' B w f.1 f.2) _ (List.mem_append_left _ (List.getElem_mem hi));obtain⟨I,J,G,_⟩:=z.shape;have h3:=h2 ix (by omega);rw[List.getElem?_map,List.getElem?_eq_getElem hi,Option.map_some,G]at h3;rw[G]at z;refine⟨g,o,I,J,N.up[ix].2,⟨cap,by rw[e,F]⟩,h3,z.at,by simp[bd'.pl,hi],(World.ownsRow.lt h g (by rw[e,F];rfl)).2⟩
theorem Net.dnAt {B K p:Nat} {w:World} {N:bd'} (D:Net B K p w N) {ix:Nat} (hi:ix < N.dn.length):
  ∃g o r c l,(∃cap,N.dnv= .slice (some ⟨g,o,none⟩) N.dn.length cap)/\w.cell? ⟨g,o+ix,none⟩=some (.slice r l.length c)/\ab' w (.slice r l.length c) l/\N.pl.dn[ix]? =some l/\g < w.heap.size:=by
 have h:w.ownsRow B 48 1 N.dnv N.dn.length (N.dn.map (·.1)):=D.at_ 4;obtain⟨r,cap,e,_,_,H⟩:=(aq' h).shape;obtain⟨g,o,F,h2⟩:=H (by omega);have z:ax' B w N.dn[ix].1 N.dn[ix].2:=(D.at_ 8:∀f∈N.up++N.dn,ax' B w f.1 f.2) _ (List.mem_append_right _ (List.getElem_mem hi));obtain⟨I,J,G,_⟩:=z.shape;have h3:=h2 ix (by omega);rw[List.getElem?_map,List.getElem?_eq_getElem hi,Option.map_some,G]at h3;rw[G]at z;refine⟨g,o,I,J,N.dn[ix].2,⟨cap,by rw[e,F]⟩,h3,z.at,by simp[bd'.pl,hi],(World.ownsRow.lt h g (by rw[e,F];rfl)).2⟩
theorem sC' {B K p b:Nat} {w:World} {P:Pl} (aF:cx' B K p w P) (bH:dx' b P) (bI:xh' P) (hK:K < 1000000000) (M n aG:Int) (s:ByteArray) (bJ: -9223372036854775808<=M/\M<=9223372036854775807) (aW: -9223372036854775808<=n/\n<=9223372036854775807) (hs:s.size<=140737488355328) (bK:b<=8000000):
  Calls Tryz.prog 8 #[.pointer (some ⟨p,0,none⟩), .agg #[.int .i64 M, .int .i64 n, .int .u64 aG, .string s]] w (dy' B (K+1) p w (dz' M n P)):=by
 have bc:Hid (∀y,Calls Tryz.prog 36 #[.int .i64 M, .int .i64 12] y fun J w'=>J= .returned (.int .i64 (bQ' M 12))/\w'=y):=y' (fun y=>cq' M 12 y bJ (by omega) (by omega));have bY:Hid (∀y,Calls Tryz.prog 36 #[.int .i64 n, .int .i64 3] y fun J w'=>J= .returned (.int .i64 (bQ' n 3))/\w'=y):=y' (fun y=>cq' n 3 y aW (by omega) (by omega));have bZ:=eb' M (n:=12) (by omega);have be:=y' aF;have ap:=y' bH;have aH:=y' bI;have bL:=y' bK;clear aF bH bI bJ bK;obtain⟨z,Y⟩:∃z,z=bQ' M 12:=⟨_,rfl⟩;have ca:Hid (z<=1->∀v r,vV' (bQ' n 3) P v r->dz' M n P v r):=y' (fun h v r Q=>by unfold dz';rw[<-Y,if_pos h];exact Q);have cb:Hid (¬z<=1->z<=3->∀v r,v= .bool true/\r=tkP P->dz' M n P v r):=y' (fun h h2 v r Q=>by unfold dz';rw[<-Y,if_neg h,if_pos h2];exact Q);have cc:Hid (¬z<=3->z<=5->P.up.length=0->∀v r,v= .bool true/\r=P->dz' M n P v r):=y' (fun h h2 h3 v r Q=>by unfold dz';rw[<-Y,if_neg (by omega),if_neg h,if_pos h2,if_pos h3];exact Q);have cd:Hid (¬z<=3->z<=5->¬P.up.length=0->∀l,P.up[P.up.length - 1 - bQ' n P.up.length]? =some l->∀v r,TsR l P v r->dz' M n P v r):=y' (fun h h2 h3 l hl v r Q=>by unfold dz';rw[<-Y,if_neg (by omega),if_neg h,if_pos h2,if_neg h3];exact⟨l,hl,Q⟩);have ce:Hid (¬z<=5->z<=7->P.dn.length=0->∀v r,v= .bool true/\r=P->dz' M n P v r):=y' (fun h h2 h3 v r Q=>by unfold dz';rw[<-Y,if_neg (by omega),if_neg (by omega),if_neg h,if_pos h2,if_pos h3];exact Q);have cf:Hid (¬z<=5->z<=7->¬P.dn.length=0->∀l,P.dn[P.dn.length - 1 - bQ' n P.dn.length]? =some l->∀v r,TaR l P v r->dz' M n P v r):=y' (fun h h2 h3 l hl v r Q=>by unfold dz';rw[<-Y,if_neg (by omega),if_neg (by omega),if_neg h,if_pos h2,if_neg h3];exact⟨l,hl,Q⟩);have bM:Hid (z=9->∀v r,v= .bool true/\r=P->dz' M n P v r):=y' (fun h v r Q=>by unfold dz';rw[<-Y,if_neg (by omega),if_neg (by omega),if_neg (by omega),if_neg (by omega),if_neg (by omega),if_pos h];exact Q);have cg:Hid (z=8->∀v r,NzR P v r->dz' M n P v r):=y' (fun h v r Q=>by unfold dz';rw[<-Y,if_neg (by omega),if_neg (by omega),if_neg (by omega),if_neg (by omega),if_pos h];exact Q);have ch:Hid (z=10->∀v r,RoR P v r->dz' M n P v r):=y' (fun h v r Q=>by unfold dz';rw[<-Y,if_neg (by omega),if_neg (by omega),if_neg (by omega),if_neg (by omega),if_neg (by omega),if_neg (by omega),if_pos h];exact Q);have ci:Hid (z=11->∀v r,RsR P v r->dz' M n P v r):=y' (fun h v r Q=>by unfold dz';rw[<-Y,if_neg (by omega),if_neg (by omega),if_neg (by omega),if_neg (by omega),if_neg (by omega),if_neg (by omega),if_neg (by omega)];exact Q);rw[<-Y]at bZ;replace bc:Hid (∀y,Calls Tryz.prog 36 #[.int .i64 M, .int .i64 12] y fun J w'=>J= .returned (.int .i64 z)/\w'=y):=by rw[Y];exact bc
 clear Y;go_enter Tryz.func8,Tryz.ntmps8;go_upto_region 2 with (go_at_call 36;refine(i' bc _).mono ?_;rintro J y ⟨rfl,rfl⟩);obtain⟨q,bN⟩:∃q,q=w.heap.size:=⟨_,rfl⟩;have bf:=heap_alloc_new w (.cells #[.int .i64 M, .int .i64 n, .int .u64 aG, .string s] 29);rw[<-bN]at bf ⊢;refine H' (fun x=>cx' B K p x P/\x.heap[q]? =some (.cells #[.int .i64 M, .int .i64 n, .int .u64 aG, .string s] 29 (0,0))/\Below w.heap.size w x/\∃N,Net B K p x N/\N.pl=P/\∀k,N.ua k->k≠q) ⟨(i' be).below ((Below.refl _ _).alloc (Nat.le_refl _) _),bf,(Below.refl _ _).alloc (Nat.le_refl _) _,?_⟩ ?_
 ·obtain⟨N,bO,cj⟩:=i' be;exact⟨N,bO.below ((Below.refl _ _).alloc (Nat.le_refl _) _),cj,fun k ck=>by have:=(bO.lt 1 k ck).2;omega⟩
 rintro x ⟨aF,aB,bP,aX⟩;replace aX:=y' aX;have cE:=t' (i:=0) aB;have bg:=t' (i:=1) aB;have cF:=t' (i:=2) aB;have cG:=t' (i:=3) aB;have aa:=y' aF;have ah:=y' (show Far (fun k=>B<=k) w x from C' bP);have aI:=y' aB;clear bf bN be aF bP aB;have bh:=y' (mW' (i' aa) (i' ap) (eb' n (n:=3) (by omega)));have bi:=y' (qX' (i' aa) (i' ap) (i' aH).tick);have aY:=y' (oX' (i' aa) (i' ap) hK (i' aH).fa (i' aH).fs s hs);have aZ:=y' (fq' (i' aa) (i' ap) (i' aH).may aG);have ba:=y' (gd' (i' aa) hK aG);by_cases h1:z<=1
 ·clear bi aY aZ ba;obtain rfl|rfl:z=0\/z=1:=by omega
  all_goals
   go_wp2_with (first
    |(go_at_call 36;refine(i' bY _).mono ?_;rintro J y ⟨rfl,rfl⟩)
    |(go_at_call 7;refine(i' bh).mono ?_;rintro J y ⟨v,r,rfl,D,G,H⟩;replace D:=y' D;replace G:=y' G;replace H:=y' H))
   go_ret;exact⟨v,r,rfl,(i' ca) (by omega) _ _ (i' D),(i' G).mono (Nat.le_succ K),(i' ah).trans (i' H) (fun _ _ h=>h)⟩
 ·by_cases h3:z<=3
  ·clear bh aY aZ ba;obtain rfl|rfl:z=2\/z=3:=by omega
   all_goals
    go_wp2_with (go_at_call 37;refine(i' bi).mono ?_;rintro J y ⟨v,r,rfl,D,G,H⟩;obtain⟨rfl,D⟩:=D;replace D:=y' D;replace G:=y' G;replace H:=y' H)
    go_ret;exact⟨_,r,rfl,(i' cb) (by omega) (by omega) _ _ ⟨rfl,i' D⟩,(i' G).mono (Nat.le_succ K),(i' ah).trans (i' H) (fun _ _ h=>h)⟩
  ·clear bh bi;obtain h|rfl|rfl|rfl:(z < 8\/z=9)\/z=8\/z=10\/z=11:=by omega
   ·have cl:=y' hK;clear aY aZ ba;by_cases h5:z<=5
    ·obtain⟨N,U,ab⟩:=i' aa;obtain⟨cm,cn,av,ax⟩:=U.upShape;have ai:P.up.length=N.up.length:=by rw[<-ab];simp[bd'.pl]
     by_cases aj:P.up.length=0
     ·have ak:=y' ((i' cc) (by omega) (by omega) aj);rw[<-ai,aj]at ax;clear ai av ab U;obtain rfl|rfl:z=4\/z=5:=by omega
      all_goals
       go_wp2;go_ret;exact⟨_,P,rfl,(i' ak) _ _ ⟨rfl,rfl⟩,(i' aa).mono (Nat.le_succ K),i' ah⟩
     ·obtain⟨V,ao⟩:∃V,V=bQ' n P.up.length:=⟨_,rfl⟩;obtain⟨un,ac⟩:∃un,un=P.up.length:=⟨_,rfl⟩;have bj:V < un:=by rw[ao,ac];exact eb' n (by omega)
      have bk:un<=100000000:=by have h1:=(i' ap).up;have h2:=i' bL;omega
      obtain⟨X,bl⟩:∃X,un=X+1:=⟨un - 1,by omega⟩;obtain⟨ix,bm⟩:∃ix,X=ix+V:=⟨X - V,by omega⟩;obtain⟨g,o,aJ,c,l,⟨ay,aK⟩,aL,aM,aN,bn⟩:=U.upAt (ix:=ix) (by omega);rw[aK]at av;injection av with aC _ bo;subst aC bo;rw[<-ai,<-ac]at ax;have bp:Hid (∀y,Calls Tryz.prog 36 #[.int .i64 n, .int .i64 un] y fun J w'=>J= .returned (.int .i64 V)/\w'=y):=y' (fun y=>by rw[ao,ac];exact cq' n _ y aW (by omega) (by omega));have ak:=y' ((i' cd) (by omega) (by omega) aj l (by rw[<-ao,<-ac,show un - 1 - V=ix by omega,<-ab];exact aN));have aO:Hid (∀F,Below x.heap.size x F->Calls Tryz.prog 38 #[.pointer (some ⟨p,0,none⟩), .slice aJ l.length c] F (dy' B (K+1) p F (TsR l P))):=y' (fun F Z=>sx' ((i' aa).below Z) (i' ap) (i' cl) _ l (aM.below Z) ((i' aH).out l));have aD:=(U.lt 0 p rfl).2;have aq:=lt_of_block (i' aI);have bq:IntKind.i64.wrap ((un:Int) - 1)=(X:Int):=by rw[IntKind.wrap_i64];omega
      have br:IntKind.i64.wrap ((X:Int) - (V:Int))=(ix:Int):=by rw[IntKind.wrap_i64];omega
      have co:(ix:Int) < (un:Int):=by omega
      have cp:¬ (ix:Int) < 0:=by omega
      have cq:(0:Int) < (un:Int):=by omega
      have cr:0 < un:=by omega
      clear bl bm bj ao ac ai ab U aM aK aN aj bk;obtain⟨fl,aP⟩:∃fl,fl=l.length:=⟨_,rfl⟩;rw[<-aP]at aL aO;clear aP;obtain rfl|rfl:z=4\/z=5:=by omega
      all_goals
       go_upto_region 11 with fail
       refine dh' (by kernel_rfl)
        [fun v _=>v= .pointer (some ⟨p,0,none⟩),fun v _=>v= .pointer (some ⟨p,0,none⟩),fun v _=>v= .pointer (some ⟨p,0,none⟩),fun v _=>v= .pointer (some ⟨p,2,none⟩),fun v _=>v= .slice (some ⟨g,o,none⟩) un ay,
         fun v _=>v= .pointer (some ⟨p,0,none⟩),fun v _=>v= .pointer (some ⟨p,0,none⟩),fun v _=>v= .pointer (some ⟨p,2,none⟩),fun v _=>v= .slice (some ⟨g,o,none⟩) un ay,fun v _=>v= .int .i64 un,fun v _=>v= .int .i64 X,fun v _=>v= .pointer (some ⟨q,1,none⟩),fun v _=>v= .int .i64 n,
         fun v _=>v= .pointer (some ⟨p,0,none⟩),fun v _=>v= .pointer (some ⟨p,0,none⟩),fun v _=>v= .pointer (some ⟨p,2,none⟩),fun v _=>v= .slice (some ⟨g,o,none⟩) un ay,fun v _=>v= .int .i64 un,fun v _=>v= .int .i64 V,fun v _=>v= .int .i64 ix,fun v _=>v= .pointer (some ⟨g,o+ix,none⟩),fun v _=>v= .slice aJ fl c,fun _ _=>True,fun _ _=>True]
        [[(0,none)],[(0,none)],[(31,some 1)],[(32,some 2)],[(33,some 3)],[(0,none)],[(35,some 5)],[(36,some 6)],[(37,some 7)],[(38,some 8)],[(39,some 9)],[(3,none)],[(41,some 11)],[(0,none)],[(43,some 13)],[(44,some 14)],[(45,some 15)],[(46,some 16)],[(42,some 12),(47,some 17)],[(40,some 10),(48,some 18)],[(34,some 4),(49,some 19)],[(50,some 20)],[(30,some 0),(51,some 21)],[(52,some 22)]] [some 30,some 31,some 32,some 33,some 34,some 35,some 36,some 37,some 38,some 39,some 40,some 41,some 42,some 43,some 44,some 45,some 46,some 47,some 48,some 49,some 50,some 51,some 52,some 4] [false,false,false,false,true,false,false,false,false,false,false,false,false,false,false,false,false,false,false,false,false,false,false,false,false,false,false,false,false,false,true,true,true,true,true,true,true,true,true,true,true,true,true,true,true,true,true,true,true,true,true,true,true,false,false,false,false,false,false,false,false,false,false,false,false,false,false,false,false,false,false,false,false,false,false,false,false,false,false,false,false,false,false,false,false,false,false,false,false,false,false,false,false,false,false,false,false,false,false,false,false,false,false,false,false,false,false,false,false,false,false,false,false,false,false,false,false,false,false,false,false,false]
        22 _ rfl (Nat.le_of_ble_eq_true (n:=23) (by kernel_rfl)) (by kernel_rfl) (by kernel_rfl) (by kernel_rfl) (by kernel_rfl) (by kernel_rfl) (by kernel_rfl) ?_ ?_ ?_ ?_
       ·repeat' (first|exact O' _|exact X'|exact trivial|apply And.intro)
       ·refine⟨?_,?_,?_,?_,?_,?_,?_,?_,?_,?_,?_,?_,?_,?_,?_,?_,?_,?_,?_,?_,?_,?_,trivial⟩;all_goals
         intro bt F I ad;have bu:=(I.cell (p:=⟨p,2,none⟩) aD).trans ax;have bw:=(I.cell (p:=⟨q,1,none⟩) aq).trans bg;have cs:=(I.cell (p:=⟨g,o+ix,none⟩) bn).trans aL;clear I;simp only[M',List.getD_cons_zero,List.getD_cons_succ,Array.getD_eq_getD_getElem?]at ad;try simp at ad
         try go_simp
         try exact Below.refl _ _
        all_goals first
         |exact⟨rfl,Below.refl _ _⟩
         |(rw[bq];exact⟨rfl,Below.refl _ _⟩)
         |(rw[br];exact⟨rfl,Below.refl _ _⟩)
         |(refine((i' bp) _).mono ?_;rintro e bz ⟨rfl,rfl⟩;exact⟨rfl,Below.refl _ _⟩)
         |skip
       ·intro f F O;rfl
       ·intro f F I O;simp only[af',List.take]at O;have bA:=O.1;have bB:=O.2.2.2.2.2.2.2.2.2.2.2.2.2.2.2.2.2.2.2.2.2.1;have au:=y' I;clear O I;simp only[Y',bA,bB];go_simp;refine((i' aO) F (i' au)).mono ?_;rintro bQ bb ⟨v,r,rfl,D,G,H⟩;have aQ:=y' D;have aR:=y' G;have aS:=y' H;clear D G H;intro aT cu;obtain⟨aU,rfl⟩:∃aU,aT=aU+1:=⟨aT - 1,by omega⟩;refine bE' (i:=23) (by kernel_rfl) rfl rfl ?_;go_simp;refine dJ' (by kernel_rfl) ?_;go_wp2;go_ret;exact⟨v,r,rfl,(i' ak) _ _ (i' aQ),i' aR,((i' ah).behind' (i' au)).trans (i' aS) (fun _ _ h=>h)⟩
    ·by_cases cH:z<=7
     ·obtain⟨N,U,ab⟩:=i' aa;obtain⟨cm,cn,av,ax⟩:=U.dnShape;have ai:P.dn.length=N.dn.length:=by rw[<-ab];simp[bd'.pl]
      by_cases aj:P.dn.length=0
      ·have ak:=y' ((i' ce) (by omega) (by omega) aj);rw[<-ai,aj]at ax;clear ai av ab U;obtain rfl|rfl:z=6\/z=7:=by omega
       all_goals
        go_wp2;go_ret;exact⟨_,P,rfl,(i' ak) _ _ ⟨rfl,rfl⟩,(i' aa).mono (Nat.le_succ K),i' ah⟩
      ·obtain⟨V,ao⟩:∃V,V=bQ' n P.dn.length:=⟨_,rfl⟩;obtain⟨un,ac⟩:∃un,un=P.dn.length:=⟨_,rfl⟩;have bj:V < un:=by rw[ao,ac];exact eb' n (by omega)
       have bk:un<=100000000:=by have h1:=(i' ap).dn;have h2:=i' bL;omega
       obtain⟨X,bl⟩:∃X,un=X+1:=⟨un - 1,by omega⟩;obtain⟨ix,bm⟩:∃ix,X=ix+V:=⟨X - V,by omega⟩;obtain⟨g,o,aJ,c,l,⟨ay,aK⟩,aL,aM,aN,bn⟩:=U.dnAt (ix:=ix) (by omega);rw[aK]at av;injection av with aC _ bo;subst aC bo;rw[<-ai,<-ac]at ax;have bp:Hid (∀y,Calls Tryz.prog 36 #[.int .i64 n, .int .i64 un] y fun J w'=>J= .returned (.int .i64 V)/\w'=y):=y' (fun y=>by rw[ao,ac];exact cq' n _ y aW (by omega) (by omega));have ak:=y' ((i' cf) (by omega) (by omega) aj l (by rw[<-ao,<-ac,show un - 1 - V=ix by omega,<-ab];exact aN));have aO:Hid (∀F,Below x.heap.size x F->Calls Tryz.prog 39 #[.pointer (some ⟨p,0,none⟩), .slice aJ l.length c] F (dy' B K p F (TaR l P))):=y' (fun F Z=>qQ' ((i' aa).below Z) (i' ap) _ l (aM.below Z));have aD:=(U.lt 0 p rfl).2;have aq:=lt_of_block (i' aI);have bq:IntKind.i64.wrap ((un:Int) - 1)=(X:Int):=by rw[IntKind.wrap_i64];omega
       have br:IntKind.i64.wrap ((X:Int) - (V:Int))=(ix:Int):=by rw[IntKind.wrap_i64];omega
       have co:(ix:Int) < (un:Int):=by omega
       have cp:¬ (ix:Int) < 0:=by omega
       have cq:(0:Int) < (un:Int):=by omega
       have cr:0 < un:=by omega
       clear bl bm bj ao ac ai ab U aM aK aN aj bk;obtain⟨fl,aP⟩:∃fl,fl=l.length:=⟨_,rfl⟩;rw[<-aP]at aL aO;clear aP;obtain rfl|rfl:z=6\/z=7:=by omega
       all_goals
        go_upto_region 15 with fail
        refine dh' (by kernel_rfl)
         [fun v _=>v= .pointer (some ⟨p,0,none⟩),fun v _=>v= .pointer (some ⟨p,0,none⟩),fun v _=>v= .pointer (some ⟨p,0,none⟩),fun v _=>v= .pointer (some ⟨p,3,none⟩),fun v _=>v= .slice (some ⟨g,o,none⟩) un ay,
          fun v _=>v= .pointer (some ⟨p,0,none⟩),fun v _=>v= .pointer (some ⟨p,0,none⟩),fun v _=>v= .pointer (some ⟨p,3,none⟩),fun v _=>v= .slice (some ⟨g,o,none⟩) un ay,fun v _=>v= .int .i64 un,fun v _=>v= .int .i64 X,fun v _=>v= .pointer (some ⟨q,1,none⟩),fun v _=>v= .int .i64 n,
          fun v _=>v= .pointer (some ⟨p,0,none⟩),fun v _=>v= .pointer (some ⟨p,0,none⟩),fun v _=>v= .pointer (some ⟨p,3,none⟩),fun v _=>v= .slice (some ⟨g,o,none⟩) un ay,fun v _=>v= .int .i64 un,fun v _=>v= .int .i64 V,fun v _=>v= .int .i64 ix,fun v _=>v= .pointer (some ⟨g,o+ix,none⟩),fun v _=>v= .slice aJ fl c,fun _ _=>True,fun _ _=>True]
         [[(0,none)],[(0,none)],[(63,some 1)],[(64,some 2)],[(65,some 3)],[(0,none)],[(67,some 5)],[(68,some 6)],[(69,some 7)],[(70,some 8)],[(71,some 9)],[(3,none)],[(73,some 11)],[(0,none)],[(75,some 13)],[(76,some 14)],[(77,some 15)],[(78,some 16)],[(74,some 12),(79,some 17)],[(72,some 10),(80,some 18)],[(66,some 4),(81,some 19)],[(82,some 20)],[(62,some 0),(83,some 21)],[(84,some 22)]] [some 62,some 63,some 64,some 65,some 66,some 67,some 68,some 69,some 70,some 71,some 72,some 73,some 74,some 75,some 76,some 77,some 78,some 79,some 80,some 81,some 82,some 83,some 84,some 4] [false,false,false,false,true,false,false,false,false,false,false,false,false,false,false,false,false,false,false,false,false,false,false,false,false,false,false,false,false,false,false,false,false,false,false,false,false,false,false,false,false,false,false,false,false,false,false,false,false,false,false,false,false,false,false,false,false,false,false,false,false,false,true,true,true,true,true,true,true,true,true,true,true,true,true,true,true,true,true,true,true,true,true,true,true,false,false,false,false,false,false,false,false,false,false,false,false,false,false,false,false,false,false,false,false,false,false,false,false,false,false,false,false,false,false,false,false,false,false,false,false,false]
         22 _ rfl (Nat.le_of_ble_eq_true (n:=23) (by kernel_rfl)) (by kernel_rfl) (by kernel_rfl) (by kernel_rfl) (by kernel_rfl) (by kernel_rfl) (by kernel_rfl) ?_ ?_ ?_ ?_
        ·repeat' (first|exact O' _|exact X'|exact trivial|apply And.intro)
        ·refine⟨?_,?_,?_,?_,?_,?_,?_,?_,?_,?_,?_,?_,?_,?_,?_,?_,?_,?_,?_,?_,?_,?_,trivial⟩;all_goals
          intro bt F I ad;have bu:=(I.cell (p:=⟨p,3,none⟩) aD).trans ax;have bw:=(I.cell (p:=⟨q,1,none⟩) aq).trans bg;have cs:=(I.cell (p:=⟨g,o+ix,none⟩) bn).trans aL;clear I;simp only[M',List.getD_cons_zero,List.getD_cons_succ,Array.getD_eq_getD_getElem?]at ad;try simp at ad
          try go_simp
          try exact Below.refl _ _
         all_goals first
          |exact⟨rfl,Below.refl _ _⟩
          |(rw[bq];exact⟨rfl,Below.refl _ _⟩)
          |(rw[br];exact⟨rfl,Below.refl _ _⟩)
          |(refine((i' bp) _).mono ?_;rintro e bz ⟨rfl,rfl⟩;exact⟨rfl,Below.refl _ _⟩)
          |skip
        ·intro f F O;rfl
        ·intro f F I O;simp only[af',List.take]at O;have bA:=O.1;have bB:=O.2.2.2.2.2.2.2.2.2.2.2.2.2.2.2.2.2.2.2.2.2.1;have au:=y' I;clear O I;simp only[Y',bA,bB];go_simp;refine((i' aO) F (i' au)).mono ?_;rintro bQ bb ⟨v,r,rfl,D,G,H⟩;have aQ:=y' D;have aR:=y' G;have aS:=y' H;clear D G H;intro aT cu;obtain⟨aU,rfl⟩:∃aU,aT=aU+1:=⟨aT - 1,by omega⟩;refine bE' (i:=23) (by kernel_rfl) rfl rfl ?_;go_simp;refine dJ' (by kernel_rfl) ?_;go_wp2;go_ret;exact⟨v,r,rfl,(i' ak) _ _ (i' aQ),(i' aR).mono (Nat.le_succ K),((i' ah).behind' (i' au)).trans (i' aS) (fun _ _ h=>h)⟩
     ·obtain rfl:z=9:=by omega
      have ak:=y' ((i' bM) rfl);obtain⟨N,U,ab,bR⟩:=i' aX;have c0:x.cell? ⟨p,0,none⟩=some (.pointer (some ⟨N.va,0,none⟩)):=U.cell (j:=0) rfl;obtain⟨az,bC⟩:∃az,az=bQ' n 5:=⟨_,rfl⟩;obtain⟨nq,bD⟩:∃nq,nq=n.tdiv 5:=⟨_,rfl⟩;obtain⟨aA,bE⟩:∃aA,aA=bQ' nq 5:=⟨_,rfl⟩;have cv:az < 5:=by rw[bC];exact eb' n (by omega)
      have cw:aA < 5:=by rw[bE];exact eb' nq (by omega)
      have bS: -9223372036854775808<=nq/\nq<=9223372036854775807:=by
       rw[bD];rcases Int.lt_or_le n 0 with h0|h0
       ·have e:n.tdiv 5= -((-n) / 5):=by conv=>lhs;rw[show n= -(-n) by omega,Int.neg_tdiv,Int.tdiv_eq_ediv_of_nonneg (by omega)]
        rw[e];omega
       ·rw[Int.tdiv_eq_ediv_of_nonneg h0];omega
      have cx:IntKind.i64.wrap (n.tdiv 5)=nq:=by rw[<-bD,IntKind.wrap_i64];omega
      have cy:Hid (∀y,Calls Tryz.prog 36 #[.int .i64 n, .int .i64 5] y fun J w'=>J= .returned (.int .i64 az)/\w'=y):=y' (fun y=>by rw[bC];exact cq' n 5 y aW (by omega) (by omega));have cz:Hid (∀y,Calls Tryz.prog 36 #[.int .i64 nq, .int .i64 5] y fun J w'=>J= .returned (.int .i64 aA)/\w'=y):=y' (fun y=>by rw[bE];exact cq' nq 5 y bS (by omega) (by omega));have aq:=lt_of_block (i' aI);have aD:=(U.lt 0 p rfl).2;have cA:Hid (∀F,Below x.heap.size x F->Calls Tryz.prog 11 #[.pointer (some ⟨N.va,0,none⟩), .int .i64 az] F fun J w'=>J= .returned (.tuple #[])/\Net B K p w' N/\Far (fun k=>B<=k) F w'/\w'.heap[q]? =x.heap[q]?):=y' (fun F Z=>by have bF:AgE N.da F N.va N.a N.ua:=(U.below Z).at_ 1;refine(bF.arm az (by omega)).mono ?_;rintro J w' ⟨rfl,k1,k2⟩;exact⟨rfl,(U.below Z).agent k1 k2 (fun k h=> .inl h),k2.mono (fun k _ h=>(U.lt 1 k h).1),(k2.rest q (Nat.lt_of_lt_of_le aq Z.size) (fun h=>bR q h rfl)).trans (Z.block q aq)⟩);have cB:Hid (∀y,Net B K p y N->∀F,Below y.heap.size y F->Calls Tryz.prog 12 #[.pointer (some ⟨N.vs,0,none⟩), .int .i64 aA] F fun J w'=>J= .returned (.tuple #[])/\Net B K p w' N/\Far (fun k=>B<=k) F w'):=y' (fun y bG F Z=>by have bF:SkE K N.ds F N.vs N.s N.us:=(bG.below Z).at_ 2;refine(bF.arm aA (by omega)).mono ?_;rintro J w' ⟨rfl,k1,k2⟩;exact⟨rfl,(bG.below Z).sinkS k1 k2 (fun k h=> .inl h),k2.mono (fun k _ h=>(bG.lt 2 k h).1)⟩);have cI:=y' U;have cC:=y' ab;clear bC bE bD bS cv cw bR U ab aa aX bM;go_upto_region 19 with fail;refine ag' (by kernel_rfl)
       [fun v _=>v= .pointer (some ⟨p,0,none⟩),fun v _=>v= .pointer (some ⟨p,0,none⟩),fun v _=>v= .pointer (some ⟨p,0,none⟩),fun v _=>v= .pointer (some ⟨N.va,0,none⟩),fun v _=>v= .pointer (some ⟨q,1,none⟩),fun v _=>v= .int .i64 n,fun v _=>v= .int .i64 az,fun _ _=>True]
       [[(0,none)],[(93,some 0)],[(94,some 1)],[(95,some 2)],[(3,none)],[(97,some 4)],[(98,some 5)],[(96,some 3),(99,some 6)]] [some 93,some 94,some 95,some 96,some 97,some 98,some 99,some 100] [false,false,false,false,false,false,false,false,false,false,false,false,false,false,false,false,false,false,false,false,false,false,false,false,false,false,false,false,false,false,false,false,false,false,false,false,false,false,false,false,false,false,false,false,false,false,false,false,false,false,false,false,false,false,false,false,false,false,false,false,false,false,false,false,false,false,false,false,false,false,false,false,false,false,false,false,false,false,false,false,false,false,false,false,false,false,false,false,false,false,false,false,false,true,true,true,true,true,true,true,true,false,false,false,false,false,false,false,false,false,false,false,false,false,false,false,false,false,false,false,false,false]
       7 _ rfl rfl (by kernel_rfl) (by kernel_rfl) (by kernel_rfl) (by kernel_rfl) (by kernel_rfl) (by kernel_rfl) ?_ ?_ ?_
      ·repeat' (first|exact O' _|exact X'|exact trivial|apply And.intro)
      ·refine⟨?_,?_,?_,?_,?_,?_,?_,trivial⟩;all_goals
        intro bt F I ad;have bu:=(I.cell (p:=⟨p,0,none⟩) aD).trans c0;have bw:=(I.cell (p:=⟨q,1,none⟩) aq).trans bg;clear I;simp only[M',List.getD_cons_zero,List.getD_cons_succ,Array.getD_eq_getD_getElem?]at ad;try simp at ad
        try go_simp
        try exact Below.refl _ _
       all_goals first
        |exact⟨rfl,Below.refl _ _⟩
        |(refine((i' cy) _).mono ?_;rintro e bz ⟨rfl,rfl⟩;exact⟨rfl,Below.refl _ _⟩)
        |skip
      ·intro f F I O;simp only[af',List.take]at O;have aV:=O.2.2.2.1;have bT:=O.2.2.2.2.2.2.1;have au:=y' I;clear O I;simp only[Y',aV,bT];go_simp;refine((i' cA) F (i' au)).mono ?_;rintro bQ bb ⟨rfl,D,G,H⟩;have c1:bb.cell? ⟨p,1,none⟩=some (.pointer (some ⟨N.vs,0,none⟩)):=D.cell (j:=1) rfl;have aC:=t' (i:=1) (H.trans (i' aI));have bU:=lt_of_block (H.trans (i' aI));have bV:=(D.lt 0 p rfl).2;have aQ:=y' D;have aR:=y' G;clear D G H aq aD c0 aV bT;generalize f 93=cJ;generalize f 94=cK;generalize f 95=cL;generalize f 97=cM;generalize f 98=cN;go_upto_region 20 with fail;refine ag' (by kernel_rfl)
        [fun v _=>v= .pointer (some ⟨p,0,none⟩),fun v _=>v= .pointer (some ⟨p,0,none⟩),fun v _=>v= .pointer (some ⟨p,1,none⟩),fun v _=>v= .pointer (some ⟨N.vs,0,none⟩),fun v _=>v= .pointer (some ⟨q,1,none⟩),fun v _=>v= .int .i64 n,fun v _=>v= .int .i64 nq,fun v _=>v= .int .i64 aA,fun _ _=>True]
        [[(0,none)],[(101,some 0)],[(102,some 1)],[(103,some 2)],[(3,none)],[(105,some 4)],[(106,some 5)],[(107,some 6)],[(104,some 3),(108,some 7)]] [some 101,some 102,some 103,some 104,some 105,some 106,some 107,some 108,some 109] [false,false,false,false,false,false,false,false,false,false,false,false,false,false,false,false,false,false,false,false,false,false,false,false,false,false,false,false,false,false,false,false,false,false,false,false,false,false,false,false,false,false,false,false,false,false,false,false,false,false,false,false,false,false,false,false,false,false,false,false,false,false,false,false,false,false,false,false,false,false,false,false,false,false,false,false,false,false,false,false,false,false,false,false,false,false,false,false,false,false,false,false,false,false,false,false,false,false,false,false,false,true,true,true,true,true,true,true,true,true,false,false,false,false,false,false,false,false,false,false,false,false]
        8 _ rfl rfl (by kernel_rfl) (by kernel_rfl) (by kernel_rfl) (by kernel_rfl) (by kernel_rfl) (by kernel_rfl) ?_ ?_ ?_
       ·repeat' (first|exact O' _|exact X'|exact trivial|apply And.intro)
       ·refine⟨?_,?_,?_,?_,?_,?_,?_,?_,trivial⟩;all_goals
         intro bt z9 I ad;have bu:=(I.cell (p:=⟨p,1,none⟩) bV).trans c1;have bw:=(I.cell (p:=⟨q,1,none⟩) bU).trans aC;clear I;simp only[M',List.getD_cons_zero,List.getD_cons_succ,Array.getD_eq_getD_getElem?]at ad;try simp at ad
         try go_simp
         try exact Below.refl _ _
        all_goals first
         |exact⟨rfl,Below.refl _ _⟩
         |(rw[cx];exact⟨rfl,Below.refl _ _⟩)
         |(refine((i' cz) _).mono ?_;rintro e bz ⟨rfl,rfl⟩;exact⟨rfl,Below.refl _ _⟩)
         |skip
       ·intro aE z9 I O;simp only[af',List.take]at O;have aV:=O.2.2.2.1;have bW:=O.2.2.2.2.2.2.2.1;have bX:=y' I;clear O I;simp only[Y',aV,bW];go_simp;refine((i' cB) bb (i' aQ) z9 (i' bX)).mono ?_;rintro cO cP ⟨rfl,D,G⟩;have aS:=y' D;have cD:=y' G;clear D G bU bV c1 aC aV bW;generalize aE 101=cQ;generalize aE 102=cR;generalize aE 103=cS;generalize aE 105=cT;generalize aE 106=cU;generalize aE 107=cV;go_wp2;go_ret;exact⟨_,P,rfl,(i' ak) _ _ ⟨rfl,rfl⟩,cx'.mono ⟨N,i' aS,i' cC⟩ (Nat.le_succ K),(((i' ah).behind' (i' au)).trans (i' aR) (fun _ _ h=>h)).behind' (i' bX) |>.trans (i' cD) (fun _ _ h=>h)⟩
   ·go_wp2_with (go_at_call 40;refine(i' aY).mono ?_;rintro J y ⟨v,r,rfl,D,G,H⟩;replace D:=y' D;replace G:=y' G;replace H:=y' H)
    go_ret;exact⟨v,r,rfl,(i' cg) (by trivial) _ _ (i' D),(i' G),(i' ah).trans (i' H) (fun _ _ h=>h)⟩
   ·go_wp2_with (go_at_call 9;refine(i' aZ).mono ?_;rintro J y ⟨v,r,rfl,D,G,H⟩;replace D:=y' D;replace G:=y' G;replace H:=y' H)
    go_ret;exact⟨v,r,rfl,(i' ch) (by trivial) _ _ (i' D),((i' G).mono (Nat.le_succ K)),(i' ah).trans (i' H) (fun _ _ h=>h)⟩
   ·go_wp2_with (go_at_call 10;refine(i' ba).mono ?_;rintro J y ⟨v,r,rfl,D,G,H⟩;replace D:=y' D;replace G:=y' G;replace H:=y' H)
    go_ret;exact⟨v,r,rfl,(i' ci) (by trivial) _ _ (i' D),(i' G),(i' ah).trans (i' H) (fun _ _ h=>h)⟩
end Go.Proofs.YtamafdcnbcoegabGreat
