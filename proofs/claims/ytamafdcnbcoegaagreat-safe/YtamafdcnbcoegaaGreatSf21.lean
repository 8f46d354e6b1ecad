/-
  Part 21 of a proof: SG2, SF11, SG3, N8A, P1, P2, SG4, SG5, CodesProof, N9.
-/
import Derived.Deep.CutRange
import Derived.ProofKit
import Derived.SizedLaws
import Derived.OpenShut
import Derived.ShutString
import Derived.ChangeOld
import Derived.Lib.SmallJoins
import Derived.Deep.Slices
import Derived.Test.YtamafdcnbcoegaaGreatSf20
set_option maxRecDepth 100000
set_option maxHeartbeats 40000000
namespace Go.Proofs.YtamafdcnbcoegaaGreat
theorem lu' {q c:Nat}:∀i,∀m∈Mod.bitsOf q c i,q+2<=m/\m < q+2+i
 |0,m,h=>by simp[Mod.bitsOf]at h
 |i+1,m,h=>by
  simp only[Mod.bitsOf]at h;rcases List.mem_append.1 h with h|h
  ·have:=lu' i m h;omega
  ·split at h
   ·rw[List.mem_singleton]at h;omega
   ·cases h
theorem dP' (a:Mod.Ag) (k:Int) (e st q:Nat) (b:ByteArray) {s:Nat} (hs:s < 3):
  ∃n,n<=a.says k e st q b s/\((a.deliver k e st q b).fl s).base=(a.fl s).base+n/\(a.deliver k e st q b).spool s=(a.spool s).drop n/\
   ((n=0/\((a.deliver k e st q b).fl s).held=(a.fl s).held)\/∀m∈ ((a.deliver k e st q b).fl s).held,(a.fl s).base+n+2<=m/\m<=(a.fl s).base+n+4):=by
 have h0:∀a':Mod.Ag,(a'.fl s)=a.fl s->∃n,n<=a.says k e st q b s/\(a'.fl s).base=(a.fl s).base+n/\a'.spool s=(a.spool s).drop n/\
   ((n=0/\(a'.fl s).held=(a.fl s).held)\/∀m∈ (a'.fl s).held,(a.fl s).base+n+2<=m/\m<=(a.fl s).base+n+4):=fun a' u=>
  ⟨0,Nat.zero_le _,by rw[u];rfl,by simp[Mod.Ag.spool,u], .inl ⟨rfl,by rw[u]⟩⟩
 unfold Mod.Ag.deliver;split
 ·exact h0 _ rfl
 ·split
  ·exact h0 _ rfl
  ·split
   ·exact h0 _ rfl
   ·rename_i D J;split
    ·refine⟨_,Nat.le_refl _,?_,?_, .inr ?_⟩
     ·simp[Mod.fresh,hs,Mod.Ag.drop,Mod.dropTo,Mod.Flow.drop]
     ·simp[Mod.Ag.spool,Mod.fresh,hs,Mod.Ag.drop,Mod.dropTo,Mod.Flow.drop,Function.comp_def];try exact List.map_drop ..
     ·intro m r;simp[Mod.fresh,hs]at r
    ·split
     ·split
      ·exact h0 _ rfl
      ·rename_i F H G;have I:a.welcome=true:=by
        cases h:a.welcome
        ·exact absurd (.inl h) G
        ·rfl
       by_cases f:s=st
       ·have z:a.says k e st q b s=a.gone s q:=by unfold Mod.Ag.says;rw[if_neg D,if_neg F,if_pos ⟨H,by rw[f],I⟩]
        refine⟨_,Nat.le_refl _,?_,?_, .inr ?_⟩
        ·subst f;simp[Mod.upd,hs,Mod.Ag.drop,Mod.dropTo,Mod.Flow.drop]
        ·subst f;simp[Mod.Ag.spool,Mod.upd,hs,Mod.Ag.drop,Mod.dropTo,Mod.Flow.drop,List.map_drop]
        ·intro m r;subst f;simp only[Int.toNat_natCast,Mod.upd,if_true]at r;have h1:=lu' _ m r;have h2:¬a.ackSeq ((s:Nat):Int).toNat q < (a.fl ((s:Nat):Int).toNat).base:=fun h=>G (.inr h);simp only[Int.toNat_natCast]at h2;rw[z];unfold Mod.Ag.gone;unfold Mod.Ag.ackSeq at h1 h2;simp only[Int.toNat_natCast]at h1 h2;omega
       ·have z:a.says k e st q b s=0:=by unfold Mod.Ag.says;rw[if_neg D,if_neg F,if_neg (fun h=>f (by have:=h.2.1;omega))]
        refine h0 _ ?_;simp only[Int.toNat_natCast,Mod.upd,if_neg f,Mod.Ag.drop,Mod.dropTo,if_pos hs,Mod.Flow.drop,z];simp
     ·exact h0 _ rfl
theorem jL' (a:Mod.Ag) (k:Int) (e st q:Nat) (b:ByteArray) (h:¬ (k=5/\(a.epoch:Int) < e)):
  (a.deliver k e st q b).fenced=a.fenced/\(a.deliver k e st q b).epoch=a.epoch/\((a.deliver k e st q b).welcome=true->(k=2/\e=a.epoch)\/a.welcome=true):=by
 unfold Mod.Ag.deliver;rw[if_neg h];split
 ·exact⟨rfl,rfl,fun h=> .inr h⟩
 ·rename_i f;split
  ·exact⟨rfl,rfl,fun h=>by cases h⟩
  ·split
   ·rename_i h2;exact⟨rfl,rfl,fun _=> .inl ⟨h2,by omega⟩⟩
   ·split
    ·split
     ·exact⟨rfl,rfl,fun h=> .inr h⟩
     ·exact⟨rfl,rfl,fun h=> .inr h⟩
    ·exact⟨rfl,rfl,fun h=> .inr h⟩
theorem rt' {a:Mod.Ag} {lg:Nat->List ByteArray} {k:Int} {e st q:Nat} {b:ByteArray} {s:Nat}
  (h2:k=2->Wire.numAt b.data.toList (4 * s)<=((lg s).length:Int)) (h4:k=4->st=s->(q:Int)<=((lg s).length:Int)) (r:(a.fl s).base<=(lg s).length):
  (a.fl s).base+a.says k e st q b s<=(lg s).length:=by
 unfold Mod.Ag.says;split
 ·omega
 ·split
  ·rename_i f;have:=h2 f;unfold Mod.Ag.gone;omega
  ·split
   ·rename_i f;have:=h4 f.1 (by have:=f.2.1;omega);unfold Mod.Ag.gone;omega
   ·omega
theorem AgI.deliver {b z:Nat} {T lg:Nat->List ByteArray} {a:Mod.Ag} {l:List UInt8} (r:AgI b T lg z a) (u:in' lg a.epoch z l):(aI' a l).1=0/\(aI' a l).2.epoch=a.epoch/\AgI b T lg z (aI' a l).2:=by
 obtain⟨I,u⟩:=u;obtain⟨k,e,st,q,f,g1,g2,J,M,O,ac,ad,ah,ai⟩:=bH' I;rw[g1,g2,J,M,O,Int.toNat_natCast]at u;have V:aI' a l=(0,a.deliver k e st q f):=kE' I g1 g2 J M O;rw[V];have X:¬ (k=5/\(a.epoch:Int) < e):=fun h=>by
  rcases u with ⟨_,h2⟩|⟨h2,_⟩|⟨h2,_⟩
  ·omega
  ·have:=h.1;omega
  ·have:=h.1;omega
 obtain⟨Y,G,Z⟩:=jL' a k e st q f X;have aj:=r.sep;refine⟨rfl,G,⟨fx' r.good _ _ _ _ _,by show(a.deliver k e st q f).epoch<= _;rw[G];exact r.ep,by show z<=(a.deliver k e st q f).epoch;rw[G];exact r.sep,Nat.le_trans (nU' a k e st q f) r.room,fun s hs=>?_,fun s hs=>?_,by show(a.deliver k e st q f).fenced=false;rw[Y];exact r.fen,fun h=>?_,fun s hs m Q=>?_⟩⟩
 ·obtain⟨n,U,D,H,_⟩:=dP' a k e st q f hs;show((a.deliver k e st q f).fl s).base<= _/\(a.deliver k e st q f).spool s= _;rw[D,H];obtain⟨k1,k2⟩:=r.kept s hs;have h1:=fX' a k e st q f s;have h2:=congrArg List.length k2;rw[wb',List.length_drop]at h2;exact⟨by omega,by rw[k2,List.drop_drop]⟩
 ·obtain⟨n,U,D,H,_⟩:=dP' a k e st q f hs;show((a.deliver k e st q f).fl s).base<= _;rw[D];have h1:=rt' (a:=a) (lg:=lg) (k:=k) (e:=e) (st:=st) (q:=q) (b:=f) (s:=s) (fun aa=>?_) (fun aa ab=>?_) (r.base s hs)
  ·omega
  ·rcases u with ⟨h2,_⟩|⟨h2,_,h3⟩|⟨h2,_⟩
   ·omega
   ·exact h3 s hs
   ·omega
  ·rcases u with ⟨h2,_⟩|⟨h2,_⟩|⟨h2,_,h3⟩
   ·omega
   ·omega
   ·rw[<-ab];exact h3
 ·show z=(a.deliver k e st q f).epoch;rw[G];rcases Z h with ⟨h1,h2⟩|h1
  ·rcases u with ⟨h3,_⟩|⟨_,h3,_⟩|⟨h3,_⟩
   ·omega
   ·omega
   ·omega
  ·exact r.wel h1
 ·obtain⟨n,U,D,H,F⟩:=dP' a k e st q f hs;show((a.deliver k e st q f).fl s).base+2<=m/\m<=((a.deliver k e st q f).fl s).base+4;rw[D];rcases F with ⟨rfl,F⟩|F
  ·exact r.hld s hs m (by rw[<-F];exact Q)
  ·exact F m Q
structure SkI (T:Nat->List ByteArray) (s:Mod.Sk):Prop where
 good:ay' s
 log:∀i,i < 3->Pre (s.logs i) (T i)
 held:∀h∈s.held,h.1 < 3/\fb' T h.1 h.2.1 h.2.2
theorem SkI.grows {T r:Nat->List ByteArray} {s:Mod.Sk} (f:SkI T s) (g:lr' T r):SkI r s:=⟨f.good,fun i hi=>(f.log i hi).trans (g i),fun h u=>⟨(f.held h u).1,(f.held h u).2.grows g⟩⟩
theorem fc' {T:Nat->List ByteArray} {a:Mod.Sk} {st q n:Nat} (z:∀h∈a.held,h.1 < 3/\fb' T h.1 h.2.1 h.2.2):∀ (u:Nat) (out:List ByteArray),(∀ (j:Nat) (x:ByteArray),out[j]? =some x->(T st)[q+j - 1]? =some x)->∀ (j:Nat) (x:ByteArray),(a.commitFrom st q n u out)[j]? =some x->(T st)[q+j - 1]? =some x
 |0,out,r=>r
 |u+1,out,r=>by
  rw[Mod.Sk.commitFrom];split
  ·cases hi:a.ix st (q+out.length)with
   |none=>exact r
   |some i=>
    have h1:=(z _ (jN' hi)).2.2;refine fc' z u _ (fun j x f=>?_);rw[List.getElem?_append]at f;split at f
    ·exact r j x f
    ·rw[List.getElem?_singleton]at f;split at f
     ·injection f with f;rw[<-f,show j=out.length by omega];exact h1
     ·cases f
  ·exact r
theorem io' {T:Nat->List ByteArray} {a:Mod.Sk} (r:∀h∈a.held,h.1 < 3/\fb' T h.1 h.2.1 h.2.2) (k e:Int) {st q:Nat} {b:ByteArray} (u:fb' T st q b):∀ (j:Nat) (x:ByteArray),(a.commits k e st q b)[j]? =some x->(T st)[(a.logs st).length+j]? =some x:=by
 intro j x f;unfold Mod.Sk.commits at f;split at f
 ·simp at f
 ·rename_i z;split at f
  ·simp at f
  ·have D:(q:Int)=(a.logs st).length+1:=by have:=Classical.not_not.1 (fun h=>z (.inr (.inr h)));simpa using this
   simp only[Int.toNat_natCast]at f;have h1:=fc' (T:=T) (q:=q) r 120 [b] (fun j x f=>by
    rw[List.getElem?_singleton]at f;split at f
    ·rename_i hj;injection f with f;rw[<-f,hj];exact u.2
    ·cases f) j x f
   rw[show(a.logs st).length+j=q+j - 1 by omega];exact h1
theorem ut' {L r T:List ByteArray} (h:Pre L T) (u:∀ (j:Nat) (x:ByteArray),r[j]? =some x->T[L.length+j]? =some x):Pre (L++r) T:=fun j x f=>by
 rw[List.getElem?_append]at f;split at f
 ·exact h j x f
 ·have:=u _ x f;rwa [show L.length+(j - L.length)=j by omega]at this
theorem mO' {T:Nat->List ByteArray} {a:Mod.Sk} (r:∀i,i < 3->Pre (a.logs i) (T i)) {st:Nat} {f:List ByteArray} (u:∀ (j:Nat) (x:ByteArray),f[j]? =some x->(T st)[(a.logs st).length+j]? =some x):(∀i,i < 3->Pre ((grown a st f).logs i) (T i))/\∀i,(a.logs i).length<=((grown a st f).logs i).length:=by
 refine⟨fun i hi=>?_,fun i=>?_⟩
 ·simp only[grown];split
  ·rename_i e;subst e;exact ut' (r _ hi) u
  ·exact r i hi
 ·simp only[grown];split
  ·rename_i e;subst e;simp
  ·exact Nat.le_refl _
theorem nX' {T:Nat->List ByteArray} {a:Mod.Sk} (r:SkI T a) (k e:Int) {st q:Nat} {b:ByteArray} (hs:st < 3) (u:fb' T st q b):
  (∀i,i < 3->Pre ((aq' a k e st q b).logs i) (T i))/\(∀i,(a.logs i).length<=((aq' a k e st q b).logs i).length)/\∀h∈ (aq' a k e st q b).held,h.1 < 3/\fb' T h.1 h.2.1 h.2.2:=by
 unfold aq';split
 ·rw[jd'];refine⟨r.log,fun _=>Nat.le_refl _,fun h f=>?_⟩;unfold bB' at f;split at f
  ·rcases List.mem_append.1 f with f|f
   ·exact r.held h f
   ·rw[List.mem_singleton]at f;rw[f];exact⟨hs,u⟩
  ·exact r.held h f
 ·obtain⟨h1,h2⟩:=mO' r.log (io' r.held k e u);refine⟨h1,h2,fun h f=>?_⟩;simp only[bT',Mod.Sk.forget,grown]at f;exact r.held h (List.mem_filter.1 f).1
theorem lw' {s:Mod.Sk} (f:ay' s):∀i,i < 3->(s.logs i).length<=120:=by
 have:=f.room;unfold Mod.Sk.count at this;intro i hi;obtain rfl|rfl|rfl:i=0\/i=1\/i=2:=by omega
 all_goals omega
theorem ru' {lg:Nat->List ByteArray} {E f n:Nat} (h:n<=E) (z:E<=2147483647):in' lg E f (dZ' n).data.toList:=by
 obtain⟨g1,g2,r,D,F,G⟩:=dc' (k:=5) (e:=n) (s:=0) (q:=0) (b:=⟨#[]⟩) (by simp[Wire.proper,Wire.isNum,ByteArray.size];omega);have u:(dZ' n).data.toList=Wire.bytes 5 n ((0:Nat):Int) ((0:Nat):Int) (⟨#[]⟩:ByteArray).data.toList:=by simp[dZ']
 rw[u];exact⟨g1, .inl ⟨g2,by rw[r];omega⟩⟩
theorem uu' {a:Mod.Sk} {E n:Nat} (r:n<=2147483647) (u:ay' a):in' a.logs E n (kl' a n).data.toList:=by
 have hl:=lw' u;have f:∀i,i < 3->(a.logs i).length<=2147483647:=fun i hi=>by have:=hl i hi;omega
 obtain⟨g1,g2,z,G,H,D⟩:=dc' (k:=2) (e:=n) (s:=0) (q:=0) (b:=jA' a) (pT' a n r f);have F:(kl' a n).data.toList=Wire.bytes 2 n ((0:Nat):Int) ((0:Nat):Int) (jA' a).data.toList:=by simp[kl']
 rw[F];refine⟨g1, .inr (.inl ⟨g2,by rw[z];omega,fun s hs=>?_⟩)⟩;rw[D,(pS' a f).2 s hs];omega
theorem uw' {a:Mod.Sk} {E:Nat} (f:ay' a) {s:Nat} (hs:s < 3):in' a.logs E a.epoch (Wire.bytes 4 a.epoch s (a.logs s).length (ackBody a s (a.logs s).length).data.toList):=by
 have hl:=lw' f;obtain⟨g1,g2,r,u,z,D⟩:=dc' (ke' (a:=a) (s:=s) (up:=(a.logs s).length) f.ep hs (by have:=hl s hs;omega));refine⟨g1, .inr (.inr ⟨g2,by rw[r];omega,by rw[u,z,Int.toNat_natCast];omega⟩)⟩
theorem SkI.deliver {T:Nat->List ByteArray} {E:Nat} {s s':Mod.Sk} {l:List UInt8} {e:Int} {H:Bool} {I:List ByteArray} (z:SkI T s) (G:s.epoch<=E) (ac:E<=2147483647) (ad:ls' T E l) (h:iT' l false s e H s' I) (u:ay' s'):
  ((e=4/\I=[]/\H=true)\/(e=0/\H=false))/\SkI T s'/\(∀i,(s.logs i).length<=(s'.logs i).length)/\s.epoch<=s'.epoch/\s'.epoch<=E/\∀x∈I,in' s'.logs E s'.epoch x.data.toList:=by
 obtain⟨J,ah,M⟩:=ad;obtain⟨k,r,st,q,D,g1,g2,O,Q,U,ap,Z,aq,au⟩:=bH' J;rw[g2]at ah;rw[g1,O,Q,U,Int.toNat_natCast,Int.toNat_natCast]at M;rcases h with ⟨h,_⟩|⟨_,rfl,rfl,rfl,n,av,ax,rfl⟩|⟨_,rfl,rfl,rfl,rfl⟩
 ·cases h
 ·refine⟨.inl ⟨rfl,rfl,rfl⟩,?_⟩;have aa:(∀i,i < 3->Pre (ic' s l n i) (T i))/\∀i,(s.logs i).length<=(ic' s l n i).length:=by
   rw[(id' J g1 g2 O Q U).2];unfold nL';split
   ·rename_i ay;have V:fb' T st q D:=by
     rcases M with h|⟨_,h⟩
     ·omega
     ·exact h
    refine mO' z.log (fun j x f=>io' z.held 3 s.epoch V j x ?_);rw[List.getElem?_take]at f;split at f
    ·exact f
    ·cases f
   ·exact⟨z.log,fun _=>Nat.le_refl _⟩
  exact⟨⟨u,aa.1,fun h F=>by cases F⟩,aa.2,Nat.le_refl _,G,fun x f=>by cases f⟩
 ·rw[eQ' J g1 g2 O Q U]at u ⊢;refine⟨.inr ⟨rfl,rfl⟩,?_⟩;have ab:∀m,m<=E->∀x∈ [dZ' m],in' s.logs E s.epoch x.data.toList:=fun m ai x f=>by rw[List.mem_singleton]at f;rw[f];exact ru' ai ac
  unfold bW' at u ⊢;rcases M with rfl|⟨rfl,V⟩
  ·rw[if_pos rfl]at u ⊢;split
   ·exact⟨z,fun _=>Nat.le_refl _,Nat.le_refl _,G,ab _ G⟩
   ·rename_i aj;rw[if_neg aj]at u;simp only[Int.toNat_natCast]at u ⊢;refine⟨⟨u,z.log,fun h F=>?_⟩,fun _=>Nat.le_refl _,by show s.epoch<=r;omega,by show r<=E;omega,fun x f=>?_⟩
    ·simp only[aX',dr']at F;split at F
     ·cases F
     ·exact z.held h F
    ·rw[List.mem_singleton]at f;rw[f];have X:in' s.logs E r (kl' s r).data.toList:=uu' (by omega) z.good;exact X
  ·rw[if_neg (by decide),if_pos rfl]at u ⊢;split
   ·rename_i ak;rw[if_pos ak]at u;obtain⟨k1,k2,k3⟩:=nX' z 3 r Z V;have Y:=ro' s 3 r st q D;refine⟨⟨u,k1,k3⟩,k2,by rw[Y];exact Nat.le_refl _,by rw[Y];exact G,fun x f=>?_⟩;rw[List.mem_singleton]at f;have X:=uw' (a:=aq' s 3 r st q D) (E:=E) u Z;have ao:(ot' s 3 r st q D).data.toList=Wire.bytes 4 (aq' s 3 r st q D).epoch st ((aq' s 3 r st q D).logs st).length (ackBody (aq' s 3 r st q D) st ((aq' s 3 r st q D).logs st).length).data.toList:=by rw[Y];simp[ot']
    rw[f,ao];exact X
   ·exact⟨z,fun _=>Nat.le_refl _,Nat.le_refl _,G,ab _ (by omega)⟩
theorem rv' (a:Mod.Sk) (l:List UInt8):∀x∈ (av' a l).2.2,0 < x.data.toList.length:=by
 have h1:∀ (k e s q:Int) (b:List UInt8),0 < (⟨(Wire.bytes k e s q b).toArray⟩:ByteArray).data.toList.length:=fun k e s q b=>by have:=Wire.length_bytes k e s q b;simp;omega
 intro x f;unfold av' at f;split at f
 ·unfold bW' at f;split at f
  ·split at f
   ·rw[List.mem_singleton]at f;rw[f];exact h1 _ _ _ _ _
   ·rw[List.mem_singleton]at f;rw[f];exact h1 _ _ _ _ _
  ·split at f
   ·split at f
    ·rw[List.mem_singleton]at f;rw[f];exact h1 _ _ _ _ _
    ·rw[List.mem_singleton]at f;rw[f];exact h1 _ _ _ _ _
   ·cases f
 ·cases f
theorem ip' {l:List UInt8} {d:Bool} {s:Mod.Sk} {e:Int} {u:Bool} {s':Mod.Sk} {r:List ByteArray} (h:iT' l d s e u s' r):r.length<=1/\∀x∈r,0 < x.data.toList.length/\x.data.toList.length<=1000:=by
 rcases h with ⟨_,_,_,_,rfl⟩|⟨_,_,_,rfl,_⟩|⟨_,_,_,_,rfl⟩
 ·exact⟨by simp,fun x f=>by cases f⟩
 ·exact⟨by simp,fun x f=>by cases f⟩
 ·have h1:=hD' s l;exact⟨h1.1,fun x f=>⟨rv' s l x f,by have:=h1.2 x f;omega⟩⟩
end Go.Proofs.YtamafdcnbcoegaaGreat
namespace Go.Proofs.YtamafdcnbcoegaaGreat
open Go.RowKit
def dQ' (r n:Int) (P:Pl) (v:Value) (f:Pl):Prop:=
 if bI' r 12<=1 then vh' (bI' n 3) P v f
 else if bI' r 12<=3 then v= .bool true/\f=tkP P
 else if bI' r 12<=5 then(if P.up.length=0 then v= .bool true/\f=P else ∃l,P.up[P.up.length - 1 - bI' n P.up.length]? =some l/\TsR l P v f)
 else if bI' r 12<=7 then(if P.dn.length=0 then v= .bool true/\f=P else ∃l,P.dn[P.dn.length - 1 - bI' n P.dn.length]? =some l/\TaR l P v f)
 else if bI' r 12=8 then NzR P v f
 else if bI' r 12=9 then v= .bool true/\f=P
 else if bI' r 12=10 then RoR P v f else RsR P v f
structure vz' (P:Pl):Prop where
 fa:P.fa=P.da
 fs:P.fs=P.ds
 may:P.may=⟨#[]⟩\/(P.stream < 3/\∀x∈au' (Mod.reop P.a) P.stream,x≠P.may)
 tick:(cB' P.da P.a).2.length<=12/\∀l∈ (cB' P.da P.a).2,0 < l.length/\l.length<=1000
 out:∀l e d' s' F,iT' l P.ds P.s e d' s' F->F.length<=12/\∀x∈F,0 < x.data.toList.length/\x.data.toList.length<=1000
theorem cb'.below {B K p:Nat} {w y:World} {P:Pl} (f:cb' B K p w P) (r:Below w.heap.size w y):cb' B K p y P:=by
 obtain⟨N,h1,h2⟩:=f;exact⟨N,h1.below r,h2⟩
theorem cb'.mono {B K K' p:Nat} {w:World} {P:Pl} (f:cb' B K p w P) (hK:K<=K'):cb' B K' p w P:=by
 obtain⟨N,h1,h2⟩:=f;exact⟨N,h1.mono hK,h2⟩
-- netUpAt
theorem Far.behind' {B:Nat} {w x y:World} (h:Far (fun k=>B<=k) w x) (f:Below x.heap.size x y):Far (fun k=>B<=k) w y:=h.behind (f.mono h.size)
theorem Net.upAt {B K p:Nat} {w:World} {N:by'} (u:Net B K p w N) {ix:Nat} (hi:ix < N.up.length):
  ∃g o f c l,(∃cap,N.upv= .slice (some ⟨g,o,none⟩) N.up.length cap)/\w.cell? ⟨g,o+ix,none⟩=some (.slice f l.length c)/\Y' w (.slice f l.length c) l/\N.pl.up[ix]? =some l/\g < w.heap.size:=by
 have h:w.ownsRow B 44 1 N.upv N.up.length (N.up.map (·.1)):=u.at_ 3;obtain⟨f,cap,e,_,_,G⟩:=(al' h).shape;obtain⟨g,o,z,h2⟩:=G (by omega);have r:as' B w N.up[ix].1 N.up[ix].2:=(u.at_ 8:∀D∈N.up++N.dn,as' B w D.1 D.2) _ (List.mem_append_left _ (List.getElem_mem hi));obtain⟨H,I,F,_⟩:=r.shape;have h3:=h2 ix (by omega);rw[List.getElem?_map,List.getElem?_eq_getElem hi,Option.map_some,F]at h3;rw[F]at r;refine⟨g,o,H,I,N.up[ix].2,⟨cap,by rw[e,z]⟩,h3,r.at,by simp[by'.pl,hi],(World.ownsRow.lt h g (by rw[e,z];rfl)).2⟩
theorem Net.dnAt {B K p:Nat} {w:World} {N:by'} (u:Net B K p w N) {ix:Nat} (hi:ix < N.dn.length):
  ∃g o f c l,(∃cap,N.dnv= .slice (some ⟨g,o,none⟩) N.dn.length cap)/\w.cell? ⟨g,o+ix,none⟩=some (.slice f l.length c)/\Y' w (.slice f l.length c) l/\N.pl.dn[ix]? =some l/\g < w.heap.size:=by
 have h:w.ownsRow B 44 1 N.dnv N.dn.length (N.dn.map (·.1)):=u.at_ 4;obtain⟨f,cap,e,_,_,G⟩:=(al' h).shape;obtain⟨g,o,z,h2⟩:=G (by omega);have r:as' B w N.dn[ix].1 N.dn[ix].2:=(u.at_ 8:∀D∈N.up++N.dn,as' B w D.1 D.2) _ (List.mem_append_right _ (List.getElem_mem hi));obtain⟨H,I,F,_⟩:=r.shape;have h3:=h2 ix (by omega);rw[List.getElem?_map,List.getElem?_eq_getElem hi,Option.map_some,F]at h3;rw[F]at r;refine⟨g,o,H,I,N.dn[ix].2,⟨cap,by rw[e,z]⟩,h3,r.at,by simp[by'.pl,hi],(World.ownsRow.lt h g (by rw[e,z];rfl)).2⟩
theorem rw' {B K p b:Nat} {w:World} {P:Pl} (aE:cb' B K p w P) (bF:dN' b P) (bG:vz' P) (hK:K < 1000000000) (I n aF:Int) (s:ByteArray) (bH: -9223372036854775808<=I/\I<=9223372036854775807) (aV: -9223372036854775808<=n/\n<=9223372036854775807) (hs:s.size<=140737488355328) (bI:b<=8000000):
  Calls Tryz.prog 44 #[.pointer (some ⟨p,0,none⟩), .agg #[.int .i64 I, .int .i64 n, .int .u64 aF, .string s]] w (dO' B (K+1) p w (dQ' I n P)):=by
 have bb:Hid (∀y,Calls Tryz.prog 22 #[.int .i64 I, .int .i64 12] y fun H w'=>H= .returned (.int .i64 (bI' I 12))/\w'=y):=t' (fun y=>ck' I 12 y bH (by omega) (by omega));have bW:Hid (∀y,Calls Tryz.prog 22 #[.int .i64 n, .int .i64 3] y fun H w'=>H= .returned (.int .i64 (bI' n 3))/\w'=y):=t' (fun y=>ck' n 3 y aV (by omega) (by omega));have bX:=dK' I (n:=12) (by omega);have bc:=t' aE;have ao:=t' bF;have aG:=t' bG;have bJ:=t' bI;clear aE bF bG bH bI;obtain⟨r,V⟩:∃r,r=bI' I 12:=⟨_,rfl⟩;have bY:Hid (r<=1->∀v f,vh' (bI' n 3) P v f->dQ' I n P v f):=t' (fun h v f M=>by unfold dQ';rw[<-V,if_pos h];exact M);have bZ:Hid (¬r<=1->r<=3->∀v f,v= .bool true/\f=tkP P->dQ' I n P v f):=t' (fun h h2 v f M=>by unfold dQ';rw[<-V,if_neg h,if_pos h2];exact M);have ca:Hid (¬r<=3->r<=5->P.up.length=0->∀v f,v= .bool true/\f=P->dQ' I n P v f):=t' (fun h h2 h3 v f M=>by unfold dQ';rw[<-V,if_neg (by omega),if_neg h,if_pos h2,if_pos h3];exact M);have cb:Hid (¬r<=3->r<=5->¬P.up.length=0->∀l,P.up[P.up.length - 1 - bI' n P.up.length]? =some l->∀v f,TsR l P v f->dQ' I n P v f):=t' (fun h h2 h3 l hl v f M=>by unfold dQ';rw[<-V,if_neg (by omega),if_neg h,if_pos h2,if_neg h3];exact⟨l,hl,M⟩);have cc:Hid (¬r<=5->r<=7->P.dn.length=0->∀v f,v= .bool true/\f=P->dQ' I n P v f):=t' (fun h h2 h3 v f M=>by unfold dQ';rw[<-V,if_neg (by omega),if_neg (by omega),if_neg h,if_pos h2,if_pos h3];exact M);have cd:Hid (¬r<=5->r<=7->¬P.dn.length=0->∀l,P.dn[P.dn.length - 1 - bI' n P.dn.length]? =some l->∀v f,TaR l P v f->dQ' I n P v f):=t' (fun h h2 h3 l hl v f M=>by unfold dQ';rw[<-V,if_neg (by omega),if_neg (by omega),if_neg h,if_pos h2,if_neg h3];exact⟨l,hl,M⟩);have bK:Hid (r=9->∀v f,v= .bool true/\f=P->dQ' I n P v f):=t' (fun h v f M=>by unfold dQ';rw[<-V,if_neg (by omega),if_neg (by omega),if_neg (by omega),if_neg (by omega),if_neg (by omega),if_pos h];exact M);have ce:Hid (r=8->∀v f,NzR P v f->dQ' I n P v f):=t' (fun h v f M=>by unfold dQ';rw[<-V,if_neg (by omega),if_neg (by omega),if_neg (by omega),if_neg (by omega),if_pos h];exact M);have cf:Hid (r=10->∀v f,RoR P v f->dQ' I n P v f):=t' (fun h v f M=>by unfold dQ';rw[<-V,if_neg (by omega),if_neg (by omega),if_neg (by omega),if_neg (by omega),if_neg (by omega),if_neg (by omega),if_pos h];exact M);have cg:Hid (r=11->∀v f,RsR P v f->dQ' I n P v f):=t' (fun h v f M=>by unfold dQ';rw[<-V,if_neg (by omega),if_neg (by omega),if_neg (by omega),if_neg (by omega),if_neg (by omega),if_neg (by omega),if_neg (by omega)];exact M);rw[<-V]at bX;replace bb:Hid (∀y,Calls Tryz.prog 22 #[.int .i64 I, .int .i64 12] y fun H w'=>H= .returned (.int .i64 r)/\w'=y):=by rw[V];exact bb
 clear V;go_enter Tryz.func44,Tryz.ntmps44;go_upto_region 2 with (go_at_call 22;refine(i' bb _).mono ?_;rintro H y ⟨rfl,rfl⟩);obtain⟨q,bL⟩:∃q,q=w.heap.size:=⟨_,rfl⟩;have bd:=heap_alloc_new w (.cells #[.int .i64 I, .int .i64 n, .int .u64 aF, .string s] 76);rw[<-bL]at bd ⊢;refine C' (fun x=>cb' B K p x P/\x.heap[q]? =some (.cells #[.int .i64 I, .int .i64 n, .int .u64 aF, .string s] 76 (0,0))/\Below w.heap.size w x/\∃N,Net B K p x N/\N.pl=P/\∀k,N.ua k->k≠q) ⟨(i' bc).below ((Below.refl _ _).alloc (Nat.le_refl _) _),bd,(Below.refl _ _).alloc (Nat.le_refl _) _,?_⟩ ?_
 ·obtain⟨N,bM,ch⟩:=i' bc;exact⟨N,bM.below ((Below.refl _ _).alloc (Nat.le_refl _) _),ch,fun k ci=>by have:=(bM.lt 1 k ci).2;omega⟩
 rintro x ⟨aE,aA,bN,aW⟩;replace aW:=t' aW;have cC:=m' (i:=0) aA;have be:=m' (i:=1) aA;have cD:=m' (i:=2) aA;have cE:=m' (i:=3) aA;have Y:=t' aE;have ac:=t' (show Far (fun k=>B<=k) w x from A' bN);have aH:=t' aA;clear bd bL bc aE bN aA;have bf:=t' (mi' (i' Y) (i' ao) (dK' n (n:=3) (by omega)));have bg:=t' (qe' (i' Y) (i' ao) (i' aG).tick);have aX:=t' (nW' (i' Y) (i' ao) hK (i' aG).fa (i' aG).fs s hs);have aY:=t' (jK' (i' Y) (i' ao) (i' aG).may aF);have aZ:=t' (lq' (i' Y) hK aF);by_cases h1:r<=1
 ·clear bg aX aY aZ;obtain rfl|rfl:r=0\/r=1:=by omega
  all_goals
   go_wp2_with (first
    |(go_at_call 22;refine(i' bW _).mono ?_;rintro H y ⟨rfl,rfl⟩)
    |(go_at_call 68;refine(i' bf).mono ?_;rintro H y ⟨v,f,rfl,u,D,F⟩;replace u:=t' u;replace D:=t' D;replace F:=t' F))
   go_ret;exact⟨v,f,rfl,(i' bY) (by omega) _ _ (i' u),(i' D).mono (Nat.le_succ K),(i' ac).trans (i' F) (fun _ _ h=>h)⟩
 ·by_cases h3:r<=3
  ·clear bf aX aY aZ;obtain rfl|rfl:r=2\/r=3:=by omega
   all_goals
    go_wp2_with (go_at_call 69;refine(i' bg).mono ?_;rintro H y ⟨v,f,rfl,u,D,F⟩;obtain⟨rfl,u⟩:=u;replace u:=t' u;replace D:=t' D;replace F:=t' F)
    go_ret;exact⟨_,f,rfl,(i' bZ) (by omega) (by omega) _ _ ⟨rfl,i' u⟩,(i' D).mono (Nat.le_succ K),(i' ac).trans (i' F) (fun _ _ h=>h)⟩
  ·clear bf bg;obtain h|rfl|rfl|rfl:(r < 8\/r=9)\/r=8\/r=10\/r=11:=by omega
   ·have cj:=t' hK;clear aX aY aZ;by_cases h5:r<=5
    ·obtain⟨N,O,Z⟩:=i' Y;obtain⟨ck,cl,au,av⟩:=O.upShape;have ad:P.up.length=N.up.length:=by rw[<-Z];simp[by'.pl]
     by_cases ah:P.up.length=0
     ·have ai:=t' ((i' ca) (by omega) (by omega) ah);rw[<-ad,ah]at av;clear ad au Z O;obtain rfl|rfl:r=4\/r=5:=by omega
      all_goals
       go_wp2;go_ret;exact⟨_,P,rfl,(i' ai) _ _ ⟨rfl,rfl⟩,(i' Y).mono (Nat.le_succ K),i' ac⟩
     ·obtain⟨Q,aj⟩:∃Q,Q=bI' n P.up.length:=⟨_,rfl⟩;obtain⟨un,aa⟩:∃un,un=P.up.length:=⟨_,rfl⟩;have bh:Q < un:=by rw[aj,aa];exact dK' n (by omega)
      have bi:un<=100000000:=by have h1:=(i' ao).up;have h2:=i' bJ;omega
      obtain⟨U,bj⟩:∃U,un=U+1:=⟨un - 1,by omega⟩;obtain⟨ix,bk⟩:∃ix,U=ix+Q:=⟨U - Q,by omega⟩;obtain⟨g,o,aI,c,l,⟨ax,aJ⟩,aK,aL,aM,bl⟩:=O.upAt (ix:=ix) (by omega);rw[aJ]at au;injection au with aB _ bm;subst aB bm;rw[<-ad,<-aa]at av;have bn:Hid (∀y,Calls Tryz.prog 22 #[.int .i64 n, .int .i64 un] y fun H w'=>H= .returned (.int .i64 Q)/\w'=y):=t' (fun y=>by rw[aj,aa];exact ck' n _ y aV (by omega) (by omega));have ai:=t' ((i' cb) (by omega) (by omega) ah l (by rw[<-aj,<-aa,show un - 1 - Q=ix by omega,<-Z];exact aM));have aN:Hid (∀z,Below x.heap.size x z->Calls Tryz.prog 70 #[.pointer (some ⟨p,0,none⟩), .slice aI l.length c] z (dO' B (K+1) p z (TsR l P))):=t' (fun z X=>rq' ((i' Y).below X) (i' ao) (i' cj) _ l (aL.below X) ((i' aG).out l));have aC:=(O.lt 0 p rfl).2;have ap:=lt_of_block (i' aH);have bo:IntKind.i64.wrap ((un:Int) - 1)=(U:Int):=by rw[IntKind.wrap_i64];omega
      have bp:IntKind.i64.wrap ((U:Int) - (Q:Int))=(ix:Int):=by rw[IntKind.wrap_i64];omega
      have cm:(ix:Int) < (un:Int):=by omega
      have cn:¬ (ix:Int) < 0:=by omega
      have co:(0:Int) < (un:Int):=by omega
      have cp:0 < un:=by omega
      clear bj bk bh aj aa ad Z O aL aJ aM ah bi;obtain⟨fl,aO⟩:∃fl,fl=l.length:=⟨_,rfl⟩;rw[<-aO]at aK aN;clear aO;obtain rfl|rfl:r=4\/r=5:=by omega
      all_goals
       go_upto_region 11 with fail
       refine en' (by kernel_rfl)
        [fun v _=>v= .pointer (some ⟨p,0,none⟩),fun v _=>v= .pointer (some ⟨p,0,none⟩),fun v _=>v= .pointer (some ⟨p,0,none⟩),fun v _=>v= .pointer (some ⟨p,2,none⟩),fun v _=>v= .slice (some ⟨g,o,none⟩) un ax,
         fun v _=>v= .pointer (some ⟨p,0,none⟩),fun v _=>v= .pointer (some ⟨p,0,none⟩),fun v _=>v= .pointer (some ⟨p,2,none⟩),fun v _=>v= .slice (some ⟨g,o,none⟩) un ax,fun v _=>v= .int .i64 un,fun v _=>v= .int .i64 U,fun v _=>v= .pointer (some ⟨q,1,none⟩),fun v _=>v= .int .i64 n,
         fun v _=>v= .pointer (some ⟨p,0,none⟩),fun v _=>v= .pointer (some ⟨p,0,none⟩),fun v _=>v= .pointer (some ⟨p,2,none⟩),fun v _=>v= .slice (some ⟨g,o,none⟩) un ax,fun v _=>v= .int .i64 un,fun v _=>v= .int .i64 Q,fun v _=>v= .int .i64 ix,fun v _=>v= .pointer (some ⟨g,o+ix,none⟩),fun v _=>v= .slice aI fl c,fun _ _=>True,fun _ _=>True]
        [[(0,none)],[(0,none)],[(31,some 1)],[(32,some 2)],[(33,some 3)],[(0,none)],[(35,some 5)],[(36,some 6)],[(37,some 7)],[(38,some 8)],[(39,some 9)],[(3,none)],[(41,some 11)],[(0,none)],[(43,some 13)],[(44,some 14)],[(45,some 15)],[(46,some 16)],[(42,some 12),(47,some 17)],[(40,some 10),(48,some 18)],[(34,some 4),(49,some 19)],[(50,some 20)],[(30,some 0),(51,some 21)],[(52,some 22)]] [some 30,some 31,some 32,some 33,some 34,some 35,some 36,some 37,some 38,some 39,some 40,some 41,some 42,some 43,some 44,some 45,some 46,some 47,some 48,some 49,some 50,some 51,some 52,some 4] [false,false,false,false,true,false,false,false,false,false,false,false,false,false,false,false,false,false,false,false,false,false,false,false,false,false,false,false,false,false,true,true,true,true,true,true,true,true,true,true,true,true,true,true,true,true,true,true,true,true,true,true,true,false,false,false,false,false,false,false,false,false,false,false,false,false,false,false,false,false,false,false,false,false,false,false,false,false,false,false,false,false,false,false,false,false,false,false,false,false,false,false,false,false,false,false,false,false,false,false,false,false,false,false,false,false,false,false,false,false,false,false,false,false,false,false,false,false,false,false,false,false]
        22 _ rfl (Nat.le_of_ble_eq_true (n:=23) (by kernel_rfl)) (by kernel_rfl) (by kernel_rfl) (by kernel_rfl) (by kernel_rfl) (by kernel_rfl) (by kernel_rfl) ?_ ?_ ?_ ?_
       ·repeat' (first|exact J' _|exact Z'|exact trivial|apply And.intro)
       ·refine⟨?_,?_,?_,?_,?_,?_,?_,?_,?_,?_,?_,?_,?_,?_,?_,?_,?_,?_,?_,?_,?_,?_,trivial⟩;all_goals
         intro bq z G ab;have br:=(G.cell (p:=⟨p,2,none⟩) aC).trans av;have bt:=(G.cell (p:=⟨q,1,none⟩) ap).trans be;have cq:=(G.cell (p:=⟨g,o+ix,none⟩) bl).trans aK;clear G;simp only[I',List.getD_cons_zero,List.getD_cons_succ,Array.getD_eq_getD_getElem?]at ab;try simp at ab
         try go_simp
         try exact Below.refl _ _
        all_goals first
         |exact⟨rfl,Below.refl _ _⟩
         |(rw[bo];exact⟨rfl,Below.refl _ _⟩)
         |(rw[bp];exact⟨rfl,Below.refl _ _⟩)
         |(refine((i' bn) _).mono ?_;rintro e bu ⟨rfl,rfl⟩;exact⟨rfl,Below.refl _ _⟩)
         |skip
       ·intro ak z J;rfl
       ·intro ak z G J;simp only[ae',List.take]at J;have bw:=J.1;have bz:=J.2.2.2.2.2.2.2.2.2.2.2.2.2.2.2.2.2.2.2.2.2.1;have aq:=t' G;clear J G;simp only[R',bw,bz];go_simp;refine((i' aN) z (i' aq)).mono ?_;rintro bO ba ⟨v,f,rfl,u,D,F⟩;have aP:=t' u;have aQ:=t' D;have aR:=t' F;clear u D F;intro aS cr;obtain⟨aT,rfl⟩:∃aT,aS=aT+1:=⟨aS - 1,by omega⟩;refine fY' (i:=23) (by kernel_rfl) rfl rfl ?_;go_simp;refine iz' (by kernel_rfl) ?_;go_wp2;go_ret;exact⟨v,f,rfl,(i' ai) _ _ (i' aP),i' aQ,((i' ac).behind' (i' aq)).trans (i' aR) (fun _ _ h=>h)⟩
    ·by_cases cF:r<=7
     ·obtain⟨N,O,Z⟩:=i' Y;obtain⟨ck,cl,au,av⟩:=O.dnShape;have ad:P.dn.length=N.dn.length:=by rw[<-Z];simp[by'.pl]
      by_cases ah:P.dn.length=0
      ·have ai:=t' ((i' cc) (by omega) (by omega) ah);rw[<-ad,ah]at av;clear ad au Z O;obtain rfl|rfl:r=6\/r=7:=by omega
       all_goals
        go_wp2;go_ret;exact⟨_,P,rfl,(i' ai) _ _ ⟨rfl,rfl⟩,(i' Y).mono (Nat.le_succ K),i' ac⟩
      ·obtain⟨Q,aj⟩:∃Q,Q=bI' n P.dn.length:=⟨_,rfl⟩;obtain⟨un,aa⟩:∃un,un=P.dn.length:=⟨_,rfl⟩;have bh:Q < un:=by rw[aj,aa];exact dK' n (by omega)
       have bi:un<=100000000:=by have h1:=(i' ao).dn;have h2:=i' bJ;omega
       obtain⟨U,bj⟩:∃U,un=U+1:=⟨un - 1,by omega⟩;obtain⟨ix,bk⟩:∃ix,U=ix+Q:=⟨U - Q,by omega⟩;obtain⟨g,o,aI,c,l,⟨ax,aJ⟩,aK,aL,aM,bl⟩:=O.dnAt (ix:=ix) (by omega);rw[aJ]at au;injection au with aB _ bm;subst aB bm;rw[<-ad,<-aa]at av;have bn:Hid (∀y,Calls Tryz.prog 22 #[.int .i64 n, .int .i64 un] y fun H w'=>H= .returned (.int .i64 Q)/\w'=y):=t' (fun y=>by rw[aj,aa];exact ck' n _ y aV (by omega) (by omega));have ai:=t' ((i' cd) (by omega) (by omega) ah l (by rw[<-aj,<-aa,show un - 1 - Q=ix by omega,<-Z];exact aM));have aN:Hid (∀z,Below x.heap.size x z->Calls Tryz.prog 71 #[.pointer (some ⟨p,0,none⟩), .slice aI l.length c] z (dO' B K p z (TaR l P))):=t' (fun z X=>pQ' ((i' Y).below X) (i' ao) _ l (aL.below X));have aC:=(O.lt 0 p rfl).2;have ap:=lt_of_block (i' aH);have bo:IntKind.i64.wrap ((un:Int) - 1)=(U:Int):=by rw[IntKind.wrap_i64];omega
       have bp:IntKind.i64.wrap ((U:Int) - (Q:Int))=(ix:Int):=by rw[IntKind.wrap_i64];omega
       have cm:(ix:Int) < (un:Int):=by omega
       have cn:¬ (ix:Int) < 0:=by omega
       have co:(0:Int) < (un:Int):=by omega
       have cp:0 < un:=by omega
       clear bj bk bh aj aa ad Z O aL aJ aM ah bi;obtain⟨fl,aO⟩:∃fl,fl=l.length:=⟨_,rfl⟩;rw[<-aO]at aK aN;clear aO;obtain rfl|rfl:r=6\/r=7:=by omega
       all_goals
        go_upto_region 15 with fail
        refine en' (by kernel_rfl)
         [fun v _=>v= .pointer (some ⟨p,0,none⟩),fun v _=>v= .pointer (some ⟨p,0,none⟩),fun v _=>v= .pointer (some ⟨p,0,none⟩),fun v _=>v= .pointer (some ⟨p,3,none⟩),fun v _=>v= .slice (some ⟨g,o,none⟩) un ax,
          fun v _=>v= .pointer (some ⟨p,0,none⟩),fun v _=>v= .pointer (some ⟨p,0,none⟩),fun v _=>v= .pointer (some ⟨p,3,none⟩),fun v _=>v= .slice (some ⟨g,o,none⟩) un ax,fun v _=>v= .int .i64 un,fun v _=>v= .int .i64 U,fun v _=>v= .pointer (some ⟨q,1,none⟩),fun v _=>v= .int .i64 n,
          fun v _=>v= .pointer (some ⟨p,0,none⟩),fun v _=>v= .pointer (some ⟨p,0,none⟩),fun v _=>v= .pointer (some ⟨p,3,none⟩),fun v _=>v= .slice (some ⟨g,o,none⟩) un ax,fun v _=>v= .int .i64 un,fun v _=>v= .int .i64 Q,fun v _=>v= .int .i64 ix,fun v _=>v= .pointer (some ⟨g,o+ix,none⟩),fun v _=>v= .slice aI fl c,fun _ _=>True,fun _ _=>True]
         [[(0,none)],[(0,none)],[(63,some 1)],[(64,some 2)],[(65,some 3)],[(0,none)],[(67,some 5)],[(68,some 6)],[(69,some 7)],[(70,some 8)],[(71,some 9)],[(3,none)],[(73,some 11)],[(0,none)],[(75,some 13)],[(76,some 14)],[(77,some 15)],[(78,some 16)],[(74,some 12),(79,some 17)],[(72,some 10),(80,some 18)],[(66,some 4),(81,some 19)],[(82,some 20)],[(62,some 0),(83,some 21)],[(84,some 22)]] [some 62,some 63,some 64,some 65,some 66,some 67,some 68,some 69,some 70,some 71,some 72,some 73,some 74,some 75,some 76,some 77,some 78,some 79,some 80,some 81,some 82,some 83,some 84,some 4] [false,false,false,false,true,false,false,false,false,false,false,false,false,false,false,false,false,false,false,false,false,false,false,false,false,false,false,false,false,false,false,false,false,false,false,false,false,false,false,false,false,false,false,false,false,false,false,false,false,false,false,false,false,false,false,false,false,false,false,false,false,false,true,true,true,true,true,true,true,true,true,true,true,true,true,true,true,true,true,true,true,true,true,true,true,false,false,false,false,false,false,false,false,false,false,false,false,false,false,false,false,false,false,false,false,false,false,false,false,false,false,false,false,false,false,false,false,false,false,false,false,false]
         22 _ rfl (Nat.le_of_ble_eq_true (n:=23) (by kernel_rfl)) (by kernel_rfl) (by kernel_rfl) (by kernel_rfl) (by kernel_rfl) (by kernel_rfl) (by kernel_rfl) ?_ ?_ ?_ ?_
        ·repeat' (first|exact J' _|exact Z'|exact trivial|apply And.intro)
        ·refine⟨?_,?_,?_,?_,?_,?_,?_,?_,?_,?_,?_,?_,?_,?_,?_,?_,?_,?_,?_,?_,?_,?_,trivial⟩;all_goals
          intro bq z G ab;have br:=(G.cell (p:=⟨p,3,none⟩) aC).trans av;have bt:=(G.cell (p:=⟨q,1,none⟩) ap).trans be;have cq:=(G.cell (p:=⟨g,o+ix,none⟩) bl).trans aK;clear G;simp only[I',List.getD_cons_zero,List.getD_cons_succ,Array.getD_eq_getD_getElem?]at ab;try simp at ab
          try go_simp
          try exact Below.refl _ _
         all_goals first
          |exact⟨rfl,Below.refl _ _⟩
          |(rw[bo];exact⟨rfl,Below.refl _ _⟩)
          |(rw[bp];exact⟨rfl,Below.refl _ _⟩)
          |(refine((i' bn) _).mono ?_;rintro e bu ⟨rfl,rfl⟩;exact⟨rfl,Below.refl _ _⟩)
          |skip
        ·intro ak z J;rfl
        ·intro ak z G J;simp only[ae',List.take]at J;have bw:=J.1;have bz:=J.2.2.2.2.2.2.2.2.2.2.2.2.2.2.2.2.2.2.2.2.2.1;have aq:=t' G;clear J G;simp only[R',bw,bz];go_simp;refine((i' aN) z (i' aq)).mono ?_;rintro bO ba ⟨v,f,rfl,u,D,F⟩;have aP:=t' u;have aQ:=t' D;have aR:=t' F;clear u D F;intro aS cr;obtain⟨aT,rfl⟩:∃aT,aS=aT+1:=⟨aS - 1,by omega⟩;refine fY' (i:=23) (by kernel_rfl) rfl rfl ?_;go_simp;refine iz' (by kernel_rfl) ?_;go_wp2;go_ret;exact⟨v,f,rfl,(i' ai) _ _ (i' aP),(i' aQ).mono (Nat.le_succ K),((i' ac).behind' (i' aq)).trans (i' aR) (fun _ _ h=>h)⟩
     ·obtain rfl:r=9:=by omega
      have ai:=t' ((i' bK) rfl);obtain⟨N,O,Z,bP⟩:=i' aW;have c0:x.cell? ⟨p,0,none⟩=some (.pointer (some ⟨N.va,0,none⟩)):=O.cell (j:=0) rfl;obtain⟨ay,bA⟩:∃ay,ay=bI' n 5:=⟨_,rfl⟩;obtain⟨nq,bB⟩:∃nq,nq=n.tdiv 5:=⟨_,rfl⟩;obtain⟨az,bC⟩:∃az,az=bI' nq 5:=⟨_,rfl⟩;have cs:ay < 5:=by rw[bA];exact dK' n (by omega)
      have cu:az < 5:=by rw[bC];exact dK' nq (by omega)
      have bQ: -9223372036854775808<=nq/\nq<=9223372036854775807:=by
       rw[bB];rcases Int.lt_or_le n 0 with h0|h0
       ·have e:n.tdiv 5= -((-n) / 5):=by conv=>lhs;rw[show n= -(-n) by omega,Int.neg_tdiv,Int.tdiv_eq_ediv_of_nonneg (by omega)]
        rw[e];omega
       ·rw[Int.tdiv_eq_ediv_of_nonneg h0];omega
      have cv:IntKind.i64.wrap (n.tdiv 5)=nq:=by rw[<-bB,IntKind.wrap_i64];omega
      have cw:Hid (∀y,Calls Tryz.prog 22 #[.int .i64 n, .int .i64 5] y fun H w'=>H= .returned (.int .i64 ay)/\w'=y):=t' (fun y=>by rw[bA];exact ck' n 5 y aV (by omega) (by omega));have cx:Hid (∀y,Calls Tryz.prog 22 #[.int .i64 nq, .int .i64 5] y fun H w'=>H= .returned (.int .i64 az)/\w'=y):=t' (fun y=>by rw[bC];exact ck' nq 5 y bQ (by omega) (by omega));have ap:=lt_of_block (i' aH);have aC:=(O.lt 0 p rfl).2;have cy:Hid (∀z,Below x.heap.size x z->Calls Tryz.prog 34 #[.pointer (some ⟨N.va,0,none⟩), .int .i64 ay] z fun H w'=>H= .returned (.tuple #[])/\Net B K p w' N/\Far (fun k=>B<=k) z w'/\w'.heap[q]? =x.heap[q]?):=t' (fun z X=>by have bD:AgE N.da z N.va N.a N.ua:=(O.below X).at_ 1;refine(bD.arm ay (by omega)).mono ?_;rintro H w' ⟨rfl,k1,k2⟩;exact⟨rfl,(O.below X).agent k1 k2 (fun k h=> .inl h),k2.mono (fun k _ h=>(O.lt 1 k h).1),(k2.rest q (Nat.lt_of_lt_of_le ap X.size) (fun h=>bP q h rfl)).trans (X.block q ap)⟩);have cz:Hid (∀y,Net B K p y N->∀z,Below y.heap.size y z->Calls Tryz.prog 35 #[.pointer (some ⟨N.vs,0,none⟩), .int .i64 az] z fun H w'=>H= .returned (.tuple #[])/\Net B K p w' N/\Far (fun k=>B<=k) z w'):=t' (fun y bE z X=>by have bD:SkE K N.ds z N.vs N.s N.us:=(bE.below X).at_ 2;refine(bD.arm az (by omega)).mono ?_;rintro H w' ⟨rfl,k1,k2⟩;exact⟨rfl,(bE.below X).sinkS k1 k2 (fun k h=> .inl h),k2.mono (fun k _ h=>(bE.lt 2 k h).1)⟩);have cG:=t' O;have cA:=t' Z;clear bA bC bB bQ cs cu bP O Z Y aW bK;go_upto_region 19 with fail;refine aj' (by kernel_rfl)
       [fun v _=>v= .pointer (some ⟨p,0,none⟩),fun v _=>v= .pointer (some ⟨p,0,none⟩),fun v _=>v= .pointer (some ⟨p,0,none⟩),fun v _=>v= .pointer (some ⟨N.va,0,none⟩),fun v _=>v= .pointer (some ⟨q,1,none⟩),fun v _=>v= .int .i64 n,fun v _=>v= .int .i64 ay,fun _ _=>True]
       [[(0,none)],[(93,some 0)],[(94,some 1)],[(95,some 2)],[(3,none)],[(97,some 4)],[(98,some 5)],[(96,some 3),(99,some 6)]] [some 93,some 94,some 95,some 96,some 97,some 98,some 99,some 100] [false,false,false,false,false,false,false,false,false,false,false,false,false,false,false,false,false,false,false,false,false,false,false,false,false,false,false,false,false,false,false,false,false,false,false,false,false,false,false,false,false,false,false,false,false,false,false,false,false,false,false,false,false,false,false,false,false,false,false,false,false,false,false,false,false,false,false,false,false,false,false,false,false,false,false,false,false,false,false,false,false,false,false,false,false,false,false,false,false,false,false,false,false,true,true,true,true,true,true,true,true,false,false,false,false,false,false,false,false,false,false,false,false,false,false,false,false,false,false,false,false,false]
       7 _ rfl rfl (by kernel_rfl) (by kernel_rfl) (by kernel_rfl) (by kernel_rfl) (by kernel_rfl) (by kernel_rfl) ?_ ?_ ?_
      ·repeat' (first|exact J' _|exact Z'|exact trivial|apply And.intro)
      ·refine⟨?_,?_,?_,?_,?_,?_,?_,trivial⟩;all_goals
        intro bq z G ab;have br:=(G.cell (p:=⟨p,0,none⟩) aC).trans c0;have bt:=(G.cell (p:=⟨q,1,none⟩) ap).trans be;clear G;simp only[I',List.getD_cons_zero,List.getD_cons_succ,Array.getD_eq_getD_getElem?]at ab;try simp at ab
        try go_simp
        try exact Below.refl _ _
       all_goals first
        |exact⟨rfl,Below.refl _ _⟩
        |(refine((i' cw) _).mono ?_;rintro e bu ⟨rfl,rfl⟩;exact⟨rfl,Below.refl _ _⟩)
        |skip
      ·intro ak z G J;simp only[ae',List.take]at J;have aU:=J.2.2.2.1;have bR:=J.2.2.2.2.2.2.1;have aq:=t' G;clear J G;simp only[R',aU,bR];go_simp;refine((i' cy) z (i' aq)).mono ?_;rintro bO ba ⟨rfl,u,D,F⟩;have c1:ba.cell? ⟨p,1,none⟩=some (.pointer (some ⟨N.vs,0,none⟩)):=u.cell (j:=1) rfl;have aB:=m' (i:=1) (F.trans (i' aH));have bS:=lt_of_block (F.trans (i' aH));have bT:=(u.lt 0 p rfl).2;have aP:=t' u;have aQ:=t' D;clear u D F ap aC c0 aU bR;generalize ak 93=cH;generalize ak 94=cI;generalize ak 95=cJ;generalize ak 97=cK;generalize ak 98=cL;go_upto_region 20 with fail;refine aj' (by kernel_rfl)
        [fun v _=>v= .pointer (some ⟨p,0,none⟩),fun v _=>v= .pointer (some ⟨p,0,none⟩),fun v _=>v= .pointer (some ⟨p,1,none⟩),fun v _=>v= .pointer (some ⟨N.vs,0,none⟩),fun v _=>v= .pointer (some ⟨q,1,none⟩),fun v _=>v= .int .i64 n,fun v _=>v= .int .i64 nq,fun v _=>v= .int .i64 az,fun _ _=>True]
        [[(0,none)],[(101,some 0)],[(102,some 1)],[(103,some 2)],[(3,none)],[(105,some 4)],[(106,some 5)],[(107,some 6)],[(104,some 3),(108,some 7)]] [some 101,some 102,some 103,some 104,some 105,some 106,some 107,some 108,some 109] [false,false,false,false,false,false,false,false,false,false,false,false,false,false,false,false,false,false,false,false,false,false,false,false,false,false,false,false,false,false,false,false,false,false,false,false,false,false,false,false,false,false,false,false,false,false,false,false,false,false,false,false,false,false,false,false,false,false,false,false,false,false,false,false,false,false,false,false,false,false,false,false,false,false,false,false,false,false,false,false,false,false,false,false,false,false,false,false,false,false,false,false,false,false,false,false,false,false,false,false,false,true,true,true,true,true,true,true,true,true,false,false,false,false,false,false,false,false,false,false,false,false]
        8 _ rfl rfl (by kernel_rfl) (by kernel_rfl) (by kernel_rfl) (by kernel_rfl) (by kernel_rfl) (by kernel_rfl) ?_ ?_ ?_
       ·repeat' (first|exact J' _|exact Z'|exact trivial|apply And.intro)
       ·refine⟨?_,?_,?_,?_,?_,?_,?_,?_,trivial⟩;all_goals
         intro bq z9 G ab;have br:=(G.cell (p:=⟨p,1,none⟩) bT).trans c1;have bt:=(G.cell (p:=⟨q,1,none⟩) bS).trans aB;clear G;simp only[I',List.getD_cons_zero,List.getD_cons_succ,Array.getD_eq_getD_getElem?]at ab;try simp at ab
         try go_simp
         try exact Below.refl _ _
        all_goals first
         |exact⟨rfl,Below.refl _ _⟩
         |(rw[cv];exact⟨rfl,Below.refl _ _⟩)
         |(refine((i' cx) _).mono ?_;rintro e bu ⟨rfl,rfl⟩;exact⟨rfl,Below.refl _ _⟩)
         |skip
       ·intro aD z9 G J;simp only[ae',List.take]at J;have aU:=J.2.2.2.1;have bU:=J.2.2.2.2.2.2.2.1;have bV:=t' G;clear J G;simp only[R',aU,bU];go_simp;refine((i' cz) ba (i' aP) z9 (i' bV)).mono ?_;rintro cM cN ⟨rfl,u,D⟩;have aR:=t' u;have cB:=t' D;clear u D bS bT c1 aB aU bU;generalize aD 101=cO;generalize aD 102=cP;generalize aD 103=cQ;generalize aD 105=cR;generalize aD 106=cS;generalize aD 107=cT;go_wp2;go_ret;exact⟨_,P,rfl,(i' ai) _ _ ⟨rfl,rfl⟩,cb'.mono ⟨N,i' aR,i' cA⟩ (Nat.le_succ K),(((i' ac).behind' (i' aq)).trans (i' aQ) (fun _ _ h=>h)).behind' (i' bV) |>.trans (i' cB) (fun _ _ h=>h)⟩
   ·go_wp2_with (go_at_call 72;refine(i' aX).mono ?_;rintro H y ⟨v,f,rfl,u,D,F⟩;replace u:=t' u;replace D:=t' D;replace F:=t' F)
    go_ret;exact⟨v,f,rfl,(i' ce) (by trivial) _ _ (i' u),(i' D),(i' ac).trans (i' F) (fun _ _ h=>h)⟩
   ·go_wp2_with (go_at_call 73;refine(i' aY).mono ?_;rintro H y ⟨v,f,rfl,u,D,F⟩;replace u:=t' u;replace D:=t' D;replace F:=t' F)
    go_ret;exact⟨v,f,rfl,(i' cf) (by trivial) _ _ (i' u),((i' D).mono (Nat.le_succ K)),(i' ac).trans (i' F) (fun _ _ h=>h)⟩
   ·go_wp2_with (go_at_call 74;refine(i' aZ).mono ?_;rintro H y ⟨v,f,rfl,u,D,F⟩;replace u:=t' u;replace D:=t' D;replace F:=t' F)
    go_ret;exact⟨v,f,rfl,(i' cg) (by trivial) _ _ (i' u),(i' D),(i' ac).trans (i' F) (fun _ _ h=>h)⟩
end Go.Proofs.YtamafdcnbcoegaaGreat
namespace Go.Proofs.YtamafdcnbcoegaaGreat
theorem qf':∀ (k n m:Nat),n<=k->if' n=if' m->n=m
 |k,n,m,f,h=>by
  rw[if',if'.eq_def m]at h;split at h
  ·split at h
   ·injection h with h;have:=congrArg UInt8.toNat h;simp only[UInt8.toNat_ofNat']at this;omega
   ·have h1:=congrArg List.length h;have h2:0 < (if' (m / 10)).length:=by rw[if'];split <;> simp
    simp at h1;rw[h1]at h2;simp at h2
  ·split at h
   ·have h1:=congrArg List.length h;have h2:0 < (if' (n / 10)).length:=by rw[if'];split <;> simp
    simp at h1;rw[h1]at h2;simp at h2
   ·obtain⟨h1,h2⟩:=List.append_inj' h rfl;injection h2 with h2;have h3:=congrArg UInt8.toNat h2;simp only[UInt8.toNat_ofNat']at h3;cases k with
    |zero=>omega
    |succ k=>have:=qf' k (n / 10) (m / 10) (by omega) h1;omega
theorem rV' {n m:Nat} (h:rdg n=rdg m):n=m:=by
 refine qf' n n m (Nat.le_refl _) ?_;have h1:=congrArg (fun b:ByteArray=>b.data.toList) h;simpa[rdg,fK']using h1
structure aE' (b:Nat) (P:Pl):Prop where
 ag:AgI b P.T P.s.logs P.s.epoch P.a
 sk:SkI P.T P.s
 fa:P.fa=P.da
 fs:P.fs=P.ds
 may:P.may=⟨#[]⟩\/(P.stream < 3/\∃m,m<=P.made/\P.may=rdg m/\∀s,s < 3->∀x∈P.T s,x≠P.may)
 all:∀s,s < 3->∀x∈P.T s,∃m,m<=P.made/\x=rdg m
 seen:∀s,s < 3->P.seen s<=(P.s.logs s).length
 made:P.made<=b
 tot:qa' P<=100
 upl:P.up.length<=12 * b
 dnl:P.dn.length<=12 * b
 up:∀l∈P.up,ls' P.T P.a.epoch l
 dn:∀l∈P.dn,in' P.s.logs P.a.epoch P.s.epoch l
 lim:b<=8000000
theorem aE'.good {b:Nat} {P:Pl} (f:aE' b P):dN' b P:=
 ⟨f.ag.good,f.sk.good,f.ag.ep,f.made,f.tot,f.upl,f.dnl,fun l hl=>iU' (f.up l hl).1,fun l hl=>iU' (f.dn l hl).1,by have:=f.lim;omega⟩
theorem aE'.mono {b r:Nat} {P:Pl} (f:aE' b P) (h:b<=r) (hl:r<=8000000):aE' r P:=
 ⟨f.ag.mono h,f.sk,f.fa,f.fs,f.may,f.all,f.seen,Nat.le_trans f.made h,f.tot,by have:=f.upl;omega,by have:=f.dnl;omega,f.up,f.dn,hl⟩
theorem qg' {b:Nat} {P:Pl} (f:aE' b P):(cB' P.da P.a).2.length<=12/\∀l∈ (cB' P.da P.a).2,0 < l.length/\l.length<=1000:=by
 unfold cB';split
 ·exact⟨by simp,fun l hl=>by cases hl⟩
 ·have h1:=kX' f.ag.good;have h2:=(f.ag.tick (by have:=f.lim;omega)).2;exact⟨h1.1,fun l hl=>iU' (h2 l hl).1⟩
theorem aE'.ok {b:Nat} {P:Pl} (f:aE' b P):vz' P:=by
 refine⟨f.fa,f.fs,?_,qg' f,fun l e z s' D h=>?_⟩
 ·rcases f.may with h|⟨h1,m,_,_,h3⟩
  ·exact .inl h
  ·refine .inr ⟨h1,fun x r=>h3 _ h1 x ?_⟩;have h4:au' (Mod.reop P.a) P.stream=P.a.spool P.stream:=by
    have u:((P.stream:Nat):Int) < 3:=by omega
    simp[au',Mod.Ag.spool,Mod.reop,h1,u,Function.comp_def]
   rw[h4,(f.ag.kept _ h1).2]at r;exact List.mem_of_mem_drop r
 ·have h1:=ip' h;exact⟨by omega,h1.2⟩
theorem aE'.safeAt {b:Nat} {P:Pl} (f:aE' b P):ur' P:=by
 refine⟨f.fa,f.fs,fun i hi=>⟨(f.sk.log i hi).len,(f.sk.log i hi).take,f.seen i hi⟩,fun i hi=>?_⟩;obtain⟨k1,k2⟩:=f.ag.kept i hi;have k3:=congrArg List.length k2;rw[List.length_drop]at k3;have k4:=f.ag.base i hi;exact⟨by omega,by rw[show(P.T i).length - (P.a.spool i).length=(P.a.fl i).base by omega];exact k2.symm,by omega⟩
section
variable {b:Nat} {P P':Pl} {v:Value}
theorem aE'.agent (f:aE' b P) (z:b < 8000000) {a':Mod.Ag} (A:AgI (b+1) P.T P.s.logs P.s.epoch a') (r:a'.epoch=P.a.epoch) (u:Bool) (mk:Nat) (D:P.made<=mk/\mk<=b+1):aE' (b+1) {P with a:=a',da:=u,fa:=u,made:=mk}:=by
 have h1:=f.upl;have h2:=f.dnl;refine⟨A,f.sk,rfl,f.fs,?_,fun s hs x F=>?_,f.seen,D.2,f.tot,by show P.up.length<= _;omega,by show P.dn.length<= _;omega,fun l hl=>by show ls' P.T a'.epoch l;rw[r];exact f.up l hl,fun l hl=>by show in' _ a'.epoch _ l;rw[r];exact f.dn l hl,z⟩
 ·rcases f.may with h|⟨h1,m,h2,h3,h4⟩
  ·exact .inl h
  ·exact .inr ⟨h1,m,by show m<=mk;omega,h3,h4⟩
 ·obtain⟨m,h1,h2⟩:=f.all s hs x F;exact⟨m,by show m<=mk;omega,h2⟩
theorem rW' (P:Pl) (a':Mod.Ag) (f:Bool) (mk:Nat) (h:P.fa=f):({P with a:=a',da:=f,made:=mk}:Pl)={P with a:=a',da:=f,fa:=f,made:=mk}:=by
 subst h;rfl
theorem aE'.toAgent (f:aE' b P) (u:b < 8000000) {l:List UInt8} (hl:l∈P.dn) (h:TaR l P v P'):v= .bool true/\aE' (b+1) P':=by
 obtain⟨e,F,a',h1,rfl,rfl⟩:=h;have D:=f.dn l hl;obtain⟨k1,k2,k3⟩:=f.ag.deliver D;have z:=f.fa;have G:=f.made;rcases h1 with ⟨h1,rfl,rfl,rfl⟩|⟨h1,rfl,rfl,rfl,_⟩|⟨h1,rfl,rfl,rfl⟩
 ·have r:=aE'.agent f u (f.ag.mono (Nat.le_succ _)) rfl true P.made ⟨Nat.le_refl _,by omega⟩;rw[<-rW' P P.a true P.made (by rw[z,h1])]at r;unfold taP;rw[if_neg (by decide)];exact⟨by rw[z,h1];rfl,r⟩
 ·unfold taP;rw[if_pos rfl];exact⟨rfl,aE'.agent f u (f.ag.mono (Nat.le_succ _)) rfl true P.made ⟨Nat.le_refl _,by omega⟩⟩
 ·have r:=aE'.agent f u (k3.mono (Nat.le_succ _)) k2 false P.made ⟨Nat.le_refl _,by omega⟩;rw[<-rW' P (aI' P.a l).2 false P.made (by rw[z,h1])]at r;unfold taP;rw[k1,if_neg (by decide)];exact⟨rfl,r⟩
theorem AgI.tickDead {b f:Nat} {T lg:Nat->List ByteArray} {a:Mod.Ag} (r:AgI b T lg f a):AgI (b+1) T lg f {a with ticks:=a.ticks+1}:=by
 have h1:=r.mono (Nat.le_succ b);have h2:=r.good.tk;exact⟨⟨h1.good.ep,by show a.ticks+1<=b+1;omega,h1.good.sum,h1.good.bod⟩,h1.ep,h1.sep,h1.room,h1.kept,h1.base,h1.fen,h1.wel,h1.hld⟩
theorem aE'.tick (f:aE' b P) (r:b < 8000000):aE' (b+1) (tkP P):=by
 have h1:=f.upl;have h2:=f.dnl;have z:=f.made;have u:AgI (b+1) P.T P.s.logs P.s.epoch (cB' P.da P.a).1/\(cB' P.da P.a).1.epoch=P.a.epoch/\∀l∈ (cB' P.da P.a).2,ls' P.T P.a.epoch l:=by
  unfold cB';split
  ·exact⟨f.ag.tickDead,rfl,fun l hl=>by cases hl⟩
  ·obtain⟨k1,k2⟩:=f.ag.tick (by omega);exact⟨k1,(lt' P.a).1,k2⟩
 obtain⟨k1,k2,k3⟩:=u;have D:=(qg' f).1;unfold tkP;refine⟨k1,f.sk,f.fa,f.fs,f.may,f.all,f.seen,by show P.made<= _;omega,f.tot,?_,by show P.dn.length<= _;omega,fun l hl=>?_,fun l hl=>by show in' _ (cB' P.da P.a).1.epoch _ l;rw[k2];exact f.dn l hl,r⟩
 ·show(P.up++(cB' P.da P.a).2).length<= _;rw[List.length_append];omega
 ·show ls' P.T (cB' P.da P.a).1.epoch l;rw[k2];rcases List.mem_append.1 hl with hl|hl
  ·exact f.up l hl
  ·exact k3 l hl
theorem aE'.sink (f:aE' b P) (z:b < 8000000) {s':Mod.Sk} (S:SkI P.T s') (hl:∀i,(P.s.logs i).length<=(s'.logs i).length) (h1:P.s.epoch<=s'.epoch) (h2:s'.epoch<=P.a.epoch) (u:Bool) (L:List (List UInt8)) (F:L.length<=12) (D:∀l∈L,in' s'.logs P.a.epoch s'.epoch l):
  aE' (b+1) {P with s:=s',ds:=u,fs:=u,dn:=P.dn++L}:=by
 have hu:=f.upl;have hd:=f.dnl;have G:=f.made;refine⟨(f.ag.sink hl h1 h2).mono (Nat.le_succ _),S,f.fa,rfl,f.may,f.all,fun s hs=>Nat.le_trans (f.seen s hs) (hl s),by show P.made<= _;omega,f.tot,by show P.up.length<= _;omega,?_,f.up,fun l r=>?_,z⟩
 ·show(P.dn++L).length<= _;rw[List.length_append];omega
 ·rcases List.mem_append.1 r with r|r
  ·exact(f.dn l r).mono hl (Nat.le_refl _) h1
  ·exact D l r
theorem vA' (P:Pl) (s':Mod.Sk) (f:Bool) (r:List (List UInt8)) (h:P.fs=f):({P with s:=s',ds:=f,dn:=r}:Pl)={P with s:=s',ds:=f,fs:=f,dn:=r}:=by
 subst h;rfl
theorem vB' (P:Pl) (s':Mod.Sk) (f:Bool):({P with s:=s',ds:=f,fs:=f}:Pl)={P with s:=s',ds:=f,fs:=f,dn:=P.dn++[]}:=by
 rw[List.append_nil]
theorem aE'.toSink (f:aE' b P) (z:b < 8000000) {l:List UInt8} (hl:l∈P.up) (h:TsR l P v P'):v= .bool true/\aE' (b+1) P':=by
 obtain⟨e,G,s',D,h1,H,rfl,rfl⟩:=h;have u:=f.fs;have F:=f.ag.sep;cases hd:P.ds
 ·rw[hd]at h1;obtain⟨k1,k2,k3,k4,k5,k6⟩:=f.sk.deliver F f.ag.good.ep (f.up l hl) h1 H;have hF:=(ip' h1).1;have r:=aE'.sink f z k2 k3 k4 k5 G (D.map (·.data.toList)) (by rw[List.length_map];omega) (fun l hl=>by obtain⟨x,I,rfl⟩:=List.mem_map.1 hl;exact k6 x I);rcases k1 with ⟨rfl,rfl,rfl⟩|⟨rfl,rfl⟩
  ·unfold tsP;rw[if_pos rfl];refine⟨rfl,?_⟩;show aE' (b+1) {P with s:=s',ds:=true,fs:=true};rw[vB'];exact r
  ·unfold tsP;rw[if_neg (by decide)];refine⟨rfl,?_⟩;show aE' (b+1) {P with s:=s',ds:=false,dn:=P.dn++D.map (·.data.toList)};rw[vA' P s' false _ (by rw[u,hd])];exact r
 ·rw[hd]at h1;rcases h1 with ⟨_,rfl,rfl,rfl,rfl⟩|⟨h,_⟩|⟨h,_⟩
  ·unfold tsP;rw[if_neg (by decide)];refine⟨by rw[u,hd];rfl,?_⟩;have r:=aE'.sink f z f.sk (fun _=>Nat.le_refl _) (Nat.le_refl _) F true [] (by simp) (fun l hl=>by cases hl);show aE' (b+1) {P with s:=P.s,ds:=true,dn:=P.dn++[]};rw[vA' P P.s true _ (by rw[u,hd])];exact r
  ·cases h
  ·cases h
theorem qh' {a:Mod.Ag} {i:Nat} (hi:i < 3) {x:ByteArray} (f:x.size<=20):(a.refuses i x.size=0/\a.room < 24)\/(a.refuses i x.size=7/\24<=a.room):=by
 unfold Mod.Ag.refuses;rw[if_neg (by omega),if_neg (by omega)];by_cases h:24<=a.room
 ·rw[if_pos h];exact .inr ⟨rfl,h⟩
 ·rw[if_neg h];exact .inl ⟨rfl,by omega⟩
theorem aE'.submit (f:aE' b P) (z:b < 8000000) {i:Nat} (hi:i < 3) (h:vh' i P v P'):v= .bool true/\aE' (b+1) P':=by
 have F:=f.fa;have V:=f.made;have r:(rdg (P.made+1)).size<=20:=by have:=pZ' (n:=P.made+1) (by omega);omega
 rcases h with ⟨_,rfl,rfl⟩|⟨O,e,X,a',h1,rfl,rfl⟩
 ·exact⟨rfl,f.mono (Nat.le_succ _) z⟩
 ·rcases h1 with ⟨h1,rfl,rfl,rfl⟩|⟨h1,rfl,rfl,rfl⟩|⟨h1,rfl,rfl,rfl⟩
  ·have u:=aE'.agent f z (f.ag.mono (Nat.le_succ _)) rfl true (P.made+1) ⟨by omega,by omega⟩;rw[<-rW' P P.a true (P.made+1) (by rw[F,h1])]at u;unfold im';rw[if_neg (by decide),if_neg (by decide),if_neg (by decide)];exact⟨by rw[F,h1];rfl,u⟩
  ·have u:=aE'.agent f z (f.ag.mono (Nat.le_succ _)) rfl true (P.made+1) ⟨by omega,by omega⟩;unfold im';rw[if_neg (by decide),if_pos rfl];refine⟨rfl,u.ag,u.sk,rfl,u.fs, .inr ⟨hi,P.made+1,Nat.le_refl _,rfl,fun s hs x r e=>?_⟩,u.all,u.seen,u.made,u.tot,u.upl,u.dnl,u.up,u.dn,z⟩;obtain⟨m,Q,G⟩:=f.all s hs x r;have:=rV' (G.symm.trans e);omega
  ·rcases qh' (a:=P.a) hi r with ⟨D,H⟩|⟨D,H⟩
   ·have hs:ai' P.a i (rdg (P.made+1))=P.a.submit i (rdg (P.made+1)):=by unfold ai';rw[if_pos D];rfl
    unfold im';rw[D,hs,if_pos rfl];have I:lr' P.T (fun t=>if t=i then P.T i++[rdg (P.made+1)]else P.T t):=fun t=>by
     by_cases e:t=i
     ·subst e;simp only[if_true];exact Pre.app _ _
     ·simp only[if_neg e];exact Pre.refl _
    have J:∀s,∀x∈ (if s=i then P.T i++[rdg (P.made+1)]else P.T s),x∈P.T s\/x=rdg (P.made+1):=fun s x r=>by
     by_cases e:s=i
     ·subst e;simp only[if_true]at r;rcases List.mem_append.1 r with r|r
      ·exact .inl r
      ·exact .inr (List.mem_singleton.1 r)
     ·simp only[if_neg e]at r;exact .inl r
    have hu:=f.upl;have hd:=f.dnl;refine⟨rfl,f.ag.submit hi r H,f.sk.grows I,by show P.fa=false;rw[F,h1],f.fs,?_,fun s hs x r=>?_,f.seen,by show P.made+1<= _;omega,?_,by show P.up.length<= _;omega,by show P.dn.length<= _;omega,fun l hl=>(f.up l hl).mono I (Nat.le_refl _),f.dn,z⟩
    ·rcases f.may with h|⟨g1,m,g2,M,U⟩
     ·exact .inl h
     ·refine .inr ⟨g1,m,by show m<=P.made+1;omega,M,fun s hs x r e=>?_⟩;rcases J s x r with h|h
      ·exact U s hs x h e
      ·have:=rV' ((h.symm.trans e).trans M);omega
    ·rcases J s x r with h|h
     ·obtain⟨m,Q,G⟩:=f.all s hs x h;exact⟨m,by show m<=P.made+1;omega,G⟩
     ·exact⟨P.made+1,Nat.le_refl _,h⟩
    ·unfold qa' at O ⊢;obtain rfl|rfl|rfl:i=0\/i=1\/i=2:=by omega
     all_goals
      simp;omega
   ·have hs:ai' P.a i (rdg (P.made+1))=P.a:=by unfold ai';rw[D,if_neg (by decide)]
    have Y:=f.ag.room;have u:=aE'.agent f z (f.ag.mono (Nat.le_succ _)) rfl false (P.made+1) ⟨by omega,by omega⟩;rw[<-rW' P P.a false (P.made+1) (by rw[F,h1])]at u;unfold im';rw[D,hs,if_neg (by decide),if_neg (by decide),if_pos rfl];exact⟨by rw[show P.a.room=24 by omega];rfl,u⟩
theorem aE'.reopenA (f:aE' b P) (r:b < 8000000):aE' (b+1) (roP P):=by
 have hu:=f.upl;have hd:=f.dnl;have u:=f.made;refine⟨f.ag.reop (by omega),f.sk,rfl,f.fs, .inl rfl,f.all,f.seen,by show P.made<= _;omega,f.tot,by show P.up.length<= _;omega,by show P.dn.length<= _;omega,fun l hl=>(f.up l hl).mono (lr'.refl _) (Nat.le_succ _),fun l hl=>(f.dn l hl).mono (fun _=>Nat.le_refl _) (Nat.le_succ _) (Nat.le_refl _),r⟩
theorem aE'.reopenS (r:aE' b P) (u:b < 8000000):aE' (b+1) (rsP P):=by
 have z:ay' {epoch:=P.s.epoch,logs:=P.s.logs,held:=[]}:=⟨fun h f=>(by cases f),(by simp),r.sk.good.room,r.sk.good.ep⟩;have f:=aE'.sink r u (s':={epoch:=P.s.epoch,logs:=P.s.logs,held:=[]}) ⟨z,r.sk.log,fun h f=>by cases f⟩ (fun _=>Nat.le_refl _) (Nat.le_refl _) r.ag.sep false [] (by simp) (fun l hl=>by cases hl);rw[<-vB']at f;exact f
theorem aE'.safe (f:aE' b P) (j:Nat):aE' b (sfP P j):=by
 refine⟨f.ag,f.sk,f.fa,f.fs,f.may,f.all,fun s hs=>?_,f.made,f.tot,f.upl,f.dnl,f.up,f.dn,f.lim⟩;simp only[sfP];split
 ·exact Nat.le_refl _
 ·exact f.seen s hs
theorem aE'.act (f:aE' b P) (r:b < 8000000) {u n:Int} (h:dQ' u n P v P'):v= .bool true/\aE' (b+1) P':=by
 unfold dQ' at h;split at h
 ·exact f.submit r (dK' n (n:=3) (by omega)) h
 ·split at h
  ·obtain⟨rfl,rfl⟩:=h;exact⟨rfl,f.tick r⟩
  ·split at h
   ·split at h
    ·obtain⟨rfl,rfl⟩:=h;exact⟨rfl,f.mono (Nat.le_succ _) r⟩
    ·obtain⟨l,hl,h⟩:=h;exact f.toSink r (List.mem_of_getElem? hl) h
   ·split at h
    ·split at h
     ·obtain⟨rfl,rfl⟩:=h;exact⟨rfl,f.mono (Nat.le_succ _) r⟩
     ·obtain⟨l,hl,h⟩:=h;exact f.toAgent r (List.mem_of_getElem? hl) h
    ·split at h
     ·obtain⟨rfl,rfl⟩:=h;exact⟨rfl,f.mono (Nat.le_succ _) r⟩
     ·split at h
      ·obtain⟨rfl,rfl⟩:=h;exact⟨rfl,f.mono (Nat.le_succ _) r⟩
      ·split at h
       ·obtain⟨rfl,rfl⟩:=h;exact⟨rfl,f.reopenA r⟩
       ·obtain⟨rfl,rfl⟩:=h;exact⟨rfl,f.reopenS r⟩
end
end Go.Proofs.YtamafdcnbcoegaaGreat
namespace Go.Proofs.YtamafdcnbcoegaaGreat
open Go.RowKit
section
variable {top:Nat} {C:dD' top} {D:hu'} {B i:Nat} {x y:World} {va vs g:Nat} {xs:Nat->Nat} {wv:Nat->Value}
end
def exN (a:Mod.Ag) (k:Mod.Sk):Nat->Mod.Ag×Mod.Sk
 |0=>(a,k)
 |j+1=>((fL' (exN a k j).1 (exN a k j).2).1,(fL' (exN a k j).1 (exN a k j).2).2.1)
theorem ux' (a:Mod.Ag) (k:Mod.Sk) (j:Nat):exN a k (j+1)=((fL' (exN a k j).1 (exN a k j).2).1,(fL' (exN a k j).1 (exN a k j).2).2.1):=rfl
end Go.Proofs.YtamafdcnbcoegaaGreat
namespace Go.Proofs.YtamafdcnbcoegaaGreat
def kn0:Mod.Ag:=ai' (ai' {epoch:=1,ticks:=0,welcome:=false,fenced:=false,fl:=fun _=>{base:=0,kept:=[],held:=[]}} 1 ⟨#[120]⟩) 1 ⟨#[121]⟩
theorem wr':∀j,j < 3->(fL' (exN kn0 fe' j).1 (exN kn0 fe' j).2).2.2=true:=by decide+kernel
theorem uy':au' (exN kn0 fe' 3).1 1=[]:=by decide+kernel
theorem wc':(exN kn0 fe' 3).1.refuses 1 1=0:=by decide+kernel
theorem vj':au' (ai' (exN kn0 fe' 3).1 1 ⟨#[122]⟩) 1=[⟨#[122]⟩]:=by decide+kernel
end Go.Proofs.YtamafdcnbcoegaaGreat
namespace Go.Proofs.YtamafdcnbcoegaaGreat
open Go.RowKit
def jM':Mod.Ag:={epoch:=1,ticks:=0,welcome:=false,fenced:=false,fl:=fun _=>{base:=0,kept:=[],held:=[]}}
theorem ws':kn0=ai' (ai' jM' 1 ⟨#[120]⟩) 1 ⟨#[121]⟩:=rfl
theorem kn_x:jM'.refuses 1 (⟨#[120]⟩:ByteArray).size=0:=by decide+kernel
theorem kn_y:(ai' jM' 1 ⟨#[120]⟩).refuses 1 (⟨#[121]⟩:ByteArray).size=0:=by decide+kernel
theorem vk':dJ' (exN kn0 fe' 3).2 1=[⟨#[120]⟩,⟨#[121]⟩]:=by decide+kernel
theorem sW':aH' 0 jM':=jr' 0
theorem rx' {J:Nat} {C:dD' J} {F:hu'} {w f r:World} {va vs:Nat} {u z:Nat->Prop} (a1:C.At f va jM' u) (G:Below w.heap.size w f) (a3:∀j,u j->w.heap.size<=j) (s1:F.At r vs fe' z) (D:Below f.heap.size f r) (H:∀j,z j->f.heap.size<=j):
  bU' C F w.heap.size 0 r va vs jM' fe' (fun _=>False)/\Below w.heap.size w r:=by
 have I:=G.size;have O:=D.size;have M:=C.lt a1;exact⟨⟨⟨u,z,C.far a1 (E:=fun _=>False) (A' D) (fun _ _ e=>e),s1,fun j hj e=>by have:=M j hj;have:=H j e;omega,a3,fun j hj=>Nat.le_trans I (H j hj),fun j hj=>hj.elim⟩,jr' 0,km',by omega⟩,G.trans (D.mono I)⟩
theorem nY' {r:Nat} (C:dD' r) (w:World):
  Calls Tryz.prog 18 #[] w fun u y=>∃v f,u= .returned (y' v)/\C.At y v jM' f/\Below w.heap.size w y/\∀j,f j->w.heap.size<=j:=gr' C w
theorem qi' (f:hu') (w:World):
  Calls Tryz.prog 19 #[] w fun u y=>∃v r,u= .returned (y' v)/\f.At y v fe' r/\Below w.heap.size w y/\∀j,r j->w.heap.size<=j:=nR' f w
def vl' (B:Nat) (w:World) (v:Value) (l:List ByteArray):Prop:=∃f cap,v= .slice f l.length cap/\l.length<=cap/\cap<=maxLen/\(0 < l.length->∃g o,f=some ⟨g,o,none⟩/\B<=g/\g < w.heap.size/\∀i,i < l.length->w.cell? ⟨g,o+i,none⟩=(aK' l)[i]?)
theorem wd' {B:Nat} {w:World} {v:Value} {l:List ByteArray} (h:w.ownsRow B 9 1 v l.length (aK' l)):vl' B w v l:=by
 have hl:=cv' h;obtain⟨r,cap,e,h1,h2,h3⟩:=hl;rw[bG']at e h1 h3;refine⟨r,cap,e,h1,h2,fun h0=>?_⟩;obtain⟨g,o,f,h4,h5⟩:=h3 h0;have:=World.ownsRow.lt h g (by rw[e,f];rfl);exact⟨g,o,f,this.1,h4,fun i hi=>h5 i hi⟩
theorem vl'.far {B:Nat} {x y:World} {v:Value} {l:List ByteArray} {E:Nat->Prop} (h:vl' B x v l) (hF:Far E x y) (f:∀j,B<=j->j < x.heap.size->¬E j):vl' B y v l:=by
 obtain⟨r,cap,e,h1,h2,h3⟩:=h;refine⟨r,cap,e,h1,h2,fun h0=>?_⟩;obtain⟨g,o,u,h4,h5,z⟩:=h3 h0;exact⟨g,o,u,h4,Nat.lt_of_lt_of_le h5 hF.size,fun i hi=>by rw[<-z i hi];unfold World.cell?;simp only[hF.rest g h5 (f g h4 h5)]⟩
theorem sX' {ao:Nat} (C:dD' ao) (ac:hu') (aV:1000<=ao) (w:World):
  Calls Tryz.prog 20 #[] w fun u y=>u= .returned (.bool true)/\Below w.heap.size w y:=by
 go_enter Tryz.func20,Tryz.ntmps20;go_upto_region 2 with (go_at_call 18;refine(nY' C _).mono ?_;rintro u aW ⟨va,aX,rfl,k1,k2,k3⟩;have V:=t' (And.intro k1 (And.intro k2 k3));clear k1 k2 k3);go_upto_region 3 with (go_at_call 19;refine(qi' ac _).mono ?_;rintro u aY ⟨vs,aZ,rfl,k1,k2,k3⟩;have X:=t' (And.intro k1 (And.intro k2 k3));clear k1 k2 k3);unfold y' at *;have G:=t' (rx' (i' V).1 (i' V).2.1 (i' V).2.2 (i' X).1 (i' X).2.1 (i' X).2.2);clear V X;have H:=(i' G).1.submit (by omega) 1 ⟨#[120]⟩;rw[kn_x]at H;replace H:=t' H;unfold y' at H;go_upto_region 6 with (go_at_call 21;refine(i' H).mono ?_;rintro u ba ⟨rfl,k1,k2⟩;have z:=t' (And.intro k1 ((i' G).2.trans (k2.bel (i' G).1.bx)));clear k1 k2);clear G H;have I:=(i' z).1.submit (by omega) 1 ⟨#[121]⟩;rw[kn_y,<-ws']at I;replace I:=t' I;unfold y' at I;go_upto_region 7 with (go_at_call 21;refine(i' I).mono ?_;rintro u bb ⟨rfl,k1,k2⟩;have D:=t' (And.intro k1 ((i' z).2.trans (k2.bel (i' z).1.bx)));clear k1 k2);clear z I;have ap:=t' wr';have aq:=t' vk';have au:=t' uy';have av:=t' wc';have ax:=t' vj';have ad:exN kn0 fe' 0=(kn0,fe'):=rfl;have hs:=ux' kn0 fe';generalize exN kn0 fe'=f at ap aq au av ax ad hs;have aJ:=t' ad;have aK:=t' hs;clear ad hs;go_wp2;go_loopw[5,6,7] (fun i _ _ wr=>∃t:Nat,t<=3/\i= .int .i64 t/\bU' C ac w.heap.size (2+t) wr va vs (f t).1 (f t).2 (fun _=>False)/\Below w.heap.size w wr) (fun i _ _ _=>3 - (intOf i).toNat)
 case atStart=>refine⟨0,by omega,rfl,?_,(i' D).2⟩;rw[i' aJ];exact(i' D).1
 case round=>
  obtain⟨t4,bc,rfl,J,Y⟩:=hrel;clear D;by_cases aL:t4 < 3
  ·have aM:(t4:Int) < 3:=by omega
   have O:=nT' C ac w.heap.size (2+t4) _ va vs _ _ _ J (by omega);rw[(i' ap) t4 aL]at O;have ah:=(i' aK) t4;have ay:(fL' (f t4).1 (f t4).2).1=(f (t4+1)).1:=by rw[ah]
   have az:(fL' (f t4).1 (f t4).2).2.1=(f (t4+1)).2:=by rw[ah]
   rw[ay,az]at O;clear ah ay az;generalize (((f t4).1.tick.2.length:Nat):Int)=bd at O;have aA:=t' O;have aN:=t' J.bx;have Z:=t' Y;unfold y' at aA;clear J Y O;go_wp2_with (go_at_call 31;refine(i' aA).mono ?_;rintro u be ⟨rfl,k1,k2⟩;have aO:=t' k1;have aP:=t' k2;clear k1 k2);go_roundw
   case rel=>exact⟨t4+1,by omega,by go_num,i' aO,(i' Z).trans ((i' aP).bel (i' aN))⟩
   case measure=>simp[intOf];omega
  ·have aQ:t4=3:=by omega
   subst aQ;have aM:¬ ((3:Nat):Int) < 3:=by omega
   have r:=J.log 1;have F:dJ' (f 3).2 1=[⟨#[120]⟩,⟨#[121]⟩]:=i' aq;rw[F]at r;have ai:=t' r;have Z:=t' Y;have G:=t' J;unfold y' at ai;clear J Y r F;go_upto_region 14 with (go_at_call 32;refine(i' ai).mono ?_;rintro u aR ⟨bf,rfl,k1,k2,k3⟩;have aB:=t' (wd' k1);have z:=t' (And.intro k2 ((i' Z).trans (k3.mono (i' Z).size)));clear k1 k2 k3);have r:=(i' z).1.spool 1;have F:au' (f 3).1 1=[]:=i' au;rw[F]at r;have M:=t' r;unfold y' at M;clear r F G ai;go_upto_region 15 with (go_at_call 26;refine(i' M).mono ?_;rintro u bg ⟨bh,rfl,k1,k2,k3⟩;have aC:=t' (wd' k1);have D:=t' (And.intro k2 ((i' z).2.trans (k3.mono (i' z).2.size)));have aD:=t' k3;clear k1 k2 k3);have aj:=(i' D).1.submit (by omega) 1 ⟨#[122]⟩;have aE:(f 3).1.refuses 1 (⟨#[122]⟩:ByteArray).size=0:=i' av;rw[aE]at aj;have ak:=t' aj;unfold y' at ak;clear aj aE z M;go_upto_region 16 with (go_at_call 21;refine(i' ak).mono ?_;rintro u z3 ⟨rfl,k1,k2⟩;have aa:=t' (And.intro k1 ((i' D).2.trans (k2.bel (i' D).1.bx)));have aF:=t' k2;clear k1 k2);have r:=(i' aa).1.spool 1;have F:au' (ai' (f 3).1 1 ⟨#[122]⟩) 1=[⟨#[122]⟩]:=i' ax;rw[F]at r;have M:=t' r;unfold y' at M;clear r F ak;go_upto_region 17 with (go_at_call 26;refine(i' M).mono ?_;rintro u z4 ⟨bi,rfl,k1,k2,k3⟩;have aG:=t' (wd' k1);have aS:=t' ((i' aa).2.trans (k3.mono (i' aa).2.size));have aH:=t' k3;clear k1 k2 k3);have Q:=(i' aB).far (A' (i' aD)) (fun _ _ _ e=>e);have Q:=Q.far (i' aF) (fun j h1 h2 e=>e.2 (by
    by_cases hj:j < aR.heap.size
    ·exact .inl (.inr ⟨h1,hj⟩)
    ·exact .inr ⟨by omega,h2⟩))
   have Q:=Q.far (A' (i' aH)) (fun _ _ _ e=>e);obtain⟨bj,bk,rfl,bl,bm,U⟩:=Q;obtain⟨g1,aI,rfl,_,_,U⟩:=U (by decide);have c0:z4.cell? ⟨g1,aI,none⟩=some (.string ⟨#[120]⟩):=U 0 (by decide);have c1:z4.cell? ⟨g1,aI+1,none⟩=some (.string ⟨#[121]⟩):=U 1 (by decide);obtain⟨bn,bo,rfl,bp,bq,_⟩:=i' aC;obtain⟨br,bt,rfl,bu,bw,ab⟩:=i' aG;obtain⟨aT,aU,rfl,_,_,ab⟩:=ab (by decide);have c4:z4.cell? ⟨aT,aU,none⟩=some (.string ⟨#[122]⟩):=ab 0 (by decide);clear U ab aB aC aG aD aF aH D aa;simp only[List.length_cons,List.length_nil,Nat.zero_add]at *;go_wp2;go_ret;exact⟨rfl,i' aS⟩
def vm':Pl:=⟨jM',false,fe',false,[],[],fun _=>[],0,0,⟨#[]⟩,fun _=>0,false,false⟩
theorem vn':aE' 0 vm':=by
 refine⟨⟨sW',by decide,by decide,by decide,fun s hs=>⟨Nat.le_refl _,rfl⟩,fun s hs=>Nat.le_refl _,rfl,fun h=>(by cases h),fun s hs n f=>(by cases f)⟩,⟨km',fun i hi j x h=>(by cases h),fun h r=>(by cases r)⟩,rfl,rfl, .inl rfl,fun s hs x u=>(by cases u),fun s hs=>Nat.le_refl _,Nat.le_refl _,by decide,Nat.le_refl _,Nat.le_refl _,fun l hl=>(by cases hl),fun l hl=>(by cases hl),by decide⟩
def mP':dD' 1000000000 where
 At:=iQ' 0
 lt:=rN'
 far:=pA'
 submit:=fun {_ _ a _ _} i s h f r=>by
  refine(pG' i s h f r (.inl (by decide))).mono ?_;rintro u w' ⟨U',rfl,k1,k2,k3⟩;have e:sO' a i s 0=0:=by unfold sO';split <;> rfl
  rw[e]at k1;exact⟨U',rfl,k1,k2,k3⟩
 deliver:=fun {_ _ a _ _} bs l h f r z=>by
  refine(mK' bs l h f r z (.inl (by decide))).mono ?_;rintro u w' ⟨U',rfl,k1,k2,k3⟩;have e:(dT' (0,0) (eS' a l)).2=0:=by simp[dT']
  rw[e]at k1;exact⟨U',rfl,k1,k2,k3⟩
 tick:=fun h f r=>ue' h f r
 epoch:=fun h=>ph' (rd' h)
 spool:=fun i h=>rQ' i h
 opened:=fun bs h=>pE' bs h
theorem lx' (w:World):Calls Tryz.prog 18 #[] w fun r y=>∃v f,r= .returned (y' v)/\AgE false y v jM' f/\Below w.heap.size w y/\∀j,f j->w.heap.size<=j:=by
 refine(gr' mP' w).mono ?_;rintro r y ⟨v,f,rfl,k1,k2,k3⟩;exact⟨v,f,rfl, .inl ⟨rfl,0,k1⟩,k2,k3⟩
theorem mj' (w:World):Calls Tryz.prog 19 #[] w fun u y=>∃v f,u= .returned (y' v)/\SkE 0 false y v fe' f/\Below w.heap.size w y/\∀j,f j->w.heap.size<=j:=by
 go_enter Tryz.func19,Tryz.ntmps19;go_wp2_with (at_make;refine dj' rfl _ _ rfl w.heap.size _ _ _ _ 7808 rfl rfl rfl rfl (by omega) (Nat.le_refl _) ?_;intro I z D;have F:=t' (X' (B:=w.heap.size) D (Nat.le_refl _) (by simp));have G:=t' (as'.at z);clear z D);refine(uo' _ (i' G)).mono ?_;rintro u y ⟨v,f,rfl,k1,k2,k3⟩;have H:=t' (And.intro k1 (And.intro k2 k3));clear k1 k2 k3;unfold y';go_wp2;go_ret;obtain⟨k1,k2,k3⟩:=i' H;have r:=i' F;exact⟨v,f,rfl,k1,r.trans (k2.mono r.size),fun j hj=>Nat.le_trans r.size (k3 j hj)⟩
theorem vo' {w r u:World} {va vs:Nat} {D F:Nat->Prop} (a1:AgE false r va jM' D) (I:Below w.heap.size w r) (a3:∀j,D j->w.heap.size<=j) (s1:SkE 0 false u vs fe' F) (H:Below r.heap.size r u) (J:∀j,F j->r.heap.size<=j) {y:World} {p:Nat} (ab:p=u.heap.size)
  (G:Below u.heap.size u y) (M:y.heap[p]? =some (.cells #[y' va,y' vs, .slice none 0 0, .slice none 0 0, .slice none 0 0, .slice none 0 0, .slice none 0 0, .int .i64 0, .int .i64 0, .string ⟨#[]⟩, .int .i64 0, .int .i64 0, .int .i64 0, .bool false, .bool false] 100 (0,0))):
  cb' w.heap.size 0 p y vm'/\Below w.heap.size w y:=by
 have X:=I.size;have ac:=H.size;have O:=a1.lt;have Q:=s1.lt;have ad:=lt_of_block M;have a4:=AgE.far (AgE.far a1 (E:=fun _=>False) (A' H) (fun _ _ e=>e)) (E:=fun _=>False) (A' G) (fun _ _ e=>e);have Y:=SkE.far s1 (E:=fun _=>False) (A' G) (fun _ _ e=>e);refine⟨⟨{va:=va,vs:=vs,a:=jM',da:=false,ua:=D,s:=fe',ds:=false,us:=F,upv:= .slice none 0 0,up:=[],dnv:= .slice none 0 0,dn:=[],tv:=fun _=> .slice none 0 0,T:=fun _=>[],made:=0,stream:=0,may:=⟨#[]⟩,seen:=fun _=>0,fa:=false,fs:=false,ov:= .slice none 0 0,ol:=[],oF:=[]},⟨fun i=>?_,fun i k f=>?_,fun i j k ah f Z=>?_⟩,rfl⟩,I.trans ((H.mono X).trans (G.mono (by omega)))⟩
 ·rcases i with _| _| _| _| _| _| _| _| _| _|i
  ·exact M
  ·exact a4
  ·exact Y
  ·exact World.ownsRow_nil _ _ _ _
  ·exact World.ownsRow_nil _ _ _ _
  ·exact World.ownsRow_nil _ _ _ _
  ·exact World.ownsRow_nil _ _ _ _
  ·exact World.ownsRow_nil _ _ _ _
  ·intro U z;cases z
  ·exact⟨rfl,World.ownsRow_nil _ _ _ _,fun j v aa=>by simp at aa,fun i j ai v hu=>by simp at hu,fun k _ h=>h⟩
  ·exact trivial
 ·have aj:=G.size;rcases i with _| _| _| _| _| _| _| _| _| _|i
  ·have f:k=p:=f;omega
  ·have h1:=O k f;have h2:=a3 k f;omega
  ·have h1:=Q k f;have h2:=J k f;omega
  ·cases f
  ·cases f
  ·cases f
  ·cases f
  ·cases f
  ·obtain⟨U,z,_⟩:=f;cases z
  ·rcases f with f|⟨j,hj,_⟩
   ·cases f
   ·cases hj
  ·exact f.elim
 ·have V:∀i,db' p {va:=va,vs:=vs,a:=jM',da:=false,ua:=D,s:=fe',ds:=false,us:=F,upv:= .slice none 0 0,up:=[],dnv:= .slice none 0 0,dn:=[],tv:=fun _=> .slice none 0 0,T:=fun _=>[],made:=0,stream:=0,may:=⟨#[]⟩,seen:=fun _=>0,fa:=false,fs:=false,ov:= .slice none 0 0,ol:=[],oF:=[]} i k->(i=0/\k=p)\/(i=1/\k < r.heap.size)\/(i=2/\r.heap.size<=k/\k < u.heap.size):=fun i f=>by
   rcases i with _| _| _| _| _| _| _| _| _| _|i
   ·exact .inl ⟨rfl,f⟩
   ·exact .inr (.inl ⟨rfl,O k f⟩)
   ·exact .inr (.inr ⟨rfl,J k f,Q k f⟩)
   ·cases f
   ·cases f
   ·cases f
   ·cases f
   ·cases f
   ·obtain⟨U,z,_⟩:=f;cases z
   ·rcases f with f|⟨j,hj,_⟩
    ·cases f
    ·cases hj
   ·exact f.elim
  rcases V i f with ⟨h1,h2⟩|⟨h1,h2⟩|⟨h1,h2⟩ <;> rcases V j Z with ⟨g1,g2⟩|⟨g1,g2⟩|⟨g1,g2⟩ <;> omega
theorem nZ' (w:World):Calls Tryz.prog 43 #[] w fun f y=>∃p,f= .returned (.pointer (some ⟨p,0,none⟩))/\cb' w.heap.size 0 p y vm'/\Below w.heap.size w y:=by
 go_enter Tryz.func43,Tryz.ntmps43;go_upto_region 2 with (go_at_call 18;refine(lx' _).mono ?_;rintro f H ⟨va,I,rfl,k1,k2,k3⟩;have r:=t' (And.intro k1 (And.intro k2 k3));clear k1 k2 k3);go_upto_region 3 with (go_at_call 19;refine(mj' _).mono ?_;rintro f D ⟨vs,J,rfl,k1,k2,k3⟩;have u:=t' (And.intro k1 (And.intro k2 k3));clear k1 k2 k3);unfold y' at *;obtain⟨p,z⟩:∃p,p=D.heap.size:=⟨_,rfl⟩;have G:=t' (fun(y:World)=>vo' (y:=y) (i' r).1 (i' r).2.1 (i' r).2.2 (i' u).1 (i' u).2.1 (i' u).2.2 z);have F:=t' z;clear z;go_wp2;go_ret;rw[<-i' F];exact⟨p,rfl,(i' G) _ ((Below.refl _ _).alloc (Nat.le_refl _) _) (by rw[i' F];exact heap_alloc_new D _)⟩
def vC' (w:World) (r o:Nat):Prop:=
 ∃ (f n kp:Int) (s:ByteArray),(-9223372036854775808<=f/\f<=9223372036854775807)/\(-9223372036854775808<=n/\n<=9223372036854775807)/\s.size<=1048576/\
  ∀j,j < 4->w.cell? ⟨r,o+j,none⟩= #[.int .i64 f, .int .i64 n, .int .u64 kp, .string s][j]?
theorem uz' (X:Option Addr) (len cap:Nat) (w:World) (ay:len<=1048576) (h:0 < len->∃u off,X=some ⟨u,off,none⟩/\u < w.heap.size/\∀i,i < len->vC' w u (off+i * 4)):
  Calls Tryz.prog 13 #[.slice X len cap] w fun D y=>D= .returned (.bool true)/\Below w.heap.size w y:=by
 have O:=t' h;clear h;go_enter Tryz.func13,Tryz.ntmps13;go_upto_region 2 with (go_at_call 20;refine(sX' mP' uj' (by omega) _).mono ?_;rintro D x ⟨rfl,f⟩;have r:=t' f;clear f);go_upto_region 3 with (go_at_call 43;refine(nZ' _).mono ?_;rintro D y ⟨p,rfl,k1,k2⟩;have Q:=t' k1;have z:=t' k2;clear k1 k2);have Y:=t' ((i' r).trans ((i' z).mono (i' r).size));obtain⟨B,U⟩:∃B,B=x.heap.size:=⟨_,rfl⟩;have Z:Hid (w.heap.size<=B):=t' (by rw[U];exact(i' r).size);rw[<-U]at Q;clear U r z;go_wp2;go_loopw[5] (fun i wr=>∃ (k:Nat) (P:Pl),k<=len/\i= .int .i64 k/\aE' k P/\cb' B k p wr P/\Below w.heap.size w wr) (fun i _=>len - (intOf i).toNat)
 case atStart=>exact⟨0,vm',by omega,rfl,vn',i' Q,i' Y⟩
 case round=>
  obtain⟨k,P,aa,rfl,F,V,f⟩:=hrel;clear Q Y;by_cases ap:k < len
  ·obtain⟨u,off,rfl,G,ab⟩:=(i' O) (by omega);obtain⟨aq,n,kp,s,ac,ad,hs,H⟩:=ab k ap;have c0:=(f.cell (p:=⟨u,off+k * 4+0,none⟩) G).trans (H 0 (by omega));have c1:=(f.cell (p:=⟨u,off+k * 4+1,none⟩) G).trans (H 1 (by omega));have c2:=(f.cell (p:=⟨u,off+k * 4+2,none⟩) G).trans (H 2 (by omega));have c3:=(f.cell (p:=⟨u,off+k * 4+3,none⟩) G).trans (H 3 (by omega));simp at c0 c1 c2 c3;have ah:=t' F;have r:=t' f;have ai:=t' (rw' V F.good F.ok (by omega) aq n kp s ac ad (by omega) (by omega));clear H ab G F V f O ac ad hs;go_upto_region 9 with (go_at_call 44;refine(i' ai).mono ?_;rintro D az ⟨v,aA,rfl,aj,I,J⟩;obtain⟨rfl,M⟩:=(i' ah).act (by omega) aj;have ak:=t' M;have z:=t' ((i' r).trans (J.below (i' r).size (fun k aa h=>by have:=i' Z;omega)));have ao:=t' (qd' I M.good M.safeAt);clear aj I J M);clear ai ah r c0 c1 c2 c3;go_upto_region 10 with (go_at_call 45;refine(i' ao).mono ?_;rintro D aB ⟨v,aC,rfl,⟨rfl,rfl⟩,I,J⟩;have au:=t' ((i' ak).safe 3);have av:=t' ((i' z).trans (J.below (i' z).size (fun k aa h=>by have:=i' Z;omega)));have ax:=t' I;clear I J);clear ao ak z;go_wp2;exact⟨⟨k+1,_,by omega,rfl,i' au,i' ax,i' av⟩,by simp only[intOf];omega⟩
  ·have r:=t' f;clear F V f O;go_wp2;go_ret;exact⟨rfl,i' r⟩
end Go.Proofs.YtamafdcnbcoegaaGreat
namespace Go.Proofs.YtamafdcnbcoegaaGreat
open Go.ChangeShapes Go.WideShapes Go.ChangeAt Go.RowKit
theorem Tryz.own:ownKnob Tryz.prog.godebug=none:=by kernel_rfl
theorem Tryz.laidOut:laidOutB Tryz.prog=true:=by kernel_rfl
theorem uA':Tryz.prog.cellsOf 3=1:=by kernel_rfl
theorem uB':Tryz.prog.cellsOf 27=1:=by kernel_rfl
theorem strCells:Tryz.prog.cellsOf 9=1:=by kernel_rfl
theorem mQ' (b off k:Nat):(⟨b,off,none⟩:Addr).add k=⟨b,off+k,none⟩:=by
 unfold Addr.add;split
 ·rename_i h;rw[h];rfl
 ·rfl
theorem uC' {n:Int} (h:(Lit.int .i64 n).wf=true): -9223372036854775808<=n/\n<=9223372036854775807:=by
 simp only[Lit.wf,Bool.and_eq_true,decide_eq_true_eq]at h;rw[show IntKind.i64.min= -9223372036854775808 from by decide,show IntKind.i64.max=9223372036854775807 from by decide]at h;exact h
end Go.Proofs.YtamafdcnbcoegaaGreat
