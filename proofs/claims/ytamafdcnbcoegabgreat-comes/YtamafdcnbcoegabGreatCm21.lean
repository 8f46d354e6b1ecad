/-
  Part 21 of a proof: SG3, P2, SG4, CM1, CM2, CM3, CM4, CM5, CM6, CM7.
-/
import Derived.Lib.Zigzag
import Derived.Test.YtamafdcnbcoegabGreatCm20
set_option maxRecDepth 100000
set_option maxHeartbeats 40000000
namespace Go.Proofs.YtamafdcnbcoegabGreat
theorem ra':∀ (k n m:Nat),n<=k->iH' n=iH' m->n=m
 |k,n,m,r,h=>by
  rw[iH',iH'.eq_def m]at h;split at h
  ·split at h
   ·injection h with h;have:=congrArg UInt8.toNat h;simp only[UInt8.toNat_ofNat']at this;omega
   ·have h1:=congrArg List.length h;have h2:0 < (iH' (m / 10)).length:=by rw[iH'];split <;> simp
    simp at h1;rw[h1]at h2;simp at h2
  ·split at h
   ·have h1:=congrArg List.length h;have h2:0 < (iH' (n / 10)).length:=by rw[iH'];split <;> simp
    simp at h1;rw[h1]at h2;simp at h2
   ·obtain⟨h1,h2⟩:=List.append_inj' h rfl;injection h2 with h2;have h3:=congrArg UInt8.toNat h2;simp only[UInt8.toNat_ofNat']at h3;cases k with
    |zero=>omega
    |succ k=>have:=ra' k (n / 10) (m / 10) (by omega) h1;omega
theorem tn' {n m:Nat} (h:rdg n=rdg m):n=m:=by
 refine ra' n n m (Nat.le_refl _) ?_;have h1:=congrArg (fun b:ByteArray=>b.data.toList) h;simpa[rdg,gc']using h1
structure aK' (b:Nat) (P:Pl):Prop where
 ag:AgI b P.T P.s.logs P.s.epoch P.a
 sk:SkI P.T P.s
 fa:P.fa=P.da
 fs:P.fs=P.ds
 may:P.may=⟨#[]⟩\/(P.stream < 3/\∃m,m<=P.made/\P.may=rdg m/\∀s,s < 3->∀x∈P.T s,x≠P.may)
 all:∀s,s < 3->∀x∈P.T s,∃m,m<=P.made/\x=rdg m
 seen:∀s,s < 3->P.seen s<=(P.s.logs s).length
 made:P.made<=b
 tot:qZ' P<=100
 upl:P.up.length<=12 * b
 dnl:P.dn.length<=12 * b
 up:∀l∈P.up,ge' P.T P.a.epoch l
 dn:∀l∈P.dn,gf' P.s.logs P.a.epoch P.s.epoch l
 lim:b<=8000000
theorem aK'.good {b:Nat} {P:Pl} (r:aK' b P):dx' b P:=
 ⟨r.ag.good,r.sk.good,r.ag.ep,r.made,r.tot,r.upl,r.dnl,fun l hl=>jA' (r.up l hl).1,fun l hl=>jA' (r.dn l hl).1,by have:=r.lim;omega⟩
theorem aK'.mono {b z:Nat} {P:Pl} (r:aK' b P) (h:b<=z) (hl:z<=8000000):aK' z P:=
 ⟨r.ag.mono h,r.sk,r.fa,r.fs,r.may,r.all,r.seen,Nat.le_trans r.made h,r.tot,by have:=r.upl;omega,by have:=r.dnl;omega,r.up,r.dn,hl⟩
theorem rb' {b:Nat} {P:Pl} (r:aK' b P):(cu' P.da P.a).2.length<=12/\∀l∈ (cu' P.da P.a).2,0 < l.length/\l.length<=1000:=by
 unfold cu';split
 ·exact⟨by simp,fun l hl=>by cases hl⟩
 ·have h1:=hG' r.ag.good;have h2:=(r.ag.tick (by have:=r.lim;omega)).2;exact⟨h1.1,fun l hl=>jA' (h2 l hl).1⟩
theorem aK'.ok {b:Nat} {P:Pl} (r:aK' b P):xh' P:=by
 refine⟨r.fa,r.fs,?_,rb' r,fun l e F s' G h=>?_⟩
 ·rcases r.may with h|⟨h1,m,_,_,h3⟩
  ·exact .inl h
  ·refine .inr ⟨h1,fun x z=>h3 _ h1 x ?_⟩;have h4:aG' (Mod.reop P.a) P.stream=P.a.spool P.stream:=by
    have D:((P.stream:Nat):Int) < 3:=by omega
    simp[aG',Mod.Ag.spool,Mod.reop,h1,D,Function.comp_def]
   rw[h4,(r.ag.kept _ h1).2]at z;exact List.mem_of_mem_drop z
 ·have h1:=iT' h;exact⟨by omega,h1.2⟩
section
variable {b:Nat} {P P':Pl} {v:Value}
theorem aK'.agent (r:aK' b P) (F:b < 8000000) {a':Mod.Ag} (A:AgI (b+1) P.T P.s.logs P.s.epoch a') (z:a'.epoch=P.a.epoch) (D:Bool) (mk:Nat) (G:P.made<=mk/\mk<=b+1):aK' (b+1) {P with a:=a',da:=D,fa:=D,made:=mk}:=by
 have h1:=r.upl;have h2:=r.dnl;refine⟨A,r.sk,rfl,r.fs,?_,fun s hs x H=>?_,r.seen,G.2,r.tot,by show P.up.length<= _;omega,by show P.dn.length<= _;omega,fun l hl=>by show ge' P.T a'.epoch l;rw[z];exact r.up l hl,fun l hl=>by show gf' _ a'.epoch _ l;rw[z];exact r.dn l hl,F⟩
 ·rcases r.may with h|⟨h1,m,h2,h3,h4⟩
  ·exact .inl h
  ·exact .inr ⟨h1,m,by show m<=mk;omega,h3,h4⟩
 ·obtain⟨m,h1,h2⟩:=r.all s hs x H;exact⟨m,by show m<=mk;omega,h2⟩
theorem to' (P:Pl) (a':Mod.Ag) (r:Bool) (mk:Nat) (h:P.fa=r):({P with a:=a',da:=r,made:=mk}:Pl)={P with a:=a',da:=r,fa:=r,made:=mk}:=by
 subst h;rfl
theorem aK'.toAgent (r:aK' b P) (D:b < 8000000) {l:List UInt8} (hl:l∈P.dn) (h:TaR l P v P'):v= .bool true/\aK' (b+1) P':=by
 obtain⟨e,H,a',h1,rfl,rfl⟩:=h;have G:=r.dn l hl;obtain⟨k1,k2,k3⟩:=r.ag.deliver G;have F:=r.fa;have I:=r.made;rcases h1 with ⟨h1,rfl,rfl,rfl⟩|⟨h1,rfl,rfl,rfl,_⟩|⟨h1,rfl,rfl,rfl⟩
 ·have z:=aK'.agent r D (r.ag.mono (Nat.le_succ _)) rfl true P.made ⟨Nat.le_refl _,by omega⟩;rw[<-to' P P.a true P.made (by rw[F,h1])]at z;unfold taP;rw[if_neg (by decide)];exact⟨by rw[F,h1];rfl,z⟩
 ·unfold taP;rw[if_pos rfl];exact⟨rfl,aK'.agent r D (r.ag.mono (Nat.le_succ _)) rfl true P.made ⟨Nat.le_refl _,by omega⟩⟩
 ·have z:=aK'.agent r D (k3.mono (Nat.le_succ _)) k2 false P.made ⟨Nat.le_refl _,by omega⟩;rw[<-to' P (aB' P.a l).2 false P.made (by rw[F,h1])]at z;unfold taP;rw[k1,if_neg (by decide)];exact⟨rfl,z⟩
theorem AgI.tickDead {b r:Nat} {T lg:Nat->List ByteArray} {a:Mod.Ag} (z:AgI b T lg r a):AgI (b+1) T lg r {a with ticks:=a.ticks+1}:=by
 have h1:=z.mono (Nat.le_succ b);have h2:=z.good.tk;exact⟨⟨h1.good.ep,by show a.ticks+1<=b+1;omega,h1.good.sum,h1.good.bod⟩,h1.ep,h1.sep,h1.room,h1.kept,h1.base,h1.fen,h1.wel,h1.hld⟩
theorem aK'.tick (r:aK' b P) (z:b < 8000000):aK' (b+1) (tkP P):=by
 have h1:=r.upl;have h2:=r.dnl;have F:=r.made;have D:AgI (b+1) P.T P.s.logs P.s.epoch (cu' P.da P.a).1/\(cu' P.da P.a).1.epoch=P.a.epoch/\∀l∈ (cu' P.da P.a).2,ge' P.T P.a.epoch l:=by
  unfold cu';split
  ·exact⟨r.ag.tickDead,rfl,fun l hl=>by cases hl⟩
  ·obtain⟨k1,k2⟩:=r.ag.tick (by omega);exact⟨k1,(cg' P.a).1,k2⟩
 obtain⟨k1,k2,k3⟩:=D;have G:=(rb' r).1;unfold tkP;refine⟨k1,r.sk,r.fa,r.fs,r.may,r.all,r.seen,by show P.made<= _;omega,r.tot,?_,by show P.dn.length<= _;omega,fun l hl=>?_,fun l hl=>by show gf' _ (cu' P.da P.a).1.epoch _ l;rw[k2];exact r.dn l hl,z⟩
 ·show(P.up++(cu' P.da P.a).2).length<= _;rw[List.length_append];omega
 ·show ge' P.T (cu' P.da P.a).1.epoch l;rw[k2];rcases List.mem_append.1 hl with hl|hl
  ·exact r.up l hl
  ·exact k3 l hl
theorem aK'.sink (r:aK' b P) (F:b < 8000000) {s':Mod.Sk} (S:SkI P.T s') (hl:∀i,(P.s.logs i).length<=(s'.logs i).length) (h1:P.s.epoch<=s'.epoch) (h2:s'.epoch<=P.a.epoch) (D:Bool) (L:List (List UInt8)) (H:L.length<=12) (G:∀l∈L,gf' s'.logs P.a.epoch s'.epoch l):
  aK' (b+1) {P with s:=s',ds:=D,fs:=D,dn:=P.dn++L}:=by
 have hu:=r.upl;have hd:=r.dnl;have I:=r.made;refine⟨(r.ag.sink hl h1 h2).mono (Nat.le_succ _),S,r.fa,rfl,r.may,r.all,fun s hs=>Nat.le_trans (r.seen s hs) (hl s),by show P.made<= _;omega,r.tot,by show P.up.length<= _;omega,?_,r.up,fun l z=>?_,F⟩
 ·show(P.dn++L).length<= _;rw[List.length_append];omega
 ·rcases List.mem_append.1 z with z|z
  ·exact(r.dn l z).mono hl (Nat.le_refl _) h1
  ·exact G l z
theorem xi' (P:Pl) (s':Mod.Sk) (r:Bool) (z:List (List UInt8)) (h:P.fs=r):({P with s:=s',ds:=r,dn:=z}:Pl)={P with s:=s',ds:=r,fs:=r,dn:=z}:=by
 subst h;rfl
theorem xj' (P:Pl) (s':Mod.Sk) (r:Bool):({P with s:=s',ds:=r,fs:=r}:Pl)={P with s:=s',ds:=r,fs:=r,dn:=P.dn++[]}:=by
 rw[List.append_nil]
theorem aK'.toSink (r:aK' b P) (F:b < 8000000) {l:List UInt8} (hl:l∈P.up) (h:TsR l P v P'):v= .bool true/\aK' (b+1) P':=by
 obtain⟨e,I,s',G,h1,J,rfl,rfl⟩:=h;have D:=r.fs;have H:=r.ag.sep;cases hd:P.ds
 ·rw[hd]at h1;obtain⟨k1,k2,k3,k4,k5,k6⟩:=r.sk.deliver H r.ag.good.ep (r.up l hl) h1 J;have hF:=(iT' h1).1;have z:=aK'.sink r F k2 k3 k4 k5 I (G.map (·.data.toList)) (by rw[List.length_map];omega) (fun l hl=>by obtain⟨x,M,rfl⟩:=List.mem_map.1 hl;exact k6 x M);rcases k1 with ⟨rfl,rfl,rfl⟩|⟨rfl,rfl⟩
  ·unfold tsP;rw[if_pos rfl];refine⟨rfl,?_⟩;show aK' (b+1) {P with s:=s',ds:=true,fs:=true};rw[xj'];exact z
  ·unfold tsP;rw[if_neg (by decide)];refine⟨rfl,?_⟩;show aK' (b+1) {P with s:=s',ds:=false,dn:=P.dn++G.map (·.data.toList)};rw[xi' P s' false _ (by rw[D,hd])];exact z
 ·rw[hd]at h1;rcases h1 with ⟨_,rfl,rfl,rfl,rfl⟩|⟨h,_⟩|⟨h,_⟩
  ·unfold tsP;rw[if_neg (by decide)];refine⟨by rw[D,hd];rfl,?_⟩;have z:=aK'.sink r F r.sk (fun _=>Nat.le_refl _) (Nat.le_refl _) H true [] (by simp) (fun l hl=>by cases hl);show aK' (b+1) {P with s:=P.s,ds:=true,dn:=P.dn++[]};rw[xi' P P.s true _ (by rw[D,hd])];exact z
  ·cases h
  ·cases h
theorem rd' {a:Mod.Ag} {i:Nat} (hi:i < 3) {x:ByteArray} (r:x.size<=20):(a.refuses i x.size=0/\a.room < 24)\/(a.refuses i x.size=7/\24<=a.room):=by
 unfold Mod.Ag.refuses;rw[if_neg (by omega),if_neg (by omega)];by_cases h:24<=a.room
 ·rw[if_pos h];exact .inr ⟨rfl,h⟩
 ·rw[if_neg h];exact .inl ⟨rfl,by omega⟩
theorem aK'.submit (r:aK' b P) (F:b < 8000000) {i:Nat} (hi:i < 3) (h:vV' i P v P'):v= .bool true/\aK' (b+1) P':=by
 have H:=r.fa;have Y:=r.made;have z:(rdg (P.made+1)).size<=20:=by have:=qY' (n:=P.made+1) (by omega);omega
 rcases h with ⟨_,rfl,rfl⟩|⟨U,e,Z,a',h1,rfl,rfl⟩
 ·exact⟨rfl,r.mono (Nat.le_succ _) F⟩
 ·rcases h1 with ⟨h1,rfl,rfl,rfl⟩|⟨h1,rfl,rfl,rfl⟩|⟨h1,rfl,rfl,rfl⟩
  ·have D:=aK'.agent r F (r.ag.mono (Nat.le_succ _)) rfl true (P.made+1) ⟨by omega,by omega⟩;rw[<-to' P P.a true (P.made+1) (by rw[H,h1])]at D;unfold gD';rw[if_neg (by decide),if_neg (by decide),if_neg (by decide)];exact⟨by rw[H,h1];rfl,D⟩
  ·have D:=aK'.agent r F (r.ag.mono (Nat.le_succ _)) rfl true (P.made+1) ⟨by omega,by omega⟩;unfold gD';rw[if_neg (by decide),if_pos rfl];refine⟨rfl,D.ag,D.sk,rfl,D.fs, .inr ⟨hi,P.made+1,Nat.le_refl _,rfl,fun s hs x z e=>?_⟩,D.all,D.seen,D.made,D.tot,D.upl,D.dnl,D.up,D.dn,F⟩;obtain⟨m,V,I⟩:=r.all s hs x z;have:=tn' (I.symm.trans e);omega
  ·rcases rd' (a:=P.a) hi z with ⟨G,J⟩|⟨G,J⟩
   ·have hs:aD' P.a i (rdg (P.made+1))=P.a.submit i (rdg (P.made+1)):=by unfold aD';rw[if_pos G];rfl
    unfold gD';rw[G,hs,if_pos rfl];have M:lX' P.T (fun t=>if t=i then P.T i++[rdg (P.made+1)]else P.T t):=fun t=>by
     by_cases e:t=i
     ·subst e;simp only[if_true];exact Pre.app _ _
     ·simp only[if_neg e];exact Pre.refl _
    have O:∀s,∀x∈ (if s=i then P.T i++[rdg (P.made+1)]else P.T s),x∈P.T s\/x=rdg (P.made+1):=fun s x z=>by
     by_cases e:s=i
     ·subst e;simp only[if_true]at z;rcases List.mem_append.1 z with z|z
      ·exact .inl z
      ·exact .inr (List.mem_singleton.1 z)
     ·simp only[if_neg e]at z;exact .inl z
    have hu:=r.upl;have hd:=r.dnl;refine⟨rfl,r.ag.submit hi z J,r.sk.grows M,by show P.fa=false;rw[H,h1],r.fs,?_,fun s hs x z=>?_,r.seen,by show P.made+1<= _;omega,?_,by show P.up.length<= _;omega,by show P.dn.length<= _;omega,fun l hl=>(r.up l hl).mono M (Nat.le_refl _),r.dn,F⟩
    ·rcases r.may with h|⟨g1,m,g2,Q,X⟩
     ·exact .inl h
     ·refine .inr ⟨g1,m,by show m<=P.made+1;omega,Q,fun s hs x z e=>?_⟩;rcases O s x z with h|h
      ·exact X s hs x h e
      ·have:=tn' ((h.symm.trans e).trans Q);omega
    ·rcases O s x z with h|h
     ·obtain⟨m,V,I⟩:=r.all s hs x h;exact⟨m,by show m<=P.made+1;omega,I⟩
     ·exact⟨P.made+1,Nat.le_refl _,h⟩
    ·unfold qZ' at U ⊢;obtain rfl|rfl|rfl:i=0\/i=1\/i=2:=by omega
     all_goals
      simp;omega
   ·have hs:aD' P.a i (rdg (P.made+1))=P.a:=by unfold aD';rw[G,if_neg (by decide)]
    have aa:=r.ag.room;have D:=aK'.agent r F (r.ag.mono (Nat.le_succ _)) rfl false (P.made+1) ⟨by omega,by omega⟩;rw[<-to' P P.a false (P.made+1) (by rw[H,h1])]at D;unfold gD';rw[G,hs,if_neg (by decide),if_neg (by decide),if_pos rfl];exact⟨by rw[show P.a.room=24 by omega];rfl,D⟩
theorem aK'.reopenA (r:aK' b P) (z:b < 8000000):aK' (b+1) (roP P):=by
 have hu:=r.upl;have hd:=r.dnl;have D:=r.made;refine⟨r.ag.reop (by omega),r.sk,rfl,r.fs, .inl rfl,r.all,r.seen,by show P.made<= _;omega,r.tot,by show P.up.length<= _;omega,by show P.dn.length<= _;omega,fun l hl=>(r.up l hl).mono (lX'.refl _) (Nat.le_succ _),fun l hl=>(r.dn l hl).mono (fun _=>Nat.le_refl _) (Nat.le_succ _) (Nat.le_refl _),z⟩
theorem aK'.reopenS (z:aK' b P) (D:b < 8000000):aK' (b+1) (rsP P):=by
 have F:aw' {epoch:=P.s.epoch,logs:=P.s.logs,held:=[]}:=⟨fun h r=>(by cases r),(by simp),z.sk.good.room,z.sk.good.ep⟩;have r:=aK'.sink z D (s':={epoch:=P.s.epoch,logs:=P.s.logs,held:=[]}) ⟨F,z.sk.log,fun h r=>by cases r⟩ (fun _=>Nat.le_refl _) (Nat.le_refl _) z.ag.sep false [] (by simp) (fun l hl=>by cases hl);rw[<-xj']at r;exact r
theorem aK'.act (r:aK' b P) (z:b < 8000000) {D n:Int} (h:dz' D n P v P'):v= .bool true/\aK' (b+1) P':=by
 unfold dz' at h;split at h
 ·exact r.submit z (eb' n (n:=3) (by omega)) h
 ·split at h
  ·obtain⟨rfl,rfl⟩:=h;exact⟨rfl,r.tick z⟩
  ·split at h
   ·split at h
    ·obtain⟨rfl,rfl⟩:=h;exact⟨rfl,r.mono (Nat.le_succ _) z⟩
    ·obtain⟨l,hl,h⟩:=h;exact r.toSink z (List.mem_of_getElem? hl) h
   ·split at h
    ·split at h
     ·obtain⟨rfl,rfl⟩:=h;exact⟨rfl,r.mono (Nat.le_succ _) z⟩
     ·obtain⟨l,hl,h⟩:=h;exact r.toAgent z (List.mem_of_getElem? hl) h
    ·split at h
     ·obtain⟨rfl,rfl⟩:=h;exact⟨rfl,r.mono (Nat.le_succ _) z⟩
     ·split at h
      ·obtain⟨rfl,rfl⟩:=h;exact⟨rfl,r.mono (Nat.le_succ _) z⟩
      ·split at h
       ·obtain⟨rfl,rfl⟩:=h;exact⟨rfl,r.reopenA z⟩
       ·obtain⟨rfl,rfl⟩:=h;exact⟨rfl,r.reopenS z⟩
end
end Go.Proofs.YtamafdcnbcoegabGreat
namespace Go.Proofs.YtamafdcnbcoegabGreat
open Go.RowKit
def mX':Mod.Ag:={epoch:=1,ticks:=0,welcome:=false,fenced:=false,fl:=fun _=>{base:=0,kept:=[],held:=[]}}
theorem nJ':aL' 0 mX':=qH' 0
def wS':Pl:=⟨mX',false,vQ',false,[],[],fun _=>[],0,0,⟨#[]⟩,fun _=>0,false,false⟩
theorem tp':aK' 0 wS':=by
 refine⟨⟨nJ',by decide,by decide,by decide,fun s hs=>⟨Nat.le_refl _,rfl⟩,fun s hs=>Nat.le_refl _,rfl,fun h=>(by cases h),fun s hs n r=>(by cases r)⟩,⟨rA',fun i hi j x h=>(by cases h),fun h z=>(by cases z)⟩,rfl,rfl, .inl rfl,fun s hs x D=>(by cases D),fun s hs=>Nat.le_refl _,Nat.le_refl _,by decide,Nat.le_refl _,Nat.le_refl _,fun l hl=>(by cases hl),fun l hl=>(by cases hl),by decide⟩
def nK':jf' 1000000000 where
 At:=dw' 0
 lt:=oI'
 far:=ea'
 submit:=fun {_ _ a _ _} i s h r z=>by
  refine(lI' i s h r z (.inl (by decide))).mono ?_;rintro D w' ⟨U',rfl,k1,k2,k3⟩;have e:ul' a i s 0=0:=by unfold ul';split <;> rfl
  rw[e]at k1;exact⟨U',rfl,k1,k2,k3⟩
 deliver:=fun {_ _ a _ _} bs l h r z F=>by
  refine(nE' bs l h r z F (.inl (by decide))).mono ?_;rintro D w' ⟨U',rfl,k1,k2,k3⟩;have e:(eh' (0,0) (fj' a l)).2=0:=by simp[eh']
  rw[e]at k1;exact⟨U',rfl,k1,k2,k3⟩
 tick:=fun h r z=>vF' h r z
 epoch:=fun h=>qj' (sm' h)
 spool:=fun i h=>ti' i h
 opened:=fun bs h=>qE' bs h
theorem ma' (w:World):Calls Tryz.prog 33 #[] w fun z y=>∃v r,z= .returned (A' v)/\dw' 0 y v mX' r/\Below w.heap.size w y/\∀j,r j->w.heap.size<=j:=mV' nK' w
theorem mY' (w:World):Calls Tryz.prog 34 #[] w fun D y=>∃v r,D= .returned (A' v)/\SkE 0 false y v vQ' r/\Below w.heap.size w y/\∀j,r j->w.heap.size<=j:=by
 go_enter Tryz.func34,Tryz.ntmps34;go_wp2_with (at_make;refine eT' rfl _ _ rfl w.heap.size _ _ _ _ 7808 rfl rfl rfl rfl (by omega) (Nat.le_refl _) ?_;intro M F G;have H:=y' (ac' (B:=w.heap.size) G (Nat.le_refl _) (by simp));have I:=y' (ax'.at F);clear F G);refine(vP' _ (i' I)).mono ?_;rintro D y ⟨v,r,rfl,k1,k2,k3⟩;have J:=y' (And.intro k1 (And.intro k2 k3));clear k1 k2 k3;unfold A';go_wp2;go_ret;obtain⟨k1,k2,k3⟩:=i' J;have z:=i' H;exact⟨v,r,rfl,k1,z.trans (k2.mono z.size),fun j hj=>Nat.le_trans z.size (k3 j hj)⟩
theorem wT' {w z D:World} {va vs:Nat} {F H:Nat->Prop} (a1:dw' 0 z va mX' F) (M:Below w.heap.size w z) (a3:∀j,F j->w.heap.size<=j) (s1:SkE 0 false D vs vQ' H) (J:Below z.heap.size z D) (O:∀j,H j->z.heap.size<=j) {y:World} {p:Nat} (ac:p=D.heap.size)
  (I:Below D.heap.size D y) (Q:y.heap[p]? =some (.cells #[A' va,A' vs, .slice none 0 0, .slice none 0 0, .slice none 0 0, .slice none 0 0, .slice none 0 0, .int .i64 0, .int .i64 0, .string ⟨#[]⟩, .int .i64 0, .int .i64 0, .int .i64 0, .bool false, .bool false] 37 (0,0))):
  ∃N,Net w.heap.size 0 p y N/\N.pl=wS'/\dw' 0 y N.va N.a N.ua/\Below w.heap.size w y:=by
 have Y:=M.size;have ad:=J.size;have U:=oI' a1;have V:=s1.lt;have ah:=lt_of_block Q;have a4:dw' 0 y va mX' F:=ea' (ea' a1 (E:=fun _=>False) (C' J) (fun _ _ e=>e)) (E:=fun _=>False) (C' I) (fun _ _ e=>e);have Z:=SkE.far s1 (E:=fun _=>False) (C' I) (fun _ _ e=>e);refine⟨{va:=va,vs:=vs,a:=mX',da:=false,ua:=F,s:=vQ',ds:=false,us:=H,upv:= .slice none 0 0,up:=[],dnv:= .slice none 0 0,dn:=[],tv:=fun _=> .slice none 0 0,T:=fun _=>[],made:=0,stream:=0,may:=⟨#[]⟩,seen:=fun _=>0,fa:=false,fs:=false,ov:= .slice none 0 0,ol:=[],oF:=[]},⟨fun i=>?_,fun i k r=>?_,fun i j k ai r aa=>?_⟩,rfl,a4,M.trans ((J.mono Y).trans (I.mono (by omega)))⟩
 ·rcases i with _| _| _| _| _| _| _| _| _| _|i
  ·exact Q
  ·exact .inl ⟨rfl,0,a4⟩
  ·exact Z
  ·exact World.ownsRow_nil _ _ _ _
  ·exact World.ownsRow_nil _ _ _ _
  ·exact World.ownsRow_nil _ _ _ _
  ·exact World.ownsRow_nil _ _ _ _
  ·exact World.ownsRow_nil _ _ _ _
  ·intro f G;cases G
  ·exact⟨rfl,World.ownsRow_nil _ _ _ _,fun j v ab=>by simp at ab,fun i j u v hu=>by simp at hu,fun k _ h=>h⟩
  ·exact trivial
 ·have aj:=I.size;rcases i with _| _| _| _| _| _| _| _| _| _|i
  ·have r:k=p:=r;omega
  ·have h1:=U k r;have h2:=a3 k r;omega
  ·have h1:=V k r;have h2:=O k r;omega
  ·cases r
  ·cases r
  ·cases r
  ·cases r
  ·cases r
  ·obtain⟨f,G,_⟩:=r;cases G
  ·rcases r with r|⟨j,hj,_⟩
   ·cases r
   ·cases hj
  ·exact r.elim
 ·have X:∀i,do' p {va:=va,vs:=vs,a:=mX',da:=false,ua:=F,s:=vQ',ds:=false,us:=H,upv:= .slice none 0 0,up:=[],dnv:= .slice none 0 0,dn:=[],tv:=fun _=> .slice none 0 0,T:=fun _=>[],made:=0,stream:=0,may:=⟨#[]⟩,seen:=fun _=>0,fa:=false,fs:=false,ov:= .slice none 0 0,ol:=[],oF:=[]} i k->(i=0/\k=p)\/(i=1/\k < z.heap.size)\/(i=2/\z.heap.size<=k/\k < D.heap.size):=fun i r=>by
   rcases i with _| _| _| _| _| _| _| _| _| _|i
   ·exact .inl ⟨rfl,r⟩
   ·exact .inr (.inl ⟨rfl,U k r⟩)
   ·exact .inr (.inr ⟨rfl,O k r,V k r⟩)
   ·cases r
   ·cases r
   ·cases r
   ·cases r
   ·cases r
   ·obtain⟨f,G,_⟩:=r;cases G
   ·rcases r with r|⟨j,hj,_⟩
    ·cases r
    ·cases hj
   ·exact r.elim
  rcases X i r with ⟨h1,h2⟩|⟨h1,h2⟩|⟨h1,h2⟩ <;> rcases X j aa with ⟨g1,g2⟩|⟨g1,g2⟩|⟨g1,g2⟩ <;> omega
theorem us' (w:World):Calls Tryz.prog 6 #[] w fun r y=>∃p,r= .returned (.pointer (some ⟨p,0,none⟩))/\∃N,Net w.heap.size 0 p y N/\N.pl=wS'/\dw' 0 y N.va N.a N.ua/\Below w.heap.size w y:=by
 go_enter Tryz.func6,Tryz.ntmps6;go_upto_region 2 with (go_at_call 33;refine(ma' _).mono ?_;rintro r J ⟨va,M,rfl,k1,k2,k3⟩;have z:=y' (And.intro k1 (And.intro k2 k3));clear k1 k2 k3);go_upto_region 3 with (go_at_call 34;refine(mY' _).mono ?_;rintro r G ⟨vs,O,rfl,k1,k2,k3⟩;have D:=y' (And.intro k1 (And.intro k2 k3));clear k1 k2 k3);unfold A' at *;obtain⟨p,F⟩:∃p,p=G.heap.size:=⟨_,rfl⟩;have I:=y' (fun(y:World)=>wT' (y:=y) (i' z).1 (i' z).2.1 (i' z).2.2 (i' D).1 (i' D).2.1 (i' D).2.2 F);have H:=y' F;clear F;go_wp2;go_ret;rw[<-i' H];exact⟨p,rfl,(i' I) _ ((Below.refl _ _).alloc (Nat.le_refl _) _) (by rw[i' H];exact heap_alloc_new G _)⟩
end Go.Proofs.YtamafdcnbcoegabGreat
namespace Go.Proofs.YtamafdcnbcoegabGreat
def hH' (p:Nat->Bool):Nat->Nat
 |0=>0
 |k+1=>hH' p k+(if p k=true then 1 else 0)
theorem gy' (p:Nat->Bool):∀k,hH' p k<=k
 |0=>Nat.le_refl _
 |k+1=>by have:=gy' p k;unfold hH';split <;> omega
theorem hI' (p q:Nat->Bool) (d:Nat):∀k,(∀i,i < k->p i=true->q (i+d)=true)->hH' p k<=hH' q (k+d)
 |0,_=>Nat.zero_le _
 |k+1,h=>by
  have h1:=hI' p q d k (fun i hi=>h i (by omega));have e:hH' q (k+1+d)=hH' q (k+d)+(if q (k+d)=true then 1 else 0):=by rw[show k+1+d=(k+d)+1 by omega];rfl
  rw[e];show hH' p k+ _<= _;by_cases r:p k=true
  ·rw[if_pos r,if_pos (h k (by omega) r)];omega
  ·rw[if_neg r];omega
theorem jC' (p q:Nat->Bool) (j:Nat):∀k,j < k->(∀i,i < k->p i=true->q i=true)->q j=true->p j=false->hH' p k+1<=hH' q k
 |0,h,_,_,_=>by omega
 |k+1,hj,h,h1,h2=>by
  show hH' p k+ _+1<=hH' q k+ _;by_cases e:j=k
  ·subst e;have:=hI' p q 0 j (fun i hi=>h i (by omega));rw[if_neg (by rw[h2];decide),if_pos h1];rw[Nat.add_zero]at this;omega
  ·have:=jC' p q j k (by omega) (fun i hi=>h i (by omega)) h1 h2;by_cases r:p k=true
   ·rw[if_pos r,if_pos (h k (by omega) r)];omega
   ·rw[if_neg r];omega
def dq' (f:Mod.Flow) (i:Nat):Bool:= !(f.held.contains (f.base+1+i))
def cF' (f:Mod.Flow) (s:Nat) (k:Mod.Sk):Bool:=f.held.all fun n=>decide (n<=(k.logs s).length) ||k.held.any fun h=>decide (h.1=s) &&decide (h.2.1=n)
def mu1 (f:Mod.Flow) (s:Nat) (k:Mod.Sk):Nat:=f.kept.length+(if cF' f s k=true then hH' (dq' f) f.kept.length else f.kept.length)
theorem jD' {f:Mod.Flow} {s:Nat} {k:Mod.Sk}:cF' f s k=true↔ ∀n∈f.held,n<=(k.logs s).length\/∃b,(s,n,b) ∈k.held:=by
 unfold cF';rw[List.all_eq_true];refine forall_congr' fun n=>forall_congr' fun _=>?_;rw[Bool.or_eq_true,decide_eq_true_eq,List.any_eq_true];refine or_congr Iff.rfl ⟨fun⟨h,h1,h2⟩=>?_,fun⟨b,h⟩=>⟨_,h,by simp⟩⟩;rw[Bool.and_eq_true,decide_eq_true_eq,decide_eq_true_eq]at h2;obtain⟨s',r,b⟩:=h;obtain⟨rfl,rfl⟩:=h2;exact⟨b,h1⟩
theorem sD' (f:Mod.Flow) (s:Nat) (k:Mod.Sk):mu1 f s k<=2 * f.kept.length:=by
 have:=gy' (dq' f) f.kept.length;unfold mu1;split <;> omega
theorem mc' {f:Mod.Flow} {s:Nat} {k k':Mod.Sk} (h:cF' f s k=true->cF' f s k'=true):mu1 f s k'<=mu1 f s k:=by
 have:=gy' (dq' f) f.kept.length;unfold mu1;by_cases h1:cF' f s k=true
 ·rw[if_pos h1,if_pos (h h1)];exact Nat.le_refl _
 ·rw[if_neg h1];split <;> omega
theorem mZ' {f:Mod.Flow} {t:Nat} {k:Mod.Sk} (k3 e:Int) {s q:Nat} {b:ByteArray} (h:cF' f t k=true):cF' f t (ak' k k3 e s q b)=true:=by
 rw[jD']at h ⊢;intro n G;have h1:=h n G;unfold ak';split
 ·rw[fM'];refine h1.imp id (fun⟨D,r⟩=>⟨D,?_⟩);unfold bA';split
  ·exact List.mem_append_left _ r
  ·exact r
 ·have hl:(k.logs t).length<=((bB' k s (k.commits k3 e s q b)).logs t).length:=by
   simp only[bB',Mod.Sk.forget,grown];split
   ·rename_i z;subst z;simp
   ·exact Nat.le_refl _
  rcases h1 with h1|⟨D,r⟩
  ·exact .inl (by omega)
  ·by_cases F:n<=((bB' k s (k.commits k3 e s q b)).logs t).length
   ·exact .inl F
   ·refine .inr ⟨D,?_⟩;simp only[bB',Mod.Sk.forget,grown,List.mem_filter];refine⟨r,?_⟩;unfold Mod.keeps;by_cases z:t=s
    ·subst z;rw[fN']at F;simp;simp at F;omega
    ·simp[z]
theorem ke' (a:Mod.Sk) (s up:Nat) {i:Nat} (hi:i < 3):cP' a s up 3 / 2 ^ i % 2=1↔ (a.ix s (up+2+i)).isSome=true:=by
 simp only[cP'];obtain rfl|rfl|rfl:i=0\/i=1\/i=2:=by omega
 all_goals
  by_cases h0:(a.ix s (up+2+0)).isSome=true <;> by_cases h1:(a.ix s (up+2+1)).isSome=true <;> by_cases h2:(a.ix s (up+2+2)).isSome=true <;> simp only[h0,h1,h2] <;> simp
theorem md' {q c m:Nat}:∀n,m∈Mod.bitsOf q c n↔ ∃i,i < n/\m=q+2+i/\c / 2 ^ i % 2=1
 |0=>by simp[Mod.bitsOf]
 |n+1=>by
  simp only[Mod.bitsOf,List.mem_append];rw[md' n];constructor
  ·rintro(⟨i,h1,h2⟩|h)
   ·exact⟨i,by omega,h2⟩
   ·split at h
    ·rename_i r;rw[List.mem_singleton]at h;exact⟨n,by omega,h,r⟩
    ·cases h
  ·rintro⟨i,h1,h2,h3⟩;by_cases e:i=n
   ·subst e;refine .inr ?_;rw[if_pos h3,List.mem_singleton];exact h2
   ·exact .inl ⟨i,by omega,h2,h3⟩
theorem nL' {a:Mod.Sk} {s n:Nat}:(a.ix s n).isSome=true↔ ∃b,(s,n,b) ∈a.held:=by
 constructor
 ·intro h;cases hi:a.ix s n with
  |none=>rw[hi]at h;cases h
  |some i=>exact⟨_,gu' hi⟩
 ·rintro⟨b,r⟩;cases hi:a.ix s n with
  |none=>exact absurd r (dv' hi b)
  |some i=>rfl
theorem re' (a:Mod.Sk) (s up m:Nat):m∈Mod.bitsOf up ((ackBody a s up).data.toList.getD 0 0).toNat 3↔ (up+2<=m/\m<=up+4)/\∃b,(s,m,b) ∈a.held:=by
 have r:=kQ' a s up;have e:((ackBody a s up).data.toList.getD 0 0).toNat=cP' a s up 3:=by simp[ackBody,UInt8.toNat_ofNat'];omega
 rw[e,md'];constructor
 ·rintro⟨i,h1,rfl,h3⟩;exact⟨by omega,nL'.1 ((ke' a s up h1).1 h3)⟩
 ·rintro⟨h1,h2⟩;refine⟨m - (up+2),by omega,by omega,(ke' a s up (by omega)).2 ?_⟩;rw[show up+2+(m - (up+2))=m by omega];exact nL'.2 h2
structure RdV where
 lost:Nat
 sent:Nat
 before:Bool
def thr (r:RdV):RdV:={lost:=r.lost,sent:=r.sent+1,before:= !r.before&&decide (r.lost / 2 ^ ((r.sent+1) % 64) % 2=1)}
structure Ph where
 a:Mod.Ag
 s:Mod.Sk
 x:RdV
 y:RdV
def by' (st:Ph) (f:List UInt8):Ph:=if(thr st.y).before=true then {st with y:=thr st.y}else {st with y:=thr st.y,a:=(aB' st.a f).2}
def aX' (st:Ph) (l:List UInt8):Ph:=
 if(thr st.x).before=true then {st with x:=thr st.x}else((am' st.s l).2.2.map (·.data.toList)).foldl by' {st with x:=thr st.x,s:=(am' st.s l).2.1}
def aY' (st:Ph):Ph:=st.a.tick.2.foldl aX' {st with a:=st.a.tick.1}
structure PhI (b:Nat) (T:Nat->List ByteArray) (st:Ph):Prop where
 ag:AgI b T st.s.logs st.s.epoch st.a
 sk:SkI T st.s
 more:aR' st.s
 snt:∀s,s < 3->∀x∈ (st.a.fl s).kept,x.2<=st.a.ticks
 tot:(T 0).length+(T 1).length+(T 2).length<=100
def Snt (a:Mod.Ag):Prop:=∀s,s < 3->∀x∈ (a.fl s).kept,x.2<=a.ticks
theorem rf' {a:Mod.Ag} (h:Snt a) (k e st q:Int) (b:ByteArray):Snt (a.deliver k e st q b):=by
 have hd:Snt (a.drop (a.says k e st q b)):=fun s hs x r=>by simp only[Mod.Ag.drop,Mod.dropTo,if_pos hs,Mod.Flow.drop]at r;exact h s hs x (List.mem_of_mem_drop r)
 unfold Mod.Ag.deliver;split
 ·exact h
 ·split
  ·exact h
  ·split
   ·exact h
   ·split
    ·intro s hs x r;simp only[Mod.fresh,if_pos hs]at r;obtain⟨y,_,rfl⟩:=List.mem_map.1 r;exact Nat.zero_le _
    ·split
     ·split
      ·exact h
      ·intro s hs x r;simp only[Mod.upd]at r;split at r
       ·rename_i z;rw[z]at hs;exact hd _ hs x r
       ·exact hd s hs x r
     ·exact h
theorem rg' {a:Mod.Ag} (h:Snt a) (l:List UInt8):Snt (aB' a l).2:=by
 unfold aB';split
 ·exact rf' h _ _ _ _ _
 ·exact h
theorem rh' {a:Mod.Ag} (h:Snt a):Snt a.tick.1:=by
 have z:∀s,s < 3->∀x∈ (a.fl s).kept,x.2<=a.ticks+1:=fun s hs x r=>by have:=h s hs x r;omega
 unfold Mod.Ag.tick;split
 ·exact z
 ·split
  ·exact z
  ·intro s hs x r;simp only[Mod.sendFl,if_pos hs]at r;obtain⟨y,D,_,h2⟩:=hi' _ _ _ _ _ x r;have:=z s hs y D;show x.2<=a.ticks+1;rcases h2 with h2|h2 <;> omega
section
variable {b:Nat} {T:Nat->List ByteArray} {st:Ph}
theorem vY' (r:PhI b T st) {f:List UInt8} (z:gf' st.s.logs st.a.epoch st.s.epoch f):PhI b T (by' st f)/\(by' st f).s=st.s/\(by' st f).x=st.x/\(by' st f).a.epoch=st.a.epoch:=by
 unfold by';split
 ·exact⟨⟨r.ag,r.sk,r.more,r.snt,r.tot⟩,rfl,rfl,rfl⟩
 ·obtain⟨_,k2,k3⟩:=r.ag.deliver z;exact⟨⟨k3,r.sk,r.more,rg' r.snt f,r.tot⟩,rfl,rfl,k2⟩
theorem tq':∀ (r:List (List UInt8)) {st:Ph},PhI b T st->(∀f∈r,gf' st.s.logs st.a.epoch st.s.epoch f)->PhI b T (r.foldl by' st)/\(r.foldl by' st).s=st.s/\(r.foldl by' st).x=st.x/\(r.foldl by' st).a.epoch=st.a.epoch
 |[],st,z,_=>⟨z,rfl,rfl,rfl⟩
 |f::r,st,z,D=>by obtain⟨k1,k2,k3,k4⟩:=vY' z (D f (.head _));obtain⟨g1,g2,F,G⟩:=tq' r k1 (fun f' H=>by rw[k2,k4];exact D f' (.tail _ H));exact⟨g1,g2.trans k2,F.trans k3,G.trans k4⟩
theorem kf' {T:Nat->List ByteArray} {k:Mod.Sk} (S:SkI T k) (h:(T 0).length+(T 1).length+(T 2).length<=100):k.count<=100:=by
 have h0:=(S.log 0 (by omega)).len;have h1:=(S.log 1 (by omega)).len;have h2:=(S.log 2 (by omega)).len;unfold Mod.Sk.count;omega
theorem oY' {a:Mod.Sk} (z:aw' a) (l:List UInt8):aw' (am' a l).2.1:=by
 cases r:Wire.reads l
 ·rw[eO' r];exact z
 ·obtain⟨k,e,s,q,b,h1,h2,h3,h4,h5,g1,g2,D,F⟩:=bK' r;rw[db' r h1 h2 h3 h4 h5];exact fc' z k e s q b g2 (by omega)
theorem ri' (r:PhI b T st) {l:List UInt8} (z:ge' T st.a.epoch l) (x:RdV):PhI b T {st with x:=x,s:=(am' st.s l).2.1}/\∀f∈ (am' st.s l).2.2.map (·.data.toList),gf' (am' st.s l).2.1.logs st.a.epoch (am' st.s l).2.1.epoch f:=by
 have D:=oY' r.sk.good l;obtain⟨k1,k2,k3,k4,k5,k6⟩:=r.sk.deliver r.ag.sep r.ag.good.ep z (.inr (.inr ⟨rfl,rfl,rfl,rfl,rfl⟩)) D;refine⟨⟨r.ag.sink k3 k4 k5,k2,fX' r.more l,r.snt,r.tot⟩,fun f F=>?_⟩;obtain⟨y,G,rfl⟩:=List.mem_map.1 F;exact k6 y G
theorem me' (r:PhI b T st) {l:List UInt8} (z:ge' T st.a.epoch l):PhI b T (aX' st l)/\(aX' st l).a.epoch=st.a.epoch:=by
 unfold aX';split
 ·exact⟨⟨r.ag,r.sk,r.more,r.snt,r.tot⟩,rfl⟩
 ·obtain⟨k1,k2⟩:=ri' r z (thr st.x);obtain⟨g1,_,_,D⟩:=tq' _ k1 k2;exact⟨g1,D⟩
theorem tr':∀ (L:List (List UInt8)) {st:Ph},PhI b T st->(∀l∈L,ge' T st.a.epoch l)->PhI b T (L.foldl aX' st)/\(L.foldl aX' st).a.epoch=st.a.epoch
 |[],st,r,_=>⟨r,rfl⟩
 |l::L,st,r,z=>by obtain⟨k1,k2⟩:=me' r (z l (.head _));obtain⟨g1,g2⟩:=tr' L k1 (fun D hl=>by rw[k2];exact z D (.tail _ hl));exact⟨g1,g2.trans k2⟩
theorem nM' (r:PhI b T st) (z:b+2<=2147483647):PhI (b+1) T {st with a:=st.a.tick.1}/\∀l∈st.a.tick.2,ge' T st.a.tick.1.epoch l:=by
 obtain⟨k1,k2⟩:=r.ag.tick z;refine⟨⟨k1,r.sk,r.more,rh' r.snt,r.tot⟩,fun l hl=>?_⟩;rw[(cg' st.a).1];exact k2 l hl
theorem mf' (r:PhI b T st) (z:b+2<=2147483647):PhI (b+1) T (aY' st):=by
 obtain⟨k1,k2⟩:=nM' r z;exact(tr' _ k1 k2).1
end
theorem vZ' {a:Mod.Ag} {s u:Nat} {bd:ByteArray} (hs:s < 3) (z:a.welcome=true) (h1:(a.fl s).base<=u) (h2:u<=(a.fl s).base+(a.fl s).kept.length):
  ((a.deliver 4 a.epoch s u bd).fl s)={base:=u,kept:=(a.fl s).kept.drop (u - (a.fl s).base),held:=Mod.bitsOf u (bd.data.toList.getD 0 0).toNat 3}/\(∀t,t≠s->(a.deliver 4 a.epoch s u bd).fl t=a.fl t)/\(a.deliver 4 a.epoch s u bd).welcome=true/\(a.deliver 4 a.epoch s u bd).ticks=a.ticks:=by
 have D:a.ackSeq s u=u:=by unfold Mod.Ag.ackSeq;rw[Int.toNat_natCast];omega
 have F:a.says 4 a.epoch s u bd s=u - (a.fl s).base:=by unfold Mod.Ag.says;rw[if_neg (by simp),if_neg (by decide),if_pos ⟨rfl,rfl,z⟩];unfold Mod.Ag.gone;omega
 have G:∀t,t≠s->a.says 4 a.epoch s u bd t=0:=fun t r=>by unfold Mod.Ag.says;rw[if_neg (by simp),if_neg (by decide),if_neg (fun h=>r (by have:=h.2.1;omega))]
 have hd:a.deliver 4 a.epoch s u bd={a.drop (a.says 4 a.epoch s u bd)with fl:=Mod.upd (a.drop (a.says 4 a.epoch s u bd)).fl s {(a.drop (a.says 4 a.epoch s u bd)).fl s with held:=Mod.bitsOf u (bd.data.toList.getD 0 0).toNat 3}}:=by
  unfold Mod.Ag.deliver;rw[if_neg (fun h=>by have:=h.1;omega),if_neg (by simp),if_neg (by decide),if_neg (by decide),if_pos rfl,if_neg (by
   rw[Int.toNat_natCast,D,z];rintro(h|h)
   ·cases h
   ·omega)]
  rw[Int.toNat_natCast,D]
 rw[hd];refine⟨?_,fun t r=>?_,z,rfl⟩
 ·simp only[Mod.upd,if_true,Mod.Ag.drop,Mod.dropTo,if_pos hs,Mod.Flow.drop,F];rw[show(a.fl s).base+(u - (a.fl s).base)=u by omega]
 ·simp only[Mod.upd,if_neg r,Mod.Ag.drop,Mod.dropTo,Mod.Flow.drop,G t r];split <;> simp
theorem xJ' {f:Mod.Flow} {s u:Nat} {k:Mod.Sk} (hs:s < 3) (hu:u=(k.logs s).length) (h1:f.base<=u) (h2:u<=f.base+f.kept.length) (Q:aw' k) (U:aR' k) (V:k.count < 120):
  mu1 {base:=u,kept:=f.kept.drop (u - f.base),held:=Mod.bitsOf u ((ackBody k s u).data.toList.getD 0 0).toNat 3} s k<=mu1 f s k/\
  ((f.base < u\/∃j,j < f.kept.length/\dq' f j=true/\(u+2<=f.base+1+j/\f.base+1+j<=u+4)/\∃b,(s,f.base+1+j,b) ∈k.held)->
   mu1 {base:=u,kept:=f.kept.drop (u - f.base),held:=Mod.bitsOf u ((ackBody k s u).data.toList.getD 0 0).toNat 3} s k+1<=mu1 f s k):=by
 obtain⟨f',r⟩:∃f',f'=({base:=u,kept:=f.kept.drop (u - f.base),held:=Mod.bitsOf u ((ackBody k s u).data.toList.getD 0 0).toNat 3}:Mod.Flow):=⟨_,rfl⟩;rw[<-r];have X:f'.base=u:=by rw[r]
 have D:f'.kept.length=f.kept.length - (u - f.base):=by rw[r];simp
 have z:∀m,m∈f'.held↔ (u+2<=m/\m<=u+4)/\∃b,(s,m,b) ∈k.held:=fun m=>by rw[r];exact re' k s u m
 clear r;have Y:cF' f' s k=true:=jD'.2 (fun n Z=> .inr ((z n).1 Z).2);have aa:mu1 f' s k=f'.kept.length+hH' (dq' f') f'.kept.length:=by unfold mu1;rw[if_pos Y]
 have F:∀i,dq' f' i=false↔ (u+1+i) ∈f'.held:=fun i=>by unfold dq';rw[X];simp
 have ab:∀i,dq' f i=false↔ (f.base+1+i) ∈f.held:=fun i=>by unfold dq';simp
 have ak:=gy' (dq' f') f'.kept.length;have ao:=gy' (dq' f) f.kept.length;rw[aa];by_cases G:cF' f s k=true
 ·have H:mu1 f s k=f.kept.length+hH' (dq' f) f.kept.length:=by unfold mu1;rw[if_pos G]
  have M:∀i,dq' f' i=true->dq' f (i+(u - f.base))=true:=fun i hi=>by
   cases ac:dq' f (i+(u - f.base))with
   |true=>rfl
   |false=>
    have h3:=(ab _).1 ac;rw[show f.base+1+(i+(u - f.base))=u+1+i by omega]at h3;rcases jD'.1 G _ h3 with h4|⟨b,h4⟩
    ·omega
    ·have h5:=(Q.held _ h4).2;have ap:u+1+i≠u+1:=fun e=>U.nxt V s hs b (by rw[<-hu,<-e];exact h4);simp only at h5;rw[<-hu]at h5;have ad:=(F i).2 ((z _).2 ⟨by omega,b,h4⟩);rw[ad]at hi;cases hi
  have ah:=hI' (dq' f') (dq' f) (u - f.base) f'.kept.length (fun i _ h=>M i h);rw[D,show f.kept.length - (u - f.base)+(u - f.base)=f.kept.length by omega]at ah;rw[H,D];refine⟨by omega,?_⟩;rintro(h|⟨j,I,O,ai,J⟩)
  ·omega
  ·by_cases aj:f.base < u
   ·omega
   ·have hd:u - f.base=0:=by omega
    have hl:=jC' (dq' f') (dq' f) j f.kept.length I (fun i _ h=>by have:=M i h;rwa [hd]at this) O ((F j).2 ((z _).2 ⟨by omega,by rw[show u+1+j=f.base+1+j by omega];exact J⟩));rw[hd,Nat.sub_zero];omega
 ·have H:mu1 f s k=f.kept.length+f.kept.length:=by unfold mu1;rw[if_neg G]
  rw[H];refine⟨by omega,?_⟩;rintro(h|⟨j,I,O,ai,J⟩)
  ·omega
  ·by_cases aj:f.base < u
   ·omega
   ·have hd:u - f.base=0:=by omega
    have hl:=jC' (dq' f') (fun _=>true) j f.kept.length I (fun i _ h=>rfl) rfl ((F j).2 ((z _).2 ⟨by omega,by rw[show u+1+j=f.base+1+j by omega];exact J⟩));have aq:=gy' (fun _=>true) f.kept.length;rw[D,hd,Nat.sub_zero];omega
def muP (st:Ph):Nat:=mu1 (st.a.fl 0) 0 st.s+mu1 (st.a.fl 1) 1 st.s+mu1 (st.a.fl 2) 2 st.s
def nxR (r:RdV):Nat:=if r.before=true then 1 else 2
def ddP (st:Ph):Nat:=nxR st.x+2 * (nxR st.y - 1)
theorem jE' (r:RdV):1<=nxR r/\nxR r<=2:=by unfold nxR;split <;> omega
theorem iU' {r:RdV} (h:(thr r).before=true):nxR r=2/\nxR (thr r)=1:=by
 have h2:=h;unfold thr at h;simp only[Bool.and_eq_true,Bool.not_eq_true']at h;unfold nxR;rw[if_neg (by rw[h.1];decide),if_pos h2];exact⟨rfl,rfl⟩
theorem ts' {r:RdV} (h:¬ (thr r).before=true):nxR (thr r)=2:=by
 unfold nxR;rw[if_neg h]
theorem wa' {st:Ph} {k:Mod.Sk} (x y:RdV) (h:∀f t,cF' f t st.s=true->cF' f t k=true):muP {a:=st.a,s:=k,x:=x,y:=y}<=muP st:=by
 have h0:=mc' (f:=st.a.fl 0) (s:=0) (k:=st.s) (k':=k) (h _ _);have h1:=mc' (f:=st.a.fl 1) (s:=1) (k:=st.s) (k':=k) (h _ _);have h2:=mc' (f:=st.a.fl 2) (s:=2) (k:=st.s) (k':=k) (h _ _);unfold muP;simp only
 omega
def rj' (T:Nat->List ByteArray) (e:Nat) (l:List UInt8) (s q:Nat) (b:ByteArray):Prop:=s < 3/\eR' T s q b/\q<=2147483647/\b.size<=20/\l=Wire.bytes 3 e s q b.data.toList
theorem na' {a:Mod.Sk} {e:Int} {s q:Nat} {b:ByteArray} (r:e=a.epoch) (z:q=(a.logs s).length+1) (D:a.count < 120):a.commits 3 e s q b≠ []:=by
 unfold Mod.Sk.commits;rw[if_neg (by
  rintro(h|h|h)
  ·exact h rfl
  ·exact h r
  ·apply h;rw[z,Int.toNat_natCast];omega),if_neg (by omega)]
 exact ex' (by simp)
theorem rk' {k:Mod.Sk} {e:Int} {s q:Nat} {b:ByteArray} (z:e=k.epoch) (D:k.count < 120) (h1:(k.logs s).length+1<=q) (h2:q<=(k.logs s).length+4):
  (k.logs s).length < ((ak' k 3 e s q b).logs s).length\/((k.logs s).length+2<=q/\∃F,(s,q,F) ∈ (ak' k 3 e s q b).held):=by
 unfold ak';split
 ·rename_i r;have H:q≠(k.logs s).length+1:=fun h=>na' z h D r;refine .inr ⟨by omega,?_⟩;unfold bA';split
  ·exact⟨b,List.mem_append_right _ (.head _)⟩
  ·rename_i G;cases hi:k.ix s q with
   |none=>exact absurd ⟨by omega,by omega,hi⟩ G
   |some i=>exact⟨_,gu' hi⟩
 ·rename_i r;refine .inl ?_;rw[fN',List.length_append];have:0 < (k.commits 3 e s q b).length:=List.length_pos_iff.2 r;omega
section
variable {b:Nat} {T:Nat->List ByteArray} {st:Ph} {l:List UInt8} {s q:Nat} {bd:ByteArray}
theorem mg' (r:PhI b T st) (G:st.a.welcome=true) (ac:rj' T st.a.epoch l s q bd):
  (aX' st l).a.welcome=true/\muP (aX' st l)<=muP st/\
   (((aX' st l).a=st.a/\ddP (aX' st l)+1<=ddP st)\/((∃j,q=(st.a.fl s).base+1+j/\j < 4/\j < (st.a.fl s).kept.length/\dq' (st.a.fl s) j=true)->muP (aX' st l)+1<=muP st)):=by
 obtain⟨hs,M,ad,ah,rfl⟩:=ac;have H:st.s.epoch=st.a.epoch:=r.ag.wel G;have ai:=r.ag.good.ep;have aj:Wire.proper 3 st.a.epoch s q bd=true:=by have:=M.1;simp[Wire.proper,Wire.isNum,Wire.isStr];omega
 have aD:=jE' st.x;have aE:=jE' st.y;have Q:am' st.s (Wire.bytes 3 st.a.epoch s q bd.data.toList)=(0,ak' st.s 3 st.a.epoch s q bd,[ih' st.s 3 st.a.epoch s q bd]):=by rw[iM' st.s aj];unfold bI';rw[if_neg (by decide),if_pos rfl,if_pos (by rw[H])]
 unfold aX';by_cases I:(thr st.x).before=true
 ·rw[if_pos I];obtain⟨k1,k2⟩:=iU' I;refine⟨G,Nat.le_refl _, .inl ⟨rfl,?_⟩⟩;unfold ddP;simp only[k1,k2];omega
 ·rw[if_neg I,Q];have k1:=ts' I;simp only[List.map_cons,List.map_nil,List.foldl_cons,List.foldl_nil];have J:=wa' (st:=st) (k:=ak' st.s 3 st.a.epoch s q bd) (thr st.x) (thr st.y) (fun f t h=>mZ' 3 _ h);unfold by';by_cases O:(thr st.y).before=true
  ·rw[if_pos O];obtain⟨k3,k4⟩:=iU' O;refine⟨G,J, .inl ⟨rfl,?_⟩⟩;unfold ddP;simp only[k1,k3,k4];omega
  ·rw[if_neg O]
   -- the sink behind it
   have ak:ge' T st.a.epoch (Wire.bytes 3 st.a.epoch s q bd.data.toList):=jB' M hs (Nat.le_refl _) ai ad ah;obtain⟨D,_⟩:=ri' r ak (thr st.x);rw[Q]at D;have aF:=kf' r.sk r.tot;obtain⟨g0,g1,_⟩:=iS' r.sk 3 st.a.epoch hs M;have U:=lW' st.s 3 st.a.epoch s q bd;obtain⟨K,hK⟩:∃K,K=ak' st.s 3 st.a.epoch s q bd:=⟨_,rfl⟩;have V:=fun h1 h2=>rk' (k:=st.s) (e:=st.a.epoch) (s:=s) (q:=q) (b:=bd) (by rw[H]) (by omega) h1 h2;have ao:(ih' st.s 3 st.a.epoch s q bd).data.toList=Wire.bytes 4 st.a.epoch s (K.logs s).length (ackBody K s (K.logs s).length).data.toList:=by rw[hK,<-H];simp[ih']
   rw[<-hK]at g0 g1 U V J D ⊢;have F:SkI T K:=D.sk;have ap:aR' K:=D.more;have X:AgI b T K.logs K.epoch st.a:=D.ag;have aG:=kf' F r.tot;have aH:=fm' F.good s hs;have aq:Wire.proper 4 st.a.epoch s (K.logs s).length (ackBody K s (K.logs s).length)=true:=by have:=gV' (a:=K) (s:=s) (up:=(K.logs s).length) F.good.ep hs (by omega);rwa [U,H]at this
   have hd:(aB' st.a (ih' st.s 3 st.a.epoch s q bd).data.toList).2=st.a.deliver 4 st.a.epoch s (K.logs s).length (ackBody K s (K.logs s).length):=by rw[ao,iL' st.a aq]
   rw[hd];have Y:=X.base s hs;have au:=X.kept s hs;have av:=congrArg List.length au.2;rw[vR',List.length_drop]at av;have aI:=(F.log s hs).len;obtain⟨a1,z,a3,a4⟩:=vZ' (a:=st.a) (s:=s) (u:=(K.logs s).length) (bd:=ackBody K s (K.logs s).length) hs G Y (by omega);obtain⟨Z,aa⟩:=xJ' (f:=st.a.fl s) (s:=s) (u:=(K.logs s).length) (k:=K) hs rfl Y (by omega) F.good ap (by omega);rw[<-a1]at Z aa;have ab:∀d,mu1 ((st.a.deliver 4 st.a.epoch s (K.logs s).length (ackBody K s (K.logs s).length)).fl s) s K+d<=mu1 (st.a.fl s) s K->
     muP {a:=st.a.deliver 4 st.a.epoch s (K.logs s).length (ackBody K s (K.logs s).length),s:=K,x:=thr st.x,y:=thr st.y}+d<=muP {a:=st.a,s:=K,x:=thr st.x,y:=thr st.y}:=fun d h=>by
    unfold muP;simp only
    obtain rfl|rfl|rfl:s=0\/s=1\/s=2:=by omega
    ·rw[z 1 (by decide),z 2 (by decide)];omega
    ·rw[z 0 (by decide),z 2 (by decide)];omega
    ·rw[z 0 (by decide),z 1 (by decide)];omega
   have s0:=ab 0 Z;refine⟨a3,by simp only at s0 J ⊢;omega, .inr ?_⟩;rintro⟨j,ax,aJ,ay,az⟩;have aK:=r.ag.base s hs;have aL:=g1 s;have s1:=ab 1 (aa (by
    by_cases aA:(st.a.fl s).base < (K.logs s).length
    ·exact .inl aA
    ·rcases V (by omega) (by omega)with h|⟨h,aB,aC⟩
     ·omega
     ·exact .inr ⟨j,ay,az,by omega,aB,by rw[<-ax];exact aC⟩))
   simp only at s1 J ⊢;omega
end
def FrD (T:Nat->List ByteArray) (a:Mod.Ag) (l:List UInt8):Prop:=∃s q bd,rj' T a.epoch l s q bd/\∃j,q=(a.fl s).base+1+j/\j < 4/\j < (a.fl s).kept.length/\dq' (a.fl s) j=true
theorem rj'.up {T:Nat->List ByteArray} {e:Nat} {l:List UInt8} {s q:Nat} {b:ByteArray} (r:rj' T e l s q b) (z:e<=2147483647):ge' T e l:=by
 obtain⟨h1,h2,h3,h4,rfl⟩:=r;exact jB' h2 h1 (Nat.le_refl _) z h3 h4
section
variable {b:Nat} {T:Nat->List ByteArray}
theorem nN':∀ (L:List (List UInt8)) {st:Ph},PhI b T st->st.a.welcome=true->(∀l∈L,∃s q bd,rj' T st.a.epoch l s q bd)->(L.foldl aX' st).a.welcome=true/\muP (L.foldl aX' st)<=muP st
 |[],st,r,z,_=>⟨z,Nat.le_refl _⟩
 |l::L,st,r,z,D=>by obtain⟨s,q,bd,F⟩:=D l (.head _);obtain⟨k1,k2,_⟩:=mg' r z F;obtain⟨G,H⟩:=me' r (F.up r.ag.good.ep);obtain⟨g1,g2⟩:=nN' L G k1 (fun I hl=>by rw[H];exact D I (.tail _ hl));exact⟨g1,Nat.le_trans g2 k2⟩
theorem mh':∀ (L:List (List UInt8)) {st:Ph},PhI b T st->st.a.welcome=true->(∀l∈L,FrD T st.a l)->(L.foldl aX' st).a.welcome=true/\muP (L.foldl aX' st)<=muP st/\
   (((L.foldl aX' st).a=st.a/\ddP (L.foldl aX' st)+L.length<=ddP st)\/muP (L.foldl aX' st)+1<=muP st)
 |[],st,r,D,_=>⟨D,Nat.le_refl _, .inl ⟨rfl,Nat.le_refl _⟩⟩
 |l::L,st,r,D,F=>by
  obtain⟨s,q,bd,H,hj⟩:=F l (.head _);obtain⟨k1,k2,k3⟩:=mg' r D H;obtain⟨I,J⟩:=me' r (H.up r.ag.good.ep);rcases k3 with ⟨k3,k4⟩|k3
  ·obtain⟨g1,g2,z⟩:=mh' L I k1 (fun G hl=>by rw[k3];exact F G (.tail _ hl));refine⟨g1,Nat.le_trans g2 k2,?_⟩;rcases z with ⟨z,U⟩|z
   ·refine .inl ⟨z.trans k3,?_⟩;simp only[List.foldl_cons,List.length_cons];omega
   ·refine .inr ?_;simp only[List.foldl_cons];omega
  ·have k5:=k3 hj;obtain⟨g1,g2⟩:=nN' L I k1 (fun G hl=>by obtain⟨s',M,O,Q,_⟩:=F G (.tail _ hl);exact⟨s',M,O,by rw[J];exact Q⟩);refine⟨g1,Nat.le_trans g2 k2, .inr ?_⟩;simp only[List.foldl_cons];omega
theorem kg' (e s:Nat) (f:Mod.Flow) (t:Nat):∀i,∀l∈ (Mod.sendTo e s f t i).2,∃j x,j < i/\f.kept[j]? =some x/\Mod.due f t j x.2=true/\l=Wire.bytes 3 e s (f.base+1+j:Nat) x.1.data.toList
 |0,l,h=>by simp[Mod.sendTo]at h
 |i+1,l,h=>by
  have r:l∈ (Mod.sendTo e s f t i).2->∃j x,j < i+1/\f.kept[j]? =some x/\Mod.due f t j x.2=true/\l=Wire.bytes 3 e s (f.base+1+j:Nat) x.1.data.toList:=fun h=>by obtain⟨j,x,h1,h2⟩:=kg' e s f t i l h;exact⟨j,x,by omega,h2⟩
  simp only[Mod.sendTo]at h;cases z:f.kept[i]? with
  |none=>rw[z]at h;exact r h
  |some x=>
   rw[z]at h;simp only at h;split at h
   ·rename_i D;rcases List.mem_append.1 h with h|h
    ·exact r h
    ·rw[List.mem_singleton]at h;exact⟨i,x,by omega,z,D,h⟩
   ·exact r h
theorem nO' (e s:Nat) (f:Mod.Flow) (t:Nat) {j:Nat} {x:ByteArray×Nat} (r:f.kept[j]? =some x) (hd:Mod.due f t j x.2=true):∀i,j < i->(Mod.sendTo e s f t i).2≠ []
 |0,h=>by omega
 |i+1,h=>by
  simp only[Mod.sendTo];by_cases z:j=i
  ·subst z;rw[r];simp only
   rw[if_pos hd];simp
  ·have:=nO' e s f t r hd i (by omega);cases f.kept[i]? with
   |none=>exact this
   |some y=>
    simp only
    split
    ·simp
    ·exact this
theorem kh' (e s:Nat) (f:Mod.Flow) (t:Nat) {x:ByteArray×Nat} (r:f.kept[0]? =some x) (hd:Mod.due f t 0 x.2=false):∀i,(Mod.sendTo e s f t i).1[0]? =some x
 |0=>r
 |i+1=>by
  have h:=kh' e s f t r hd i;simp only[Mod.sendTo];by_cases z:i=0
  ·subst z;rw[r];simp only
   rw[if_neg (by rw[hd];decide)];exact h
  ·cases f.kept[i]? with
   |none=>exact h
   |some y=>
    simp only
    split
    ·show((Mod.sendTo e s f t i).1.set i (y.1,t))[0]? =some x;rw[List.getElem?_set_ne z];exact h
    ·exact h
theorem ki' (e t:Nat) (f:Nat->Mod.Flow):∀n,Mod.sendOut e t f n=[]->∀s,s < n->(Mod.sendTo e s (f s) t 4).2=[]
 |0,_,s,hs=>by omega
 |n+1,h,s,hs=>by
  simp only[Mod.sendOut]at h;obtain⟨h1,h2⟩:=List.append_eq_nil_iff.1 h;by_cases r:s=n
  ·rw[r];exact h2
  ·exact ki' e t f n h1 s (by omega)
theorem fn' (e t:Nat) (f:Nat->Mod.Flow):∀n,∀l∈Mod.sendOut e t f n,∃s j x,s < n/\j < 4/\(f s).kept[j]? =some x/\Mod.due (f s) t j x.2=true/\l=Wire.bytes 3 e s ((f s).base+1+j:Nat) x.1.data.toList
 |0,l,h=>by simp[Mod.sendOut]at h
 |n+1,l,h=>by
  simp only[Mod.sendOut]at h;rcases List.mem_append.1 h with h|h
  ·obtain⟨s,j,x,h1,h2⟩:=fn' e t f n l h;exact⟨s,j,x,by omega,h2⟩
  ·obtain⟨j,x,h1,h2,h3⟩:=kg' _ _ _ _ _ l h;exact⟨n,j,x,by omega,h1,h2,h3⟩
theorem wb' {f f':Mod.Flow} (s:Nat) (k:Mod.Sk) (h1:f'.base=f.base) (h2:f'.held=f.held) (h3:f'.kept.length=f.kept.length):mu1 f' s k=mu1 f s k:=by
 have r:dq' f'=dq' f:=by funext i;unfold dq';rw[h1,h2]
 have z:cF' f' s k=cF' f s k:=by unfold cF';rw[h2]
 unfold mu1;rw[r,z,h3]
def wtF (f:Mod.Flow) (t:Nat):Nat:=match f.kept with
 |[]=>0
 |x:: _=>x.2+4 - (t+1)
def wtP (st:Ph):Nat:=if(st.a.fl 0).kept.isEmpty=false then wtF (st.a.fl 0) st.a.ticks else if(st.a.fl 1).kept.isEmpty=false then wtF (st.a.fl 1) st.a.ticks else wtF (st.a.fl 2) st.a.ticks
def ft' (st:Ph):Nat:=if st.a.welcome=true then 20 * muP st+4 * ddP st+wtP st else 980+ddP st
def iV' (st:Ph):Prop:=st.a.welcome=true/\∀s,s < 3->(st.a.fl s).kept=[]
theorem rl' (st:Ph):1<=ddP st/\ddP st<=4:=by
 have h1:=jE' st.x;have h2:=jE' st.y;unfold ddP;omega
theorem wc' {f:Mod.Flow} {t:Nat} (h:∀x∈f.kept,x.2<=t):wtF f t<=3:=by
 unfold wtF;split
 ·omega
 ·rename_i x z r;have:=h x (by rw[r];exact .head _);omega
theorem wd' {st:Ph} (h:Snt st.a):wtP st<=3:=by
 have h0:=wc' (h 0 (by omega));have h1:=wc' (h 1 (by omega));have h2:=wc' (h 2 (by omega));unfold wtP;split
 ·exact h0
 ·split
  ·exact h1
  ·exact h2
variable {st:Ph}
theorem we' (r:PhI b T st):muP st<=48:=by
 have h0:=sD' (st.a.fl 0) 0 st.s;have h1:=sD' (st.a.fl 1) 1 st.s;have h2:=sD' (st.a.fl 2) 2 st.s;have z:=r.ag.room;unfold Mod.Ag.room at z;unfold muP;omega
theorem wf':muP {st with a:=st.a.tick.1}=muP st:=by
 have h:=fun s=>wb' (f:=st.a.fl s) (f':=st.a.tick.1.fl s) s st.s (cL' st.a s).1 ((cg' st.a).2.2.2 s) (by have:=congrArg List.length (cL' st.a s).2;simpa using this);unfold muP;simp only[h]
theorem oZ' {a:Mod.Ag} (r:a.fenced=false) (z:a.welcome=true):a.tick.2=Mod.sendOut a.epoch (a.ticks+1) a.fl 3/\∀s,s < 3->(a.tick.1.fl s).kept=(Mod.sendTo a.epoch s (a.fl s) (a.ticks+1) 4).1:=by
 unfold Mod.Ag.tick;rw[if_neg (by rw[r];decide),if_neg (by rw[z];decide)];exact⟨rfl,fun s hs=>by simp only[Mod.sendFl,if_pos hs]⟩
theorem sE' (a:Mod.Ag):a.tick.1.ticks=a.ticks+1:=by
 unfold Mod.Ag.tick;split
 ·rfl
 ·split <;> rfl
theorem sF' (r:PhI b T st) (D:st.a.welcome=true):∀l∈st.a.tick.2,FrD T st.a.tick.1 l:=by
 intro l hl;rw[(oZ' r.ag.fen D).1]at hl;obtain⟨s,j,x,hs,hj,z,hd,rfl⟩:=fn' _ _ _ _ l hl;obtain⟨F,_,_,t4⟩:=cg' st.a;have t5:=cL' st.a s;have G:(st.a.tick.1.fl s).kept.length=(st.a.fl s).kept.length:=by have:=congrArg List.length t5.2;simpa using this
 have h1:=r.ag.at_ hs z;have h2:=r.ag.good.bod s hs x (List.mem_of_getElem? z);have h3:=(List.getElem?_eq_some_iff.1 z).1;have h4:=(List.getElem?_eq_some_iff.1 h1).1;have h5:=r.tot;have H:(T s).length<=100:=by
  obtain rfl|rfl|rfl:s=0\/s=1\/s=2:=by omega
  all_goals omega
 refine⟨s,(st.a.fl s).base+1+j,x.1,⟨hs,⟨by omega,by rw[show(st.a.fl s).base+1+j - 1=(st.a.fl s).base+j by omega];exact h1⟩,by omega,h2.1,by rw[F]⟩,j,by rw[t5.1],hj,by omega,?_⟩;unfold dq';rw[t5.1,t4 s];unfold Mod.due at hd;rw[Bool.and_eq_true]at hd;exact hd.1
theorem jF' (D:PhI b T st) (J:st.a.welcome=true) (F:st.a.tick.2=[]) {s:Nat} (hs:s < 3) (G:(st.a.fl s).kept.isEmpty=false):wtF (st.a.tick.1.fl s) st.a.tick.1.ticks+1<=wtF (st.a.fl s) st.a.ticks:=by
 obtain⟨M,O⟩:=oZ' D.ag.fen J;rw[M]at F;have h1:=ki' _ _ _ 3 F s hs;cases z:(st.a.fl s).kept with
 |nil=>rw[z]at G;cases G
 |cons x X=>
  have H:(st.a.fl s).kept[0]? =some x:=by rw[z];rfl
  have hd:Mod.due (st.a.fl s) (st.a.ticks+1) 0 x.2=false:=by
   cases h:Mod.due (st.a.fl s) (st.a.ticks+1) 0 x.2 with
   |false=>rfl
   |true=>exact absurd h1 (nO' _ _ _ _ H h 4 (by omega))
  have r:=kh' st.a.epoch s (st.a.fl s) (st.a.ticks+1) H hd 4;rw[<-O s hs]at r;have Q:(st.a.fl s).held.contains ((st.a.fl s).base+1+0)=false:=by
   cases h:(st.a.fl s).held.contains ((st.a.fl s).base+1+0)with
   |false=>rfl
   |true=>have:=(D.ag.hld s hs _ (List.contains_iff_mem.1 h)).1;omega
  unfold Mod.due at hd;rw[Q]at hd;simp at hd;have U:wtF (st.a.fl s) st.a.ticks=x.2+4 - (st.a.ticks+1):=by unfold wtF;rw[z]
  have V:wtF (st.a.tick.1.fl s) st.a.tick.1.ticks=x.2+4 - (st.a.tick.1.ticks+1):=by
   unfold wtF;cases I:(st.a.tick.1.fl s).kept with
   |nil=>rw[I]at r;cases r
   |cons y Y=>rw[I]at r;injection r with r;rw[r]
  rw[U,V,sE'];omega
theorem mi' (a:Mod.Ag) (s:Nat):(a.tick.1.fl s).kept.isEmpty=(a.fl s).kept.isEmpty:=by
 have:=congrArg List.length (cL' a s).2;simp only[List.length_map]at this;cases h1:(a.tick.1.fl s).kept <;> cases h2:(a.fl s).kept <;> rw[h1,h2]at this <;> simp at this <;> rfl
theorem sG' (F:PhI b T st) (h:iV' st):iV' (aY' st):=by
 obtain⟨I,J,G,M⟩:=cg' st.a;obtain⟨r,z⟩:=h;have H:st.a.tick.2=[]:=by rw[(oZ' F.ag.fen r).1];apply List.eq_nil_iff_forall_not_mem.2;intro l hl;obtain⟨s,j,x,hs,_,D,_⟩:=fn' _ _ _ _ l hl;rw[z s hs]at D;cases D
 unfold aY';rw[H];refine⟨by show st.a.tick.1.welcome=true;rw[G];exact r,fun s hs=>?_⟩;have:=mi' st.a s;rw[z s hs]at this;exact List.isEmpty_iff.1 this
theorem ut' (z:PhI b T st) (I:b+2<=2147483647) (J:¬iV' st) (r:st.a.welcome=true):ft' (aY' st)+1<=ft' st:=by
 obtain⟨M,ad⟩:=nM' z I;obtain⟨ah,ai,O,aj⟩:=cg' st.a;have Q:=mf' z I;have U:ft' st=20 * muP st+4 * ddP st+wtP st:=by unfold ft';rw[if_pos r]
 have V:({st with a:=st.a.tick.1}:Ph).a.welcome=true:=by show st.a.tick.1.welcome=true;rw[O];exact r
 obtain⟨g1,g2,D⟩:=mh' st.a.tick.2 M V (sF' z r);have X:muP {st with a:=st.a.tick.1}=muP st:=wf';rw[X]at g2 D;have Y:ddP {st with a:=st.a.tick.1}=ddP st:=rfl;rw[Y]at D;replace g1:(aY' st).a.welcome=true:=g1;have Z:ft' (aY' st)=20 * muP (aY' st)+4 * ddP (aY' st)+wtP (aY' st):=by unfold ft';rw[if_pos g1]
 have h3:=wd' Q.snt;have h4:=rl' (aY' st);have ak:=rl' st;rw[U,Z];change muP (aY' st)<=muP st at g2;rcases D with ⟨D,aa⟩|D
 ·change ddP (aY' st)+ _<= _ at aa;by_cases H:st.a.tick.2=[]
  ·have ab:aY' st={st with a:=st.a.tick.1}:=by unfold aY';rw[H];rfl
   have ao:wtP (aY' st)+1<=wtP st:=by
    rw[ab];unfold wtP;simp only[mi'];by_cases F:(st.a.fl 0).kept.isEmpty=false
    ·rw[if_pos F,if_pos F];exact jF' z r H (by omega) F
    ·rw[if_neg F,if_neg F];by_cases G:(st.a.fl 1).kept.isEmpty=false
     ·rw[if_pos G,if_pos G];exact jF' z r H (by omega) G
     ·rw[if_neg G,if_neg G];refine jF' z r H (by omega) ?_;cases ac:(st.a.fl 2).kept.isEmpty with
      |false=>rfl
      |true=>
       exact absurd ⟨r,fun s hs=>by
        obtain rfl|rfl|rfl:s=0\/s=1\/s=2:=by omega
        ·exact List.isEmpty_iff.1 (by simpa using F)
        ·exact List.isEmpty_iff.1 (by simpa using G)
        ·exact List.isEmpty_iff.1 ac⟩ J
   omega
  ·have hl:0 < st.a.tick.2.length:=List.length_pos_iff.2 H;omega
 ·change muP (aY' st)+1<=muP st at D;omega
theorem wg' {a:Mod.Ag} {k:Mod.Sk} {e:Nat} (r:e=a.epoch) (h:e<=2147483647) (hl:∀i,i < 3->(k.logs i).length<=2147483647):(aB' a (eM' k e).data.toList).2.welcome=true:=by
 have z:(eM' k e).data.toList=Wire.bytes 2 e ((0:Nat):Int) ((0:Nat):Int) (gY' k).data.toList:=by simp[eM']
 have D:=iL' a (kd' k e h hl);rw[z];have F:(aB' a (Wire.bytes 2 e ((0:Nat):Int) ((0:Nat):Int) (gY' k).data.toList)).2=a.deliver 2 e ((0:Nat):Int) ((0:Nat):Int) (gY' k):=congrArg Prod.snd D;rw[F];unfold Mod.Ag.deliver;rw[if_neg (fun h=>by have:=h.1;omega),if_neg (by rw[r];simp),if_neg (by decide),if_pos rfl]
theorem sH' {k:Mod.Sk} {e:Nat} (z:k.epoch<=e) (h:e<=2147483647):am' k (Wire.bytes 1 e 0 0 [])=(0,bc' k e,[eM' k e]):=by
 have r:Wire.proper 1 e ((0:Nat):Int) ((0:Nat):Int) (⟨#[]⟩:ByteArray)=true:=by simp[Wire.proper,Wire.isNum,ByteArray.size];omega
 rw[kc',iM' k r];unfold bI';rw[if_pos rfl,if_neg (by omega),Int.toNat_natCast]
theorem sI' {a:Mod.Ag} (r:a.fenced=false) (z:a.welcome=false):a.tick.2=[Wire.bytes 1 a.epoch 0 0 []]:=by
 unfold Mod.Ag.tick;rw[if_neg (by rw[r];decide),if_pos z]
theorem rm' (I:st.s.epoch<=st.a.epoch) (D:st.a.epoch<=2147483647) (hl:∀i,i < 3->(st.s.logs i).length<=2147483647) (F:st.a.welcome=false):
  (aX' st (Wire.bytes 1 st.a.epoch 0 0 [])).a.welcome=true\/((aX' st (Wire.bytes 1 st.a.epoch 0 0 [])).a.welcome=false/\ddP (aX' st (Wire.bytes 1 st.a.epoch 0 0 []))+1<=ddP st):=by
 have J:=sH' I D;have O:=jE' st.x;have Q:=jE' st.y;unfold aX';by_cases r:(thr st.x).before=true
 ·rw[if_pos r];obtain⟨k1,k2⟩:=iU' r;refine .inr ⟨F,?_⟩;unfold ddP;simp only[k1,k2];omega
 ·rw[if_neg r,J];have k1:=ts' r;simp only[List.map_cons,List.map_nil,List.foldl_cons,List.foldl_nil];unfold by';by_cases z:(thr st.y).before=true
  ·rw[if_pos z];obtain⟨k3,k4⟩:=iU' z;refine .inr ⟨F,?_⟩;unfold ddP;simp only[k1,k3,k4];omega
  ·rw[if_neg z];have G:(aB' st.a (eM' st.s st.a.epoch).data.toList).2.welcome=true:=wg' rfl D hl;obtain⟨H,M⟩:∃H,H=(aB' st.a (eM' st.s st.a.epoch).data.toList).2:=⟨_,rfl⟩;rw[<-M]at G ⊢;exact .inl G
theorem wU' (h:st.a.welcome=true):ft' st=20 * muP st+4 * ddP st+wtP st:=by
 unfold ft';rw[if_pos h]
theorem tt' (h:st.a.welcome=false):ft' st=980+ddP st:=by
 unfold ft';rw[if_neg (by rw[h];decide)]
theorem uu' (r:PhI b T st) (H:b+2<=2147483647) (z:st.a.welcome=false):ft' (aY' st)+1<=ft' st:=by
 obtain⟨D,O,I,Q⟩:=cg' st.a;have F:=mf' r H;have J:aY' st=aX' {st with a:=st.a.tick.1} (Wire.bytes 1 st.a.tick.1.epoch 0 0 []):=by unfold aY';rw[sI' r.ag.fen z,List.foldl_cons,List.foldl_nil,D]
 have G:=rm' (st:={st with a:=st.a.tick.1}) (by show st.s.epoch<=st.a.tick.1.epoch;rw[D];exact r.ag.sep) (by show st.a.tick.1.epoch<= _;rw[D];exact r.ag.good.ep) (fun i hi=>by show(st.s.logs i).length<= _;have:=fm' r.sk.good i hi;omega) (by show st.a.tick.1.welcome=false;rw[I];exact z);have hd:ddP {st with a:=st.a.tick.1}=ddP st:=rfl;have M:aX' {st with a:=st.a.tick.1} (Wire.bytes 1 ({st with a:=st.a.tick.1}:Ph).a.epoch 0 0 [])=aY' st:=J.symm;rw[M,hd]at G;rw[tt' z];rcases G with h1|⟨h1,h2⟩
 ·rw[wU' h1];have h3:=wd' F.snt;have h4:=rl' (aY' st);have U:=rl' st;have h5:=we' F;omega
 ·rw[tt' h1];omega
theorem sJ' (r:PhI b T st) (z:b+2<=2147483647):(iV' st->iV' (aY' st))/\(¬iV' st->ft' (aY' st)+1<=ft' st):=by
 refine⟨sG' r,fun F=>?_⟩;cases D:st.a.welcome with
 |true=>exact ut' r z F D
 |false=>exact uu' r z D
def cG' (st:Ph):Nat->Ph
 |0=>st
 |n+1=>aY' (cG' st n)
theorem gz' (r:PhI b T st):∀n,b+n+2<=2147483647->PhI (b+n) T (cG' st n)/\(iV' (cG' st n)\/ft' (cG' st n)+n<=984)
 |0,_=>by refine⟨r, .inr ?_⟩;have h3:=wd' r.snt;have h4:=rl' st;have h5:=we' r;show ft' st+0<=984;unfold ft';split <;> omega
 |n+1,z=>by
  have D:b+n+1+2<=2147483647:=z;obtain⟨k1,k2⟩:=gz' r n (by omega);obtain⟨g1,g2⟩:=sJ' k1 (by omega);have k9:=mf' k1 (by omega);refine⟨k9,?_⟩;by_cases hd:iV' (cG' st n)
  ·exact .inl (g1 hd)
  ·have:=g2 hd;refine .inr ?_;show ft' (aY' (cG' st n))+(n+1)<=984;rcases k2 with k2|k2
   ·exact absurd k2 hd
   ·omega
theorem wh' (r:PhI b T st) (F:b+1002<=2147483647):∀i,i < 3->(cG' st 1000).s.logs i=T i/\(cG' st 1000).a.spool i=[]:=by
 obtain⟨k1,k2⟩:=gz' r 1000 (by omega);have hd:iV' (cG' st 1000):=by
  rcases k2 with k2|k2
  ·exact k2
  ·omega
 intro i hi;have z:=hd.2 i hi;have h1:=k1.ag.kept i hi;have hs:(cG' st 1000).a.spool i=[]:=by unfold Mod.Ag.spool;rw[z];rfl
 have h2:=k1.ag.base i hi;have h3:=k1.sk.log i hi;rw[hs]at h1;have h4:=congrArg List.length h1.2;rw[List.length_drop,List.length_nil]at h4;have h5:=h3.len;refine⟨?_,hs⟩;have D:=h3.take;rw[<-D];exact List.take_of_length_le (by omega)
end
end Go.Proofs.YtamafdcnbcoegabGreat
namespace Go.Proofs.YtamafdcnbcoegabGreat
open Go.RowKit
structure CoX (P:Pl):Prop where
 snt:Snt P.a
 more:aR' P.s
 some:0 < (P.T 0).length
 made:1<=P.made
theorem sK' {a:Mod.Ag} (h:Snt a) (i:Nat) (x:ByteArray):Snt (a.submit i x):=fun s hs y r=>by
 simp only[Mod.Ag.submit,Mod.upd]at r;split at r
 ·rename_i e;subst e;rcases List.mem_append.1 r with r|r
  ·exact h s hs y r
  ·rw[List.mem_singleton]at r;rw[r];exact Nat.zero_le _
 ·exact h s hs y r
theorem kj' {a:Mod.Ag} (h:Snt a) (i:Int) (x:ByteArray):Snt (aD' a i x):=by
 unfold aD';split
 ·exact sK' h _ x
 ·exact h
theorem wi' (a:Mod.Ag):Snt (Mod.reop a):=fun s hs y r=>by
 simp only[Mod.reop,if_pos hs,List.mem_map]at r;obtain⟨z,_,rfl⟩:=r;exact Nat.zero_le _
theorem uw' {a:Mod.Ag} (h:Snt a) (d:Bool):Snt (cu' d a).1:=by
 unfold cu';split
 ·exact fun s hs y r=>Nat.le_succ_of_le (h s hs y r)
 ·exact rh' h
theorem gh' (e:Nat) (lg:Nat->List ByteArray):aR' {epoch:=e,logs:=lg,held:=[]}:=⟨fun h r=>(by cases r),fun _ s _ b z=>(by cases z)⟩
theorem CoX.submit {P D:Pl} {v:Value} {i:Nat} (r:CoX P) (h:vV' i P v D):CoX D:=by
 rcases h with ⟨_,rfl,rfl⟩|⟨_,e,F,a',h1,rfl,rfl⟩
 ·exact r
 ·have z:Snt a':=by
   rcases h1 with ⟨_,_,rfl,_⟩|⟨_,_,rfl,_⟩|⟨_,_,rfl,_⟩
   ·exact r.snt
   ·exact r.snt
   ·exact kj' r.snt _ _
  have h2:=r.some;unfold gD';split
  ·refine⟨z,r.more,?_,by show 1<=P.made+1;omega⟩;show 0 < (if 0=i then P.T i++[rdg (P.made+1)]else P.T 0).length;split
   ·rw[List.length_append];simp
   ·exact h2
  ·split
   ·exact⟨z,r.more,h2,by show 1<=P.made+1;omega⟩
   ·split
    ·exact⟨z,r.more,h2,by show 1<=P.made+1;omega⟩
    ·exact⟨z,r.more,h2,by show 1<=P.made+1;omega⟩
theorem CoX.toSink {P z:Pl} {v:Value} {l:List UInt8} (r:CoX P) (h:TsR l P v z):CoX z:=by
 obtain⟨e,D,s',F,h1,_,rfl,rfl⟩:=h;have hs:aR' s':=by
  rcases h1 with ⟨_,_,rfl,_⟩|⟨_,_,_,_,n,_,_,rfl⟩|⟨_,_,rfl,_⟩
  ·exact r.more
  ·exact gh' _ _
  ·exact fX' r.more l
 unfold tsP;split
 ·exact⟨r.snt,hs,r.some,r.made⟩
 ·exact⟨r.snt,hs,r.some,r.made⟩
theorem CoX.toAgent {P z:Pl} {v:Value} {l:List UInt8} (r:CoX P) (h:TaR l P v z):CoX z:=by
 obtain⟨e,F,a',h1,rfl,rfl⟩:=h;have D:Snt a':=by
  rcases h1 with ⟨_,_,rfl,_⟩|⟨_,_,rfl,_⟩|⟨_,_,rfl,_⟩
  ·exact r.snt
  ·exact r.snt
  ·exact rg' r.snt l
 unfold taP;split
 ·exact⟨D,r.more,r.some,r.made⟩
 ·exact⟨D,r.more,r.some,r.made⟩
theorem CoX.reopA {P:Pl} (r:CoX P):CoX (roP P):=⟨wi' _,r.more,r.some,r.made⟩
theorem CoX.reopS {P:Pl} (r:CoX P):CoX (rsP P):=⟨r.snt,gh' _ _,r.some,r.made⟩
theorem CoX.act {P z:Pl} {v:Value} {D n:Int} (r:CoX P) (h:dz' D n P v z):CoX z:=by
 unfold dz' at h;split at h
 ·exact r.submit h
 ·split at h
  ·obtain⟨rfl,rfl⟩:=h;exact⟨uw' r.snt _,r.more,r.some,r.made⟩
  ·split at h
   ·split at h
    ·obtain⟨rfl,rfl⟩:=h;exact r
    ·obtain⟨l,hl,h⟩:=h;exact r.toSink h
   ·split at h
    ·split at h
     ·obtain⟨rfl,rfl⟩:=h;exact r
     ·obtain⟨l,hl,h⟩:=h;exact r.toAgent h
    ·split at h
     ·obtain⟨rfl,rfl⟩:=h;exact r
     ·split at h
      ·obtain⟨rfl,rfl⟩:=h;exact r
      ·split at h
       ·obtain⟨rfl,rfl⟩:=h;exact r.reopA
       ·obtain⟨rfl,rfl⟩:=h;exact r.reopS
def FirR (v:Value) (r:Pl):Prop:=v= .bool true/\aK' 1 r/\CoX r
theorem xK':mX'.refuses ((0:Nat):Int) (rdg 1).size=0:=by decide+kernel
theorem wj' {B p:Nat} {w:World} {N:bd'} (D:Net B 0 p w N) (r:N.pl=wS') (F:dw' 0 w N.va N.a N.ua):
  Calls Tryz.prog 7 #[.pointer (some ⟨p,0,none⟩), .int .i64 0] w (dy' B 0 p w FirR):=by
 have G:N.a=mX':=congrArg Pl.a r;have H:N.made=0:=congrArg Pl.made r;have I:N.da=false:=congrArg Pl.da r;have J:dx' 0 N.pl:=by rw[r];exact tp'.good
 rw[G]at F;refine(gO' (SO:=fun e z a'=>e=0/\z=false/\a'=aD' mX' ((0:Nat):Int) (rdg 1)) D J (i:=0) (by omega) (fun e z a' h=>?_) (fun y M=>?_)).mono ?_
 ·obtain⟨rfl,rfl,rfl⟩:=h;rw[H,I,G];exact .inr (.inr ⟨rfl,xK'.symm,rfl,rfl⟩)
 ·rw[H];refine(lI' ((0:Nat):Int) (rdg 1) (ea' F M (fun k O e=>D.ne 1 0 k (by decide) O e)) nJ' (by omega) (.inl (by decide))).mono ?_;rintro Q w' ⟨U',rfl,k1,k2,k3⟩;rw[xK'];exact⟨0,false,_,U',rfl, .inl ⟨rfl,_,k1⟩,k2,k3,rfl,rfl,rfl⟩
 ·rintro Q y ⟨v,U,rfl,h,h2,h3⟩;rw[r]at h;refine⟨v,U,rfl,?_,h2,h3⟩;rcases h with ⟨h,_⟩|⟨_,e,z,a',⟨rfl,rfl,rfl⟩,rfl,rfl⟩
  ·exact absurd h (by decide)
  ·obtain⟨k1,k2⟩:=tp'.submit (i:=0) (by decide) (by decide) (.inr ⟨by decide,0,false,_, .inr (.inr ⟨rfl,xK'.symm,rfl,rfl⟩),rfl,rfl⟩);refine⟨k1,k2,?_⟩;unfold gD';rw[if_pos rfl];exact⟨kj' (fun s hs x V=>by cases V) _ _,gh' _ _,Nat.zero_lt_one,Nat.le_refl _⟩
end Go.Proofs.YtamafdcnbcoegabGreat
namespace Go.Proofs.YtamafdcnbcoegabGreat
open Go.RowKit Go.Lib
def nb' (w:World) (q:Nat) (r:RdV):Prop:=w.heap[q]? =some (.cells #[.int .u64 r.lost, .int .i64 r.sent, .bool r.before] 42 (0,0))
theorem kk' {w:World} {q:Nat} {Q:RdV} (U:nb' w q Q) (hl:Q.lost < 18446744073709551616) (hs:Q.sent<=1000000):
  Calls Tryz.prog 14 #[.pointer (some ⟨q,0,none⟩)] w fun e y=>e= .returned (.bool (!(thr Q).before))/\nb' y q (thr Q)/\Far (fun k=>k=q) w y:=by
 obtain⟨lost,sent,before⟩:=Q;have U:w.heap[q]? =some (.cells #[.int .u64 lost, .int .i64 sent, .bool before] 42 (0,0)):=U;have hl:lost < 18446744073709551616:=hl;have hs:sent<=1000000:=hs;have c1:=t' (i:=1) U;have az:=I' (i:=1) U;simp at c1;have aq:=y' U;clear U;go_enter Tryz.func14,Tryz.ntmps14;go_upto_region 2 with fail;refine H' (fun x=>x.heap[q]? =some (.cells #[.int .u64 lost, .int .i64 ((sent:Int)+1), .bool before] 42 (0,0))/\Far (fun k=>k=q) w x) ⟨by have:=ah' (j:=1) (v:= .int .i64 ((sent:Int)+1)) (i' aq);simpa using this,S' _ _ _ _⟩ ?_;clear c1 az;rintro x ⟨G,au⟩;have V:=t' (i:=0) G;have X:=t' (i:=1) G;have H:=t' (i:=2) G;have g2:=I' (i:=2) G;simp at V X H;have D:=lt_of_block G;have av:=y' G;have Y:=y' au;clear G au aq;cases before
 ·obtain⟨m,ax⟩:∃m,m=(sent+1) % 64:=⟨_,rfl⟩;have bb:m < 64:=by omega
  have aA:((sent:Int)+1).tmod 64=(m:Int):=by rw[Int.tmod_eq_emod_of_nonneg (by omega)];omega
  obtain⟨v,Z⟩:∃v,v=lost / 2 ^ m:=⟨_,rfl⟩;have aB:(lost:Int) / 2 ^ m=(v:Int):=by rw[Z];simp
  have bc:v < 18446744073709551616:=by rw[Z];exact Nat.lt_of_le_of_lt (Nat.div_le_self _ _) hl
  obtain⟨t,ay⟩:∃t,t=v % 2:=⟨_,rfl⟩;have aC:bits .and .u64 (v:Int) 1=(t:Int):=by rw[u64_and1 _ (by omega) (by omega)];omega
  have aa:=y' (show thr ⟨lost,sent,false⟩=⟨lost,sent+1,decide (t=1)⟩ by rw[ay,Z,ax];rfl);obtain⟨I,ab⟩:∃I,I=decide (t=1):=⟨_,rfl⟩;have aD:((t:Int) ==1)=I:=by
   rw[ab];by_cases h:t=1
   ·subst h;rfl
   ·rw[decide_eq_false h];exact beq_false_of_ne (by omega)
  rw[<-ab]at aa;clear ax Z ay hl ab;refine ag' (by kernel_rfl)
   [fun v _=>v= .pointer (some ⟨q,0,none⟩),fun v _=>v= .pointer (some ⟨q,0,none⟩),fun v _=>v= .pointer (some ⟨q,0,none⟩),fun v _=>v= .pointer (some ⟨q,2,none⟩),fun v _=>v= .bool false,fun v _=>v= .bool true,fun v _=>v= .bool true,
    fun v _=>v= .pointer (some ⟨q,0,none⟩),fun v _=>v= .pointer (some ⟨q,0,none⟩),fun v _=>v= .pointer (some ⟨q,0,none⟩),fun v _=>v= .int .u64 lost,fun v _=>v= .pointer (some ⟨q,0,none⟩),fun v _=>v= .pointer (some ⟨q,0,none⟩),fun v _=>v= .pointer (some ⟨q,1,none⟩),fun v _=>v= .int .i64 ((sent:Int)+1),fun v _=>v= .int .i64 m,fun u _=>u= .int .u64 v,fun u _=>u= .int .u64 t,fun u _=>u= .bool I,
    fun u _=>u= .bool I,fun v _=>v= .pointer (some ⟨q,0,none⟩),fun v _=>v= .pointer (some ⟨q,2,none⟩),fun _ _=>True]
   [[(0,none)],[(0,none)],[(11,some 1)],[(12,some 2)],[(13,some 3)],[(14,some 4)],[(15,some 5)],[(0,none),(16,some 6)],[(17,some 7),(16,some 6)],[(18,some 8),(16,some 6)],[(19,some 9),(16,some 6)],[(0,none),(16,some 6)],[(21,some 11),(16,some 6)],[(22,some 12),(16,some 6)],[(23,some 13),(16,some 6)],[(24,some 14),(16,some 6)],[(20,some 10),(25,some 15),(16,some 6)],[(26,some 16),(16,some 6)],[(27,some 17),(16,some 6)],[(16,some 6),(28,some 18)],[(10,some 0)],[(30,some 20)],[(31,some 21),(29,some 19)]] [some 10,some 11,some 12,some 13,some 14,some 15,some 16,some 17,some 18,some 19,some 20,some 21,some 22,some 23,some 24,some 25,some 26,some 27,some 28,some 29,some 30,some 31,none] [false,false,false,false,false,false,false,false,false,false,true,true,true,true,true,true,true,true,true,true,true,true,true,true,true,true,true,true,true,true,true,true,false,false,false,false,false]
   22 _ rfl rfl (by kernel_rfl) (by kernel_rfl) (by kernel_rfl) (by kernel_rfl) (by kernel_rfl) (by kernel_rfl) ?_ ?_ ?_
  ·repeat' (first|exact O' _|exact X'|exact trivial|apply And.intro)
  ·refine⟨?_,?_,?_,?_,?_,?_,?_,?_,?_,?_,?_,?_,?_,?_,?_,?_,?_,?_,?_,?_,?_,?_,trivial⟩;all_goals
    intro ac J r z;have aE:=(r.cell (p:=⟨q,0,none⟩) D).trans V;have aF:=(r.cell (p:=⟨q,1,none⟩) D).trans X;have ad:=(r.cell (p:=⟨q,2,none⟩) D).trans H;clear r;simp only[M',List.getD_cons_zero,List.getD_cons_succ,Array.getD_eq_getD_getElem?]at z;try simp at z
    try (have ah:ac.tmps[16]? =some (.bool true):=qG' (by first|exact z|exact z.1|exact z.2|exact z.2.2))
    try go_simp
    try simp only[ah,if_true]
    try go_simp
    try exact Below.refl _ _
   all_goals first
    |exact⟨rfl,Below.refl _ _⟩
    |(rw[aA];exact⟨rfl,Below.refl _ _⟩)
    |(rw[aB];exact⟨rfl,Below.refl _ _⟩)
    |(rw[aC];exact⟨rfl,Below.refl _ _⟩)
    |(rw[aD];exact⟨rfl,Below.refl _ _⟩)
    |skip
  ·intro f J r F;simp only[af',List.take]at F;have ai:=F.2.2.2.2.2.2.2.2.2.2.2.2.2.2.2.2.2.2.2.1;have aj:=F.2.2.2.2.2.2.2.2.2.2.2.2.2.2.2.2.2.2.2.2.2.1;have M:J.heap[q]? = _:=(r.block q D).trans (i' av);have O:=ah' (j:=2) (v:= .bool I) M;have ak:=t' (i:=2) O;have aG:=I' (i:=2) M;have ao:=y' (((i' Y).behind (r.mono (i' Y).size)).trans (S' J q 2 (.bool I)) (fun _ _ h=>h));have ad:=(r.cell (p:=⟨q,2,none⟩) D).trans H;have ap:=y' O;simp at ak;clear F r M O V X H g2;simp only[Y',ai,aj];go_simp;generalize f 10=aH;generalize f 11=aI;generalize f 12=aJ;generalize f 13=aK;generalize f 14=aL;generalize f 15=aM;generalize f 16=aN;generalize f 17=aO;generalize f 18=aP;generalize f 19=aQ;generalize f 20=aR;generalize f 21=aS;generalize f 22=aT;generalize f 23=aU;generalize f 24=aV;generalize f 25=aW;generalize f 26=aX;generalize f 27=aY;generalize f 28=aZ;generalize f 30=ba;go_wp2;go_ret;rw[i' aa];exact⟨rfl,by have:=i' ap;simpa[nb']using this,i' ao⟩
 ·have aa:=y' (show thr ⟨lost,sent,true⟩=⟨lost,sent+1,false⟩ from rfl);clear hl;refine ag' (by kernel_rfl)
   [fun v _=>v= .pointer (some ⟨q,0,none⟩),fun v _=>v= .pointer (some ⟨q,0,none⟩),fun v _=>v= .pointer (some ⟨q,0,none⟩),fun v _=>v= .pointer (some ⟨q,2,none⟩),fun v _=>v= .bool true,fun v _=>v= .bool false,fun v _=>v= .bool false,
    fun _ _=>True,fun _ _=>True,fun _ _=>True,fun _ _=>True,fun _ _=>True,fun _ _=>True,fun _ _=>True,fun _ _=>True,fun _ _=>True,fun _ _=>True,fun _ _=>True,fun _ _=>True,
    fun u _=>u= .bool false,fun v _=>v= .pointer (some ⟨q,0,none⟩),fun v _=>v= .pointer (some ⟨q,2,none⟩),fun _ _=>True]
   [[(0,none)],[(0,none)],[(11,some 1)],[(12,some 2)],[(13,some 3)],[(14,some 4)],[(15,some 5)],[(0,none),(16,some 6)],[(17,some 7),(16,some 6)],[(18,some 8),(16,some 6)],[(19,some 9),(16,some 6)],[(0,none),(16,some 6)],[(21,some 11),(16,some 6)],[(22,some 12),(16,some 6)],[(23,some 13),(16,some 6)],[(24,some 14),(16,some 6)],[(20,some 10),(25,some 15),(16,some 6)],[(26,some 16),(16,some 6)],[(27,some 17),(16,some 6)],[(16,some 6),(28,some 18)],[(10,some 0)],[(30,some 20)],[(31,some 21),(29,some 19)]] [some 10,some 11,some 12,some 13,some 14,some 15,some 16,some 17,some 18,some 19,some 20,some 21,some 22,some 23,some 24,some 25,some 26,some 27,some 28,some 29,some 30,some 31,none] [false,false,false,false,false,false,false,false,false,false,true,true,true,true,true,true,true,true,true,true,true,true,true,true,true,true,true,true,true,true,true,true,false,false,false,false,false]
   22 _ rfl rfl (by kernel_rfl) (by kernel_rfl) (by kernel_rfl) (by kernel_rfl) (by kernel_rfl) (by kernel_rfl) ?_ ?_ ?_
  ·repeat' (first|exact O' _|exact X'|exact trivial|apply And.intro)
  ·refine⟨?_,?_,?_,?_,?_,?_,?_,?_,?_,?_,?_,?_,?_,?_,?_,?_,?_,?_,?_,?_,?_,?_,trivial⟩;all_goals
    intro ac J r z;have aE:=(r.cell (p:=⟨q,0,none⟩) D).trans V;have aF:=(r.cell (p:=⟨q,1,none⟩) D).trans X;have ad:=(r.cell (p:=⟨q,2,none⟩) D).trans H;clear r;simp only[M',List.getD_cons_zero,List.getD_cons_succ,Array.getD_eq_getD_getElem?]at z;try simp at z
    try (have ah:ac.tmps[16]? =some (.bool false):=qG' (by first|exact z|exact z.1|exact z.2|exact z.2.2))
    try go_simp
    try simp only[ah,if_true]
    try go_simp
    try exact Below.refl _ _
   all_goals first
    |exact⟨rfl,Below.refl _ _⟩
    |skip
  ·intro f J r F;simp only[af',List.take]at F;have ai:=F.2.2.2.2.2.2.2.2.2.2.2.2.2.2.2.2.2.2.2.1;have aj:=F.2.2.2.2.2.2.2.2.2.2.2.2.2.2.2.2.2.2.2.2.2.1;have M:J.heap[q]? = _:=(r.block q D).trans (i' av);have O:=ah' (j:=2) (v:= .bool false) M;have ak:=t' (i:=2) O;have aG:=I' (i:=2) M;have ao:=y' (((i' Y).behind (r.mono (i' Y).size)).trans (S' J q 2 (.bool false)) (fun _ _ h=>h));have ad:=(r.cell (p:=⟨q,2,none⟩) D).trans H;have ap:=y' O;simp at ak;clear F r M O V X H g2;simp only[Y',ai,aj];go_simp;generalize f 10=aH;generalize f 11=aI;generalize f 12=aJ;generalize f 13=aK;generalize f 14=aL;generalize f 15=aM;generalize f 16=aN;generalize f 17=aO;generalize f 18=aP;generalize f 19=aQ;generalize f 20=aR;generalize f 21=aS;generalize f 22=aT;generalize f 23=aU;generalize f 24=aV;generalize f 25=aW;generalize f 26=aX;generalize f 27=aY;generalize f 28=aZ;generalize f 30=ba;go_wp2;go_ret;rw[i' aa];exact⟨rfl,by have:=i' ap;simpa[nb']using this,i' ao⟩
end Go.Proofs.YtamafdcnbcoegabGreat
namespace Go.Proofs.YtamafdcnbcoegabGreat
open Go.RowKit
def CsZ (r:Nat) (w:World) (v:Nat) (a:Mod.Sk) (z:Nat->Prop):Prop:=∃op ct,gb' op ct 0 w v a z/\ct<=r+(a.count+a.epoch)
theorem rn' {r:Nat} (O:r<=1000000000000) {w:World} {v:Nat} {a:Mod.Sk} {z:Nat->Prop} (bs:Value) (l:List UInt8) (h:CsZ r w v a z) (D:aw' a) (H:ab' w bs l):
  Calls Tryz.prog 15 #[A' v,bs] w fun F w'=>
   ∃lv fs U',F= .returned (.tuple #[lv, .int .i64 (am' a l).1])/\Q' w.heap.size w' lv fs (am' a l).2.2 U'/\CsZ r w' v (am' a l).2.1 U'/\Far z w w'/\∀k,U' k->z k\/w.heap.size<=k:=by
 obtain⟨op,ct,h1,h2⟩:=h;have g1:=D.room;have g2:=D.ep;have Q:=vJ' a l;refine(iG' bs l h1 (by omega) D H (.inl rfl)).mono ?_;rintro F y ⟨lv,fs,U',rfl,I,G,J,M⟩;rw[Nat.zero_sub]at G;exact⟨lv,fs,U',rfl,I,⟨_,_,G,by omega⟩,J,M⟩
def ro' (r:Nat) (h1:1<=r) (z:r<=1000000000000):uV' where
 At:=CsZ r
 lt:=fun⟨_,_,h,_⟩=>tj' h
 far:=fun⟨op,ct,h,D⟩ hF F=>⟨op,ct,qM' h hF F,D⟩
 deliver:=rn' z
 epoch:=fun⟨_,_,h,_⟩=>(wO' h).mono fun _ _ ⟨e,G⟩=>⟨e,by rw[G];exact Below.refl _ _⟩
 log:=fun i ⟨_,_,h,_⟩ _=>xV' i h
 opened:=fun bs H=>(ka' bs H).mono fun _ _ ⟨v,I,e,h,J,M⟩=>⟨v,I,e,⟨1,1,h,by omega⟩,J,M⟩
def GN (p:Nat) (N:bd') (j:Nat):Prop:=j=p\/∃s,s < 3/\(N.tv s).ownBlock=some j
structure gP' (B p:Nat) (N:bd') (w:World):Prop where
 blk:w.heap[p]? =some (.cells (bu' N) 37 (0,0))
 row:∀s,s < 3->w.ownsRow B 9 1 (N.tv s) (N.T s).length (aV' (N.T s))
theorem gP'.lt {B p:Nat} {N:bd'} {w:World} (R:gP' B p N w):∀j,GN p N j->j < w.heap.size:=by
 rintro j (rfl|⟨s,hs,h⟩)
 ·exact lt_of_block R.blk
 ·exact(World.ownsRow.lt (R.row s hs) j h).2
theorem gP'.far {B p:Nat} {N:bd'} {w y:World} {E:Nat->Prop} (R:gP' B p N w) (hF:Far E w y) (r:∀j,GN p N j->¬E j):gP' B p N y:=
 ⟨hF.blk R.blk (r p (.inl rfl)),fun s hs=>R' (R.row s hs) (fun g z=>hF.rest g (World.ownsRow.lt (R.row s hs) g z).2 (r g (.inr ⟨s,hs,z⟩)))⟩
theorem tu' {A B C r E:Prop} (h:A\/B\/C\/r\/E):(A\/B\/C\/r)\/E:=by
 rcases h with h|h|h|h|h
 ·exact .inl (.inl h)
 ·exact .inl (.inr (.inl h))
 ·exact .inl (.inr (.inr (.inl h)))
 ·exact .inl (.inr (.inr (.inr h)))
 ·exact .inr h
section
variable {M B b p qx qy:Nat} {h1:1<=M} {hM:M<=1000000000000} {N:bd'} {w y:World} {st:Ph} {L:Nat->Prop}
structure cy' (M B b p qx qy:Nat) (h1:1<=M) (hM:M<=1000000000000) (N:bd') (w:World) (st:Ph) (L:Nat->Prop):Prop where
 ends:cE' nK' (ro' M h1 hM) B b w N.va N.vs st.a st.s (fun j=>GN p N j\/j=qx\/j=qy\/L j)
 rest:gP' B p N w
 rx:nb' w qx st.x
 ry:nb' w qy st.y
 ne:qx≠qy/\¬GN p N qx/\¬GN p N qy
def cU' (B p qx qy:Nat) (N:bd') (L:Nat->Prop) (x y:World):Prop:=Far (fun j=>(B<=j/\¬ (GN p N j\/j=qx\/j=qy\/L j))\/j=qx\/j=qy) x y
theorem cy'.less {L':Nat->Prop} (r:cy' M B b p qx qy h1 hM N w st L) (z:∀j,L' j->L j):cy' M B b p qx qy h1 hM N w st L':=
 ⟨r.ends.mono (fun j h=>h.imp id (Or.imp id (Or.imp id (z j)))) (Nat.le_refl _),r.rest,r.rx,r.ry,r.ne⟩
theorem cy'.below (r:cy' M B b p qx qy h1 hM N w st L) (z:Below w.heap.size w y):cy' M B b p qx qy h1 hM N y st L:=
 ⟨r.ends.below z,r.rest.far (E:=fun _=>False) (C' z) (fun _ _ e=>e),(C' (E:=fun _=>False) z).blk r.rx (fun e=>e),(C' (E:=fun _=>False) z).blk r.ry (fun e=>e),r.ne⟩
theorem cy'.thrX (r:cy' M B b p qx qy h1 hM N w st L) (hl:st.x.lost < 18446744073709551616) (hs:st.x.sent<=1000000):
  Calls Tryz.prog 14 #[.pointer (some ⟨qx,0,none⟩)] w fun e y=>e= .returned (.bool (!(thr st.x).before))/\cy' M B b p qx qy h1 hM N y {st with x:=thr st.x} L/\cU' B p qx qy N L w y:=by
 refine(kk' r.rx hl hs).mono ?_;rintro e y ⟨rfl,k1,k2⟩;exact⟨rfl,⟨r.ends.far k2 (fun j e=>by subst e;exact .inl (.inr (.inl rfl))),r.rest.far k2 (fun j hj e=>by subst e;exact r.ne.2.1 hj),k1,k2.blk r.ry (fun e=>r.ne.1 e.symm),r.ne⟩,k2.mono (fun j _ e=> .inr (.inl e))⟩
theorem cy'.thrY (r:cy' M B b p qx qy h1 hM N w st L) (hl:st.y.lost < 18446744073709551616) (hs:st.y.sent<=1000000):
  Calls Tryz.prog 14 #[.pointer (some ⟨qy,0,none⟩)] w fun e y=>e= .returned (.bool (!(thr st.y).before))/\cy' M B b p qx qy h1 hM N y {st with y:=thr st.y} L/\cU' B p qx qy N L w y:=by
 refine(kk' r.ry hl hs).mono ?_;rintro e y ⟨rfl,k1,k2⟩;exact⟨rfl,⟨r.ends.far k2 (fun j e=>by subst e;exact .inl (.inr (.inr (.inl rfl)))),r.rest.far k2 (fun j hj e=>by subst e;exact r.ne.2.2 hj),k2.blk r.rx (fun e=>r.ne.1 e),k1,r.ne⟩,k2.mono (fun j _ e=> .inr (.inr e))⟩
theorem cy'.same {F:Nat->Prop} (r:cy' M B b p qx qy h1 hM N w st L) (z:vK' B F w y) (D:∀j,(GN p N j\/j=qx\/j=qy)->F j):gP' B p N y/\nb' y qx st.x/\nb' y qy st.y:=
 ⟨r.rest.far z (fun j hj e=>e.2 (D j (.inl hj))),Far.blk z r.rx (fun e=>e.2 (D qx (.inr (.inl rfl)))),Far.blk z r.ry (fun e=>e.2 (D qy (.inr (.inr rfl))))⟩
theorem cy'.tick (r:cy' M B b p qx qy h1 hM N w st L) (D:b < 1000000000):
  Calls Tryz.prog 13 #[A' N.va] w fun z y=>∃lv fs,z= .returned lv/\Q' w.heap.size y lv fs (st.a.tick.2.map fun l=>⟨l.toArray⟩) (fun _=>False)/\cy' M B (b+1) p qx qy h1 hM N y {st with a:=st.a.tick.1} (fun j=>L j\/eE' lv fs j)/\cU' B p qx qy N L w y:=by
 refine(r.ends.tick D).mono ?_;rintro z y ⟨lv,fs,rfl,k1,k2,k3⟩;obtain⟨g1,g2,F⟩:=r.same k3 (fun j h=>h.elim .inl (fun h=> .inr (h.imp id .inl)));exact⟨lv,fs,rfl,k1,⟨k2.mono (fun j h=>tu' h) (Nat.le_refl _),g1,g2,F,r.ne⟩,Far.mono k3 (fun j _ e=> .inl e)⟩
theorem cy'.take (r:cy' M B b p qx qy h1 hM N w st L) (bs:Value) (l:List UInt8) (D:ab' w bs l):
  Calls Tryz.prog 15 #[A' N.vs,bs] w fun z y=>∃lv fs,z= .returned (.tuple #[lv, .int .i64 (am' st.s l).1])/\Q' w.heap.size y lv fs (am' st.s l).2.2 (fun _=>False)/\cy' M B b p qx qy h1 hM N y {st with s:=(am' st.s l).2.1} (fun j=>L j\/eE' lv fs j)/\cU' B p qx qy N L w y:=by
 refine(r.ends.take bs l D).mono ?_;rintro z y ⟨lv,fs,rfl,k1,k2,k3⟩;obtain⟨g1,g2,F⟩:=r.same k3 (fun j h=>h.elim .inl (fun h=> .inr (h.imp id .inl)));exact⟨lv,fs,rfl,k1,⟨k2.mono (fun j h=>tu' h) (Nat.le_refl _),g1,g2,F,r.ne⟩,Far.mono k3 (fun j _ e=> .inl e)⟩
theorem cy'.hear (r:cy' M B b p qx qy h1 hM N w st L) (D:b < 1000000000) (bs:Value) (l:List UInt8) (F:ab' w bs l):
  Calls Tryz.prog 16 #[A' N.va,bs] w fun z y=>z= .returned (.int .i64 (aB' st.a l).1)/\cy' M B b p qx qy h1 hM N y {st with a:=(aB' st.a l).2} L/\cU' B p qx qy N L w y:=by
 refine(r.ends.hear D bs l F).mono ?_;rintro z y ⟨rfl,k2,k3⟩;obtain⟨g1,g2,G⟩:=r.same k3 (fun j h=>h.elim .inl (fun h=> .inr (h.imp id .inl)));exact⟨rfl,⟨k2,g1,g2,G,r.ne⟩,Far.mono k3 (fun j _ e=> .inl e)⟩
end
end Go.Proofs.YtamafdcnbcoegabGreat
