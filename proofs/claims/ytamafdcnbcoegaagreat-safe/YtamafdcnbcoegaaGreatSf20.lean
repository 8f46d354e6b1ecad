/-
  Part 20 of a proof: SF10, SF9, SF8, SF6, SF5, SG1.
-/
import Derived.Test.YtamafdcnbcoegaaGreatSf19
set_option maxRecDepth 100000
set_option maxHeartbeats 40000000
namespace Go.Proofs.YtamafdcnbcoegaaGreat
open Go.RowKit
def sfP (P:Pl) (j:Nat):Pl:={P with seen:=fun t=>if P.ds=false/\t < j then(P.s.logs t).length else P.seen t}
def SfR (P:Pl) (v:Value) (f:Pl):Prop:=v= .bool true/\f=sfP P 3
structure ur' (P:Pl):Prop where
 fa:P.fa=P.da
 fs:P.fs=P.ds
 log:∀i,i < 3->(P.s.logs i).length<=(P.T i).length/\(P.T i).take (P.s.logs i).length=P.s.logs i/\P.seen i<=(P.s.logs i).length
 kept:∀i,i < 3->(P.a.spool i).length<=(P.T i).length/\(P.T i).drop ((P.T i).length - (P.a.spool i).length)=P.a.spool i/\(P.T i).length - (P.a.spool i).length<=(P.s.logs i).length
theorem qb' {w:World} {f:Option Addr} {n cap m:Nat} {xs:List Value} (h:cm' w (.slice f n cap) xs) (r:n=xs.length) (F:m<=n):cm' w (.slice f m cap) (xs.take m):=by
 subst r;obtain⟨G,H,e,h1,h2,h3⟩:=h;injection e with u _ z;subst u z;have hl:(xs.take m).length=m:=by rw[List.length_take];omega
 refine⟨f,cap,by rw[hl],by omega,h2,fun h0=>?_⟩;obtain⟨g,o,D,h4,h5⟩:=h3 (by omega);exact⟨g,o,D,h4,fun i hi=>by rw[h5 i (by omega),List.getElem?_take,if_pos (by omega)]⟩
theorem eX' {w y:World} {v:Value} {xs:List Value} (h:cm' w v xs) (f:Below w.heap.size w y):cm' y v xs:=by
 obtain⟨r,cap,e,h1,h2,h3⟩:=h;refine⟨r,cap,e,h1,h2,fun h0=>?_⟩;obtain⟨g,o,u,h4,h5⟩:=h3 h0;exact⟨g,o,u,Nat.lt_of_lt_of_le h4 f.size,fun i hi=>(f.cell (p:=⟨g,o+i,none⟩) h4).trans (h5 i hi)⟩
theorem ju' {w:World} {f:Option Addr} {n cap lo:Nat} {xs:List Value} (h:cm' w (.slice f n cap) xs) (r:n=xs.length) (F:lo<=n):cm' w (.slice (if cap=lo then f else f.map (fun x=>x.add lo)) (n - lo) (cap - lo)) (xs.drop lo):=by
 subst r;obtain⟨G,H,e,h1,h2,h3⟩:=h;injection e with u _ z;subst u z;refine⟨_,_,by rw[List.length_drop],by rw[List.length_drop];omega,by omega,fun h0=>?_⟩;rw[List.length_drop]at h0;obtain⟨g,o,D,h4,h5⟩:=h3 (by omega);refine⟨g,o+lo,by rw[if_neg (by omega),D];simp[Addr.add],h4,fun i hi=>?_⟩;rw[List.length_drop]at hi;rw[List.getElem?_drop,Nat.add_assoc,h5 (lo+i) (by omega)]
theorem rp' (l:List ByteArray) (m:Nat):(aK' l).take m=aK' (l.take m):=by simp[aK']
theorem lp' (l:List ByteArray) (m:Nat):(aK' l).drop m=aK' (l.drop m):=by simp[aK']
theorem Net.seenCell {B K p:Nat} {w:World} {N:by'} (f:Net B K p w N) {j:Nat} (hj:j < 3):w.cell? ⟨p,10+j,none⟩=some (.int .i64 (N.seen j:Nat)):=by
 obtain rfl|rfl|rfl:j=0\/j=1\/j=2:=by omega
 all_goals exact f.cell rfl
theorem Net.seenPut {B K p:Nat} {w:World} {N:by'} (f:Net B K p w N) {j:Nat} (hj:j < 3) (m:Nat):Net B K p (w.setCell ⟨p,10+j,none⟩ (.int .i64 m)) {N with seen:=fun t=>if t=j then m else N.seen t}:=by
 obtain rfl|rfl|rfl:j=0\/j=1\/j=2:=by omega
 all_goals exact f.put1 N.made N.stream N.may _ N.fa N.fs rfl
theorem qc' {P:Pl} (h:P.ds=true) (j:Nat):sfP P j=P:=by
 obtain⟨a,da,s,ds,up,dn,T,made,stream,may,seen,fa,fs⟩:=P;have h:ds=true:=h;subst h;simp[sfP]
theorem us' {P:Pl} (h:P.ds=false) (j:Nat):(fun t=>if t=j then(P.s.logs j).length else(sfP P j).seen t)=(sfP P (j+1)).seen:=by
 funext t;simp only[sfP,h,true_and];by_cases e:t=j
 ·subst e;rw[if_pos rfl,if_pos (by omega)]
 ·rw[if_neg e];by_cases f:t < j
  ·rw[if_pos f,if_pos (by omega)]
  ·rw[if_neg f,if_neg (by omega)]
theorem qd' {B K p b:Nat} {w:World} {P:Pl} (H:cb' B K p w P) (bg:dN' b P) (bh:ur' P):
  Calls Tryz.prog 45 #[.pointer (some ⟨p,0,none⟩)] w (dO' B K p w (SfR P)):=by
 have ai:=t' bh;have aY:=t' H;have bp:∀j,j < 3->(P.T j).length<=100:=fun j hj=>by
  have h1:(P.T 0).length+(P.T 1).length+(P.T 2).length<=100:=bg.room;obtain rfl|rfl|rfl:j=0\/j=1\/j=2:=by omega
  all_goals omega
 clear H bg bh;go_enter Tryz.func45,Tryz.ntmps45;go_wp2;go_loopw[3] (fun i wr=>∃j:Nat,j<=3/\i= .int .i64 j/\cb' B K p wr (sfP P j)/\Far (fun k=>B<=k) w wr) (fun i _=>3 - (intOf i).toNat)
 case atStart=>exact⟨0,by omega,rfl,by have e:sfP P 0=P:=(by simp[sfP]);rw[e];exact i' aY,Far.refl _ _⟩
 case round=>
  obtain⟨j,hj,rfl,⟨N,H,ap⟩,aR⟩:=hrel;by_cases X:j < 3
  ·have bQ:(j:Int) < 3:=by omega
   have bR:¬ (j:Int) < 0:=by omega
   obtain⟨bi,⟨Y,cap,aS,ct⟩,_⟩:=H.tvShape X;have bj:N.T=P.T:=congrArg Pl.T ap;have Q:wr.cell? ⟨p,13,none⟩=some (.bool P.da):=by rw[<-(i' ai).fa,show P.fa=N.fa from(congrArg Pl.fa ap).symm];exact H.cell rfl
   have U:wr.cell? ⟨p,14,none⟩=some (.bool P.ds):=by rw[<-(i' ai).fs,show P.fs=N.fs from(congrArg Pl.fs ap).symm];exact H.cell rfl
   have I:=H.seenCell X;have aF:=cv' bi;rw[bj]at aF ct aS;rw[aS]at aF;have bk:=bp j X;obtain⟨n,aH⟩:∃n,n=(P.T j).length:=⟨_,rfl⟩;rw[<-aH]at aF ct bk;have bq:=t' aF;have br:n<=cap/\cap<=maxLen:=by obtain⟨_,_,e,h1,h2,_⟩:=aF;injection e with _ bt bS;rw[bG']at bt h1;omega
   unfold maxLen at br;have aT:Hid (N.tv j= .slice Y n cap):=t' (by rw[aH];exact aS);have aI:=t' aH;have aq:=t' H;have au:=t' ap;have ax:=t' aR;have aJ:=(i' ai).log j X;have aU:=(i' ai).kept j X;have aZ:=(H.lt 0 p rfl).2;have bT:=(H.lt 0 p rfl).1;obtain⟨m,ba⟩:∃m,m=(P.s.logs j).length:=⟨_,rfl⟩;rw[<-ba,<-aH]at aJ;have bl:N.seen j=P.seen j:=by have e:N.seen=(sfP P j).seen:=congrArg Pl.seen ap;rw[e];simp[sfP]
   have bu:N.seen j<=m:=by rw[bl];exact aJ.2.2
   have ay:=t' ba;have bw:=aJ.1;have bb:=t' aJ.2.1;obtain⟨aV,bm⟩:∃aV,aV=N.seen j:=⟨_,rfl⟩;rw[<-bm]at I bu;clear bi aS bj aF aH H ap aR aJ bl ba bm aY;cases ac:P.ds with
   |false=>
    rw[ac]at U;have Z:Hid (Calls Tryz.prog 32 #[y' N.vs, .int .i64 j] wr fun u y=>∃D F,u= .returned (.slice D m F)/\cm' y (.slice D m F) (aK' (P.s.logs j))/\Below wr.heap.size wr y):=t' (by
     have V:SkE K N.ds wr N.vs N.s N.us:=(i' aq).at_ 2;rw[show N.ds=false from(congrArg Pl.ds (i' au)).trans ac,show N.s=P.s from congrArg Pl.s (i' au)]at V;refine(V.log j).mono ?_;rintro u y ⟨lv,rfl,z,G⟩;have aj:dJ' P.s j=P.s.logs j:=by unfold dJ';rw[if_pos (by omega)];simp
     rw[aj,<-i' ay]at z;obtain⟨D,F,rfl,_⟩:=(al' z).shape;exact⟨D,F,rfl,cv' z,G⟩)
    have c1:wr.cell? ⟨p,1,none⟩=some (y' N.vs):=(i' aq).cell rfl;have bz:(m:Int)<=(cap:Int):=by omega
    have bA:¬ (n:Int) < (m:Int):=by omega
    have bB:¬ (m:Int) < (aV:Int):=by omega
    have bC:¬n < m:=by omega
    have bD:¬m < aV:=by omega
    unfold y' at Z c1;go_upto_region 7 with (go_at_call 32;refine(i' Z).mono ?_;rintro u y ⟨D,F,rfl,z,G⟩;have bn:=t' z;have az:=t' G;clear z G);have ct:=((i' az).cell (p:=⟨p,4+j,none⟩) aZ).trans ct;have I:=((i' az).cell (p:=⟨p,10+j,none⟩) aZ).trans I;have Q:=((i' az).cell (p:=⟨p,13,none⟩) aZ).trans Q;have bc:=t' ((i' aq).below (i' az));have bE:=D' (i:=10+j) ((i' bc).at_ 0);have aG:=t' (eX' (i' bq) (i' az));clear Z c1 U;have ad:Hid (Calls Tryz.prog 33 #[.slice D m F, .slice Y m cap] y fun u ak=>u= .returned (.bool true)/\∃q,ak=y.drewN q):=t' (by have h1:=qb' (i' aG) (by rw[bG'];exact i' aI) bw;rw[rp',i' bb]at h1;have:=eV' y (.slice D m F) (.slice Y m cap) (P.s.logs j) (P.s.logs j) (i' bn) h1 (by rw[<-i' ay];omega);simpa using this);go_upto_region 12 with (go_at_call 33;refine(i' ad).mono ?_;rintro u ak ⟨rfl,bo,rfl⟩);clear ad;go_upto_region 13 with fail;refine C' (fun x=>∃f,Net B K p x f/\f.pl=sfP P (j+1)/\f.tv j= .slice Y n cap/\Far (fun k=>B<=k) w x) ⟨_,((i' bc).below (below_drewN (Below.refl _ _) bo)).seenPut X m,?_,i' aT,(((i' ax).behind ((i' az).mono (i' ax).size)).trans (ag' (fun k=>B<=k) _ bo) (fun _ _ h=>h)).trans (O' _ _ _ _) (fun k _ e=>by have e:k=p:=e;omega)⟩ ?_
    ·have e:({N with seen:=fun t=>if t=j then m else N.seen t}:by').pl={N.pl with seen:=fun t=>if t=j then m else N.pl.seen t}:=rfl;rw[e,i' au,i' ay,us' ac j];rfl
    clear ct I Q bE bc aG bn az au aq ax aT bB bD bA bC bz bb;rintro x ⟨f,J,M,aK,aL⟩;obtain⟨aM,_,_⟩:=J.tvShape X;have Q:x.cell? ⟨p,13,none⟩=some (.bool P.da):=by rw[<-(i' ai).fa,show P.fa=f.fa from(congrArg Pl.fa M).symm];exact J.cell rfl
    have U:x.cell? ⟨p,14,none⟩=some (.bool P.ds):=by rw[<-(i' ai).fs,show P.fs=f.fs from(congrArg Pl.fs M).symm];exact J.cell rfl
    have I:=J.seenCell X;have aN:Hid (cm' x (.slice Y n cap) (aK' (P.T j))):=t' (by have h:=cv' aM;rw[aK,show f.T=P.T from congrArg Pl.T M]at h;exact h);have aa:=t' J;have ah:=t' M;have aA:=t' aL;obtain⟨O,aB⟩:∃O,O=f.seen j:=⟨_,rfl⟩;have bF:O=m:=by have e:f.seen=(sfP P (j+1)).seen:=congrArg Pl.seen M;rw[aB,e];simp[sfP,ac,i' ay]
    rw[<-aB]at I;clear aM M aL aK J aB;rw[ac]at U;cases aC:P.da with
    |true=>
     rw[aC]at Q;go_wp2;go_roundw
     case rel=>exact⟨j+1,by omega,by go_num,⟨f,i' aa,i' ah⟩,i' aA⟩
     case measure=>simp[intOf];omega
    |false=>
     rw[aC]at Q;obtain⟨r,aD⟩:∃r,r=(P.a.spool j).length:=⟨_,rfl⟩;have aE:=aU;rw[<-aD,<-i' aI,<-i' ay]at aE;have aO:=t' aD;have Z:Hid (Calls Tryz.prog 26 #[y' f.va, .int .i64 j] x fun u y=>∃D F,u= .returned (.slice D r F)/\cm' y (.slice D r F) (aK' (P.a.spool j))/\Below x.heap.size x y):=t' (by
      have V:AgE f.da x f.va f.a f.ua:=(i' aa).at_ 1;rw[show f.da=false from(congrArg Pl.da (i' ah)).trans aC,show f.a=P.a from congrArg Pl.a (i' ah)]at V;refine(V.spool j).mono ?_;rintro u y ⟨lv,rfl,z,G⟩;have aj:au' P.a j=P.a.spool j:=by unfold au';rw[if_pos (by omega)];simp
      rw[aj,<-i' aO]at z;obtain⟨D,F,rfl,_⟩:=(al' z).shape;exact⟨D,F,rfl,cv' z,G⟩)
     have c0:x.cell? ⟨p,0,none⟩=some (y' f.va):=(i' aa).cell rfl;have aP:=((i' aa).lt 0 p rfl).2;obtain⟨lo,bG⟩:∃lo,n=lo+r:=⟨n - r,by omega⟩;have bd:Hid ((P.T j).drop lo=P.a.spool j):=t' (by rw[<-aE.2.1];congr 1;omega);have bH:lo<=m:=by omega
     have bI:¬ (n:Int) < (r:Int):=by omega
     have bJ:¬n < r:=by omega
     have bK:IntKind.i64.wrap ((n:Int) - (O:Int))=(n:Int) - O:=by rw[IntKind.wrap_i64];omega
     have bL:IntKind.i64.wrap ((n:Int) - (r:Int))=(lo:Int):=by rw[IntKind.wrap_i64];omega
     have bM:¬ (r:Int) < (n:Int) - (O:Int):=by omega
     clear aD aU aE;unfold y' at Z c0;go_upto_region 15 with (go_at_call 26;refine(i' Z).mono ?_;rintro u ao ⟨be,bf,rfl,z,G⟩;have aQ:=t' z;have ab:=t' G;clear z G);have aG:=t' (eX' (i' aN) (i' ab));have I:=((i' ab).cell (p:=⟨p,10+j,none⟩) aP).trans I;have U:=((i' ab).cell (p:=⟨p,14,none⟩) aP).trans U;have aW:=t' ((i' aA).behind ((i' ab).mono (i' aA).size));have aX:=t' ((i' aa).below (i' ab));have ad:Hid (∀ (A:Option Addr) (c:Nat),((cap=lo/\A=Y/\c=0)\/(¬cap=lo/\A=Y.map (fun x=>x.add lo)/\c=cap - lo))->Calls Tryz.prog 33 #[.slice be r bf, .slice A r c] ao fun u ak=>u= .returned (.bool true)/\∃q,ak=ao.drewN q):=t' (by
      intro A c V;have h1:=ju' (i' aG) (by rw[bG'];exact i' aI) (show lo<=n by omega);rw[lp',i' bd]at h1;have aj:n - lo=r:=by omega
      rw[aj]at h1;have h2:cm' ao (.slice A r c) (aK' (P.a.spool j)):=by
       rcases V with ⟨h3,rfl,rfl⟩|⟨h3,rfl,rfl⟩
       ·rw[if_pos h3,show cap - lo=0 by omega]at h1;exact h1
       ·rw[if_neg h3]at h1;exact h1
      have:=eV' ao _ _ (P.a.spool j) (P.a.spool j) (i' aQ) h2 (by rw[<-i' aO];omega);simpa using this)
     clear Q c0 Z aN aQ;have bN:(lo:Int)<=(n:Int):=by omega
     have bO:(lo:Int)<=(cap:Int):=by omega
     go_upto_region 18 with (go_at_call 33;refine((i' ad) _ _ (by first|exact .inl ⟨by assumption,rfl,rfl⟩|exact .inr ⟨by assumption,rfl,rfl⟩)).mono ?_;rintro u ak ⟨rfl,av,rfl⟩)
     all_goals
      clear ad;go_wp2;go_roundw
      case rel=>exact⟨j+1,by omega,by go_num,⟨f,(i' aX).below (below_drewN (Below.refl _ _) av),i' ah⟩,(i' aW).trans (ag' (fun k=>B<=k) _ av) (fun _ _ h=>h)⟩
      case measure=>simp[intOf];omega
   |true=>
    rw[ac]at U;go_upto_region 13 with fail;refine C' (fun x=>∃f,Net B K p x f/\f.pl=sfP P (j+1)/\f.tv j= .slice Y n cap/\Far (fun k=>B<=k) w x) ⟨N,i' aq,by rw[i' au,qc' ac,qc' ac],i' aT,i' ax⟩ ?_;clear ct I Q U au aq ax aT bb;rintro x ⟨f,J,M,aK,aL⟩;obtain⟨aM,_,_⟩:=J.tvShape X;have Q:x.cell? ⟨p,13,none⟩=some (.bool P.da):=by rw[<-(i' ai).fa,show P.fa=f.fa from(congrArg Pl.fa M).symm];exact J.cell rfl
    have U:x.cell? ⟨p,14,none⟩=some (.bool P.ds):=by rw[<-(i' ai).fs,show P.fs=f.fs from(congrArg Pl.fs M).symm];exact J.cell rfl
    have I:=J.seenCell X;have aN:Hid (cm' x (.slice Y n cap) (aK' (P.T j))):=t' (by have h:=cv' aM;rw[aK,show f.T=P.T from congrArg Pl.T M]at h;exact h);have aa:=t' J;have ah:=t' M;have aA:=t' aL;obtain⟨O,aB⟩:∃O,O=f.seen j:=⟨_,rfl⟩;have bF:O<=m:=by have e:f.seen=(sfP P (j+1)).seen:=congrArg Pl.seen M;rw[aB,e];have h1:=((i' ai).log j X).2.2;rw[<-i' ay]at h1;simp[sfP,ac];exact h1
    rw[<-aB]at I;clear aM M aL aK J aB;rw[ac]at U;cases aC:P.da with
    |true=>
     rw[aC]at Q;go_wp2;go_roundw
     case rel=>exact⟨j+1,by omega,by go_num,⟨f,i' aa,i' ah⟩,i' aA⟩
     case measure=>simp[intOf];omega
    |false=>
     rw[aC]at Q;obtain⟨r,aD⟩:∃r,r=(P.a.spool j).length:=⟨_,rfl⟩;have aE:=aU;rw[<-aD,<-i' aI,<-i' ay]at aE;have aO:=t' aD;have Z:Hid (Calls Tryz.prog 26 #[y' f.va, .int .i64 j] x fun u y=>∃D F,u= .returned (.slice D r F)/\cm' y (.slice D r F) (aK' (P.a.spool j))/\Below x.heap.size x y):=t' (by
      have V:AgE f.da x f.va f.a f.ua:=(i' aa).at_ 1;rw[show f.da=false from(congrArg Pl.da (i' ah)).trans aC,show f.a=P.a from congrArg Pl.a (i' ah)]at V;refine(V.spool j).mono ?_;rintro u y ⟨lv,rfl,z,G⟩;have aj:au' P.a j=P.a.spool j:=by unfold au';rw[if_pos (by omega)];simp
      rw[aj,<-i' aO]at z;obtain⟨D,F,rfl,_⟩:=(al' z).shape;exact⟨D,F,rfl,cv' z,G⟩)
     have c0:x.cell? ⟨p,0,none⟩=some (y' f.va):=(i' aa).cell rfl;have aP:=((i' aa).lt 0 p rfl).2;obtain⟨lo,bG⟩:∃lo,n=lo+r:=⟨n - r,by omega⟩;have bd:Hid ((P.T j).drop lo=P.a.spool j):=t' (by rw[<-aE.2.1];congr 1;omega);have bH:lo<=m:=by omega
     have bI:¬ (n:Int) < (r:Int):=by omega
     have bJ:¬n < r:=by omega
     have bK:IntKind.i64.wrap ((n:Int) - (O:Int))=(n:Int) - O:=by rw[IntKind.wrap_i64];omega
     have bL:IntKind.i64.wrap ((n:Int) - (r:Int))=(lo:Int):=by rw[IntKind.wrap_i64];omega
     have bM:=bk;clear aD aU aE;unfold y' at Z c0;go_upto_region 15 with (go_at_call 26;refine(i' Z).mono ?_;rintro u ao ⟨be,bf,rfl,z,G⟩;have aQ:=t' z;have ab:=t' G;clear z G);have aG:=t' (eX' (i' aN) (i' ab));have I:=((i' ab).cell (p:=⟨p,10+j,none⟩) aP).trans I;have U:=((i' ab).cell (p:=⟨p,14,none⟩) aP).trans U;have aW:=t' ((i' aA).behind ((i' ab).mono (i' aA).size));have aX:=t' ((i' aa).below (i' ab));have ad:Hid (∀ (A:Option Addr) (c:Nat),((cap=lo/\A=Y/\c=0)\/(¬cap=lo/\A=Y.map (fun x=>x.add lo)/\c=cap - lo))->Calls Tryz.prog 33 #[.slice be r bf, .slice A r c] ao fun u ak=>u= .returned (.bool true)/\∃q,ak=ao.drewN q):=t' (by
      intro A c V;have h1:=ju' (i' aG) (by rw[bG'];exact i' aI) (show lo<=n by omega);rw[lp',i' bd]at h1;have aj:n - lo=r:=by omega
      rw[aj]at h1;have h2:cm' ao (.slice A r c) (aK' (P.a.spool j)):=by
       rcases V with ⟨h3,rfl,rfl⟩|⟨h3,rfl,rfl⟩
       ·rw[if_pos h3,show cap - lo=0 by omega]at h1;exact h1
       ·rw[if_neg h3]at h1;exact h1
      have:=eV' ao _ _ (P.a.spool j) (P.a.spool j) (i' aQ) h2 (by rw[<-i' aO];omega);simpa using this)
     clear Q c0 Z aN aQ;have bN:(lo:Int)<=(n:Int):=by omega
     have bO:(lo:Int)<=(cap:Int):=by omega
     by_cases bU:(r:Int) < (n:Int) - O
     ·go_upto_region 18 with (go_at_call 33;refine((i' ad) _ _ (by first|exact .inl ⟨by assumption,rfl,rfl⟩|exact .inr ⟨by assumption,rfl,rfl⟩)).mono ?_;rintro u ak ⟨rfl,av,rfl⟩)
      all_goals
       clear ad;go_wp2;go_roundw
       case rel=>exact⟨j+1,by omega,by go_num,⟨f,(i' aX).below (below_drewN (Below.refl _ _) av),i' ah⟩,(i' aW).trans (ag' (fun k=>B<=k) _ av) (fun _ _ h=>h)⟩
       case measure=>simp[intOf];omega
     ·go_upto_region 18 with (go_at_call 33;refine((i' ad) _ _ (by first|exact .inl ⟨by assumption,rfl,rfl⟩|exact .inr ⟨by assumption,rfl,rfl⟩)).mono ?_;rintro u ak ⟨rfl,av,rfl⟩)
      all_goals
       clear ad;go_wp2;go_roundw
       case rel=>exact⟨j+1,by omega,by go_num,⟨f,(i' aX).below (below_drewN (Below.refl _ _) av),i' ah⟩,(i' aW).trans (ag' (fun k=>B<=k) _ av) (fun _ _ h=>h)⟩
       case measure=>simp[intOf];omega
  ·have bP:j=3:=by omega
   subst bP;have aq:=t' H;have au:=t' ap;have ax:=t' aR;clear H ap aR aY;go_wp2;go_ret;exact⟨_,_,rfl,⟨rfl,rfl⟩,⟨N,i' aq,i' au⟩,i' ax⟩
def NzR (P:Pl) (v:Value) (f:Pl):Prop:=v= .bool true/\f=P
def nzE (d:Bool):Int:=if d=true then 3 else 1
section
variable {B K p b:Nat} {y:World} {N:by'} {l:List UInt8}
theorem Net.noiseA (r:Net B K p y N) (D:dN' b N.pl) (bs:Value) (I:Y' y bs l) (f:Wire.reads l=false):
  Calls Tryz.prog 28 #[y' N.va,bs] y fun F u=>∃z,F= .returned (.int .i64 (nzE N.da))/\Net B K p u z/\z.pl=N.pl/\z.vs=N.vs/\Far (fun k=>B<=k) y u:=by
 have J:AgE N.da y N.va N.a N.ua:=r.at_ 1;refine(J.deliver bs l D.ag (by have:=D.lim;omega) I).mono ?_;rintro F u ⟨e,M,a',U',rfl,O,G,Q,H⟩;refine⟨{N with a:=a',da:=M,ua:=U'},?_,r.agent O G Q,?_,rfl,G.mono (fun k _ h=>(r.lt 1 k h).1)⟩
 ·rcases H with ⟨h1,h2,_⟩|⟨h1,h2,_,_,h3⟩|⟨h1,h2,_⟩
  ·rw[h1,h2];rfl
  ·rw[jR' f]at h3;omega
  ·rw[h1,h2,iG' f];rfl
 ·rcases H with ⟨h1,h2,h3,h4⟩|⟨h1,h2,_,_,h3⟩|⟨h1,h2,h3,h4⟩
  ·rw[h3,h4,<-h1];rfl
  ·rw[jR' f]at h3;omega
  ·rw[h3,h4,iG' f,<-h1];rfl
theorem Net.noiseS (f:Net B K p y N) (J:dN' b N.pl) (hK:K < 1000000000) (bs:Value) (M:Y' y bs l) (z:Wire.reads l=false):
  Calls Tryz.prog 27 #[y' N.vs,bs] y fun D r=>∃F u c,D= .returned (.tuple #[.slice u 0 c, .int .i64 (nzE N.ds)])/\Net B (K+1) p r F/\F.pl=N.pl/\Far (fun k=>B<=k) y r:=by
 have O:SkE K N.ds y N.vs N.s N.us:=f.at_ 2;refine(O.deliver bs l J.sk hK M).mono ?_;rintro D r ⟨e,Q,s',lv,ol,U,U',rfl,G,V,_,H,X,Y⟩;have Z:U=[]/\e=nzE N.ds/\s'=N.s/\Q=N.ds:=by
  rcases Y with ⟨h1,h2,h3,h4,h5⟩|⟨_,_,_,_,n,h1,h2,_⟩|⟨h1,h2,h3,h4,h5⟩
  ·exact⟨h5,by rw[h1,h2];rfl,h3,by rw[h4,h1]⟩
  ·rw[nM' z]at h2;omega
  ·rw[gc' z]at h2 h3 h5;exact⟨h5,by rw[h1,h2];rfl,h3,by rw[h4,h1]⟩
 obtain⟨rfl,rfl,rfl,rfl⟩:=Z;obtain⟨u,c,aa,_⟩:=(al' G.row).shape;have I:=G.len;simp only[List.length_nil]at I;exact⟨{N with s:=N.s,ds:=N.ds,us:=U'},u,c,by rw[aa,I],f.sinkS V H X,rfl,H.mono (fun k _ h=>(f.lt 2 k h).1)⟩
end
theorem nW' {B K p b:Nat} {w:World} {P:Pl} (G:cb' B K p w P) (ao:dN' b P) (hK:K < 1000000000) (J:P.fa=P.da) (M:P.fs=P.ds) (s:ByteArray) (hs:s.size<=140737488355328):
  Calls Tryz.prog 72 #[.pointer (some ⟨p,0,none⟩), .string s] w (dO' B (K+1) p w (NzR P)):=by
 obtain⟨N,G,rfl⟩:=G;have J:N.fa=N.da:=J;have M:N.fs=N.ds:=M;obtain⟨u1,aI,O,r,f⟩:=gw' w s hs;have u:=gv' u1 s.data.toList aI r;have az:=t' G;have aA:=t' ao;have ah:=t' f;have aQ:=t' (G.lt 0 p rfl).1;cases Q:Wire.reads s.data.toList with
 |true=>rw[Q,if_pos rfl]at u;unfold jV' at u;have ai:=t' u;clear u Q r f G ao J M hs hK;go_enter Tryz.func72,Tryz.ntmps72;go_upto_region 2 with (go_at_call 25;refine(i' ai).mono ?_;rintro ap aJ ⟨rfl,U⟩;have aq:=t' U;clear U);have h1:=(i' ah).trans ((i' aq).mono (i' ah).size);refine C' (fun x=>Below w.heap.size w x) (h1.alloc h1.size _) ?_;rintro x H;have V:=t' H;clear H h1;go_wp2;go_ret;exact⟨_,_,rfl,⟨rfl,rfl⟩,⟨N,((i' az).below (i' V)).mono (Nat.le_succ K),rfl⟩,A' (i' V)⟩
 |false=>
  rw[Q,if_neg (by decide)]at u;unfold cD' at u;have ai:=t' u;have aB:=t' Q;have aC:=t' hs;have aK:=t' hK;have aD:=t' (And.intro J M);clear u Q r f G ao J M hs hK;go_enter Tryz.func72,Tryz.ntmps72;go_upto_region 2 with (go_at_call 25;refine(i' ai).mono ?_;rintro ap aJ ⟨rfl,U⟩;have aq:=t' U;clear U);have h1:=(i' ah).trans ((i' aq).mono (i' ah).size);refine C' (fun x=>Below w.heap.size w x) (h1.alloc h1.size _) ?_;clear O;rintro x H;have V:=t' H;have au:=t' ((i' az).below H);clear H h1 ai;have c0:x.cell? ⟨p,0,none⟩=some (y' N.va):=(i' au).cell rfl;obtain⟨u2,aL,O,r,f⟩:=gw' x s (i' aC);have aE:aL.cell? ⟨p,0,none⟩=some (y' N.va):=((i' au).below f).cell rfl;have D:=t' (((i' au).below f).noiseA (i' aA) u2 r (i' aB));have aM:=t' f;clear r f;unfold y' at D c0 aE;go_upto_region 5 with (go_at_call 28;refine(i' D).mono ?_;rintro ap aF ⟨av,rfl,X,Y,aN,Z⟩;have ax:=t' X;have F:=t' Y;have aG:=t' ((A' (E:=fun k=>B<=k) ((i' V).trans ((i' aM).mono (i' V).size))).trans Z (fun _ _ h=>h));clear X Y aN Z);clear O c0 aE D;have c1:aF.cell? ⟨p,1,none⟩=some (y' av.vs):=(i' ax).cell rfl;obtain⟨u3,aO,O,r,f⟩:=gw' aF s (i' aC);have aH:aO.cell? ⟨p,1,none⟩=some (y' av.vs):=((i' ax).below f).cell rfl;have D:=t' (((i' ax).below f).noiseS (by rw[i' F];exact i' aA) (i' aK) u3 r (i' aB));have aP:=t' f;clear r f;unfold y' at D c1 aH;go_upto_region 6 with (go_at_call 27;refine(i' D).mono ?_;rintro ap z3 ⟨z,aR,aS,rfl,X,Y,Z⟩;have I:=t' X;have aa:=t' Y;have aj:=t' (((i' aG).behind ((i' aP).mono (i' aG).size)).trans Z (fun _ _ h=>h));clear X Y Z);clear O c1 aH D;have ay:=(i' aa).trans (i' F);have ab:z3.cell? ⟨p,13,none⟩=some (.bool z.fa):=(i' I).cell rfl;have ac:z3.cell? ⟨p,14,none⟩=some (.bool z.fs):=(i' I).cell rfl;rw[show z.fa=N.da from(congrArg Pl.fa ay).trans (i' aD).1]at ab;rw[show z.fs=N.ds from(congrArg Pl.fs ay).trans (i' aD).2]at ac;rw[show av.ds=N.ds from congrArg Pl.ds (i' F)];clear ay;cases ak:N.da with
  |false=>
   cases ad:N.ds with
   |false=>
    rw[ak]at ab;rw[ad]at ac;simp only[nzE]
    ·go_wp2;go_ret;exact⟨_,_,rfl,⟨rfl,rfl⟩,⟨z,i' I,(i' aa).trans (i' F)⟩,i' aj⟩
   |true=>
    rw[ak]at ab;rw[ad]at ac;simp only[nzE]
    ·go_wp2;go_ret;exact⟨_,_,rfl,⟨rfl,rfl⟩,⟨z,i' I,(i' aa).trans (i' F)⟩,i' aj⟩
  |true=>
   cases ad:N.ds with
   |false=>
    rw[ak]at ab;rw[ad]at ac;simp only[nzE]
    ·go_wp2;go_ret;exact⟨_,_,rfl,⟨rfl,rfl⟩,⟨z,i' I,(i' aa).trans (i' F)⟩,i' aj⟩
   |true=>
    rw[ak]at ab;rw[ad]at ac;simp only[nzE]
    ·go_wp2;go_ret;exact⟨_,_,rfl,⟨rfl,rfl⟩,⟨z,i' I,(i' aa).trans (i' F)⟩,i' aj⟩
theorem vi' {l:List ByteArray} {m:Nat} (h:m < l.length):(aK' l)[m]? =some (.string l[m]):=by simp[aK',h]
def roP (P:Pl):Pl:={P with a:=Mod.reop P.a,da:=false,fa:=false,may:=⟨#[]⟩}
def RoR (P:Pl) (v:Value) (f:Pl):Prop:=v= .bool true/\f=roP P
def rsP (P:Pl):Pl:={P with s:={epoch:=P.s.epoch,logs:=P.s.logs,held:=[]},ds:=false,fs:=false}
def RsR (P:Pl) (v:Value) (f:Pl):Prop:=v= .bool true/\f=rsP P
theorem lq' {B K p:Nat} {w:World} {P:Pl} (r:cb' B K p w P) (hK:K < 1000000000) (M:Int):
  Calls Tryz.prog 74 #[.pointer (some ⟨p,0,none⟩), .int .u64 M] w (dO' B (K+1) p w (RsR P)):=by
 obtain⟨N,r,rfl⟩:=r;have c1:w.cell? ⟨p,1,none⟩=some (y' N.vs):=r.cell rfl;have O:SkE K N.ds w N.vs N.s N.us:=r.at_ 2;obtain⟨L,op,c2,hd,Q,U,V⟩:=O.img;have F:=t' V;have G:=t' (And.intro U Q);have u:=t' r;have X:=t' (r.lt 0 p rfl).1;have Z:=t' hK;clear r O V U Q hK;go_enter Tryz.func74,Tryz.ntmps74;unfold y' at c1 F;go_upto_region 4 with (first
  |(go_at_call 30;refine((i' F) _ (Below.refl _ _) M).mono ?_;rintro aa x ⟨v,rfl,z,D⟩;have ab:=t' z.at;have f:=t' D;clear z D)
  |(go_at_call 38;refine(un' (K:=K) _ _ (i' ab) (i' G).1 (i' G).2 (i' Z)).mono ?_;rintro aa y ⟨ah,ai,rfl,z,D,Y⟩;replace f:=t' (And.intro ((i' f).trans (D.mono (i' f).size)) (And.intro z (fun k ac=>Nat.le_trans (i' f).size (Y k ac))));clear z D Y;unfold y'))
 have ad:=t' (((i' u).mono (Nat.le_succ K)).newS (i' f).1 (i' f).2.1 (i' f).2.2);have H:∀j I,w.cell? ⟨p,j,none⟩=some I->y.cell? ⟨p,j,none⟩=some I:=fun j I h=>((i' f).1.cell (p:=⟨p,j,none⟩) ((i' u).lt 0 p rfl).2).trans h;have aj:=H 1 _ ((i' u).cell (j:=1) rfl);have ak:=H 14 _ ((i' u).cell (j:=14) rfl);have J:=(i' f).1.block p ((i' u).lt 0 p rfl).2;have ao:y.frozen? ⟨p,1,none⟩=false:=D' (J.trans ((i' u).at_ 0));have ap:y.frozen? ⟨p,14,none⟩=false:=D' (J.trans ((i' u).at_ 0));clear c1 H J F G;go_wp2;go_ret;exact⟨_,_,rfl,⟨rfl,rfl⟩,⟨_,(i' ad).put1 (j:=14) (v:= .bool false) N.made N.stream N.may N.seen N.fa false rfl,rfl⟩,((A' (E:=fun k=>B<=k) (i' f).1).trans (O' _ _ _ _) (fun k _ e=>by have e:k=p:=e;subst e;exact i' X)).trans (O' _ _ _ _) (fun k _ e=>by have e:k=p:=e;subst e;exact i' X)⟩
theorem jK' {B K p b:Nat} {w:World} {P:Pl} (G:cb' B K p w P) (M:dN' b P) (ap:P.may=⟨#[]⟩\/(P.stream < 3/\∀x∈au' (Mod.reop P.a) P.stream,x≠P.may)) (aq:Int):
  Calls Tryz.prog 73 #[.pointer (some ⟨p,0,none⟩), .int .u64 aq] w (dO' B K p w (RoR P)):=by
 obtain⟨N,G,rfl⟩:=G;have c0:w.cell? ⟨p,0,none⟩=some (y' N.va):=G.cell rfl;have au:AgE N.da w N.va N.a N.ua:=G.at_ 1;obtain⟨L,c2,hd,free,bi,av,ax,ay⟩:=au.img;have aa:=t' ay;have az:N.a.epoch<=1073741824:=by have h1:N.a.epoch<=b+1:=M.ep;have:=M.lim;omega
 have aA:∀i,i < 3->(N.a.fl i).base+(N.a.fl i).kept.length<=1073741824:=fun i hi=>by have h1:(N.a.fl i).base+(N.a.fl i).kept.length<=b:=M.ag.sum i hi;have:=M.lim;omega
 have O:=t' (And.intro av (And.intro ax (And.intro az aA)));have u:=t' G;have ab:=t' (G.lt 0 p rfl).1;have aB:=t' ap;clear G au ay av ax az aA M ap;go_enter Tryz.func73,Tryz.ntmps73;unfold y' at c0 aa;go_upto_region 4 with (first
  |(go_at_call 29;refine((i' aa) _ (Below.refl _ _) aq).mono ?_;rintro aC x ⟨v,rfl,D,r⟩;have aD:=t' D.at;have z:=t' r;clear D r)
  |(go_at_call 37;refine(ul' _ _ (i' aD) (i' O).1 (i' O).2.1 (i' O).2.2.1 (i' O).2.2.2).mono ?_;rintro aC y ⟨aE,aF,rfl,D,r,aG⟩;replace z:=t' (And.intro ((i' z).trans (r.mono (i' z).size)) (And.intro D (fun k ac=>Nat.le_trans (i' z).size (aG k ac))));clear D r aG;unfold y'))
 have aH:=t' ((i' u).newA (i' z).1 (i' z).2.1 (i' z).2.2);have ad:∀j ah,w.cell? ⟨p,j,none⟩=some ah->y.cell? ⟨p,j,none⟩=some ah:=fun j ah h=>((i' z).1.cell (p:=⟨p,j,none⟩) ((i' u).lt 0 p rfl).2).trans h;have aZ:=ad 0 _ ((i' u).cell (j:=0) rfl);have ba:=ad 13 _ ((i' u).cell (j:=13) rfl);have ai:=(i' z).1.block p ((i' u).lt 0 p rfl).2;have bb:y.frozen? ⟨p,0,none⟩=false:=D' (ai.trans ((i' u).at_ 0));have bc:y.frozen? ⟨p,13,none⟩=false:=D' (ai.trans ((i' u).at_ 0));clear c0 ad ai aa O;go_upto_region 6 with fail;obtain⟨f,I⟩:∃f:by',f={N with va:=aE,a:=Mod.reop N.a,da:=false,ua:=aF,fa:=false}:=⟨_,rfl⟩;refine C' (fun x=>Net B K p x f/\Far (fun k=>B<=k) w x) ⟨by rw[I];exact(i' aH).put1 (j:=13) (v:= .bool false) N.made N.stream N.may N.seen false N.fs rfl,((A' (E:=fun k=>B<=k) (i' z).1).trans (O' _ _ _ _) (fun k _ e=>by have e:k=p:=e;subst e;exact i' ab)).trans (O' _ _ _ _) (fun k _ e=>by have e:k=p:=e;subst e;exact i' ab)⟩ ?_;clear aZ ba bb bc z aD aH u;rintro x ⟨H,aI⟩;have aJ:x.cell? ⟨p,8,none⟩=some (.int .i64 N.stream):=by rw[show N.stream=f.stream by rw[I]];exact H.cell rfl
 have Q:x.cell? ⟨p,9,none⟩=some (.string N.may):=by rw[show N.may=f.may by rw[I]];exact H.cell rfl
 have aj:=D' (i:=9) (H.at_ 0);have hA2:AgE false x aE (Mod.reop N.a) aF:=by have h:AgE f.da x f.va f.a f.ua:=H.at_ 1;rw[I]at h;exact h
 have V:=t' (hA2.spool N.stream);have aK:({f with may:=⟨#[]⟩}:by').pl=roP N.pl:=by rw[I];rfl
 have bd:=t' aK;have aL:=(H.lt 0 p rfl).2;have be:=t' H;have aM:=t' aI;clear H aI hA2 aK I;have aN:∀X,Below x.heap.size x X->cb' B K p (X.setCell ⟨p,9,none⟩ (.string ⟨#[]⟩)) (roP N.pl)/\Far (fun k=>B<=k) w (X.setCell ⟨p,9,none⟩ (.string ⟨#[]⟩)):=fun X aO=>
  ⟨⟨_,((i' be).below aO).put1 (j:=9) (v:= .string ⟨#[]⟩) f.made f.stream ⟨#[]⟩ f.seen f.fa f.fs rfl,i' bd⟩,((i' aM).behind (aO.mono (i' aM).size)).trans (O' _ _ _ _) (fun k _ e=>by have e:k=p:=e;subst e;exact i' ab)⟩
 have F:=t' aN;clear aN;by_cases J:N.may=⟨#[]⟩
 ·rw[J]at Q;have J:=t' J;go_wp2;go_ret;exact⟨_,_,rfl,⟨rfl,rfl⟩,((i' F) _ (Below.refl _ _)).1,((i' F) _ (Below.refl _ _)).2⟩
 ·have aP:N.stream < 3/\∀x∈au' (Mod.reop N.a) N.stream,x≠N.may:=by
   rcases i' aB with h|h
   ·exact absurd h J
   ·exact h
  have U:=t' aP.2;obtain⟨Y,aQ⟩:∃Y,Y=N.may:=⟨_,rfl⟩;rw[<-aQ]at Q U J;obtain⟨l,hl⟩:∃l,l=au' (Mod.reop N.a) N.stream:=⟨_,rfl⟩;rw[<-hl]at V U;clear aP aQ hl aB;go_upto_region 8 with (go_at_call 26;refine(i' V).mono ?_;rintro aC y ⟨lv,rfl,D,r⟩;obtain⟨bj,bk,ak,aR,aS,Z⟩:=(al' D).shape;have aT:=t' (Nat.le_trans aR aS);clear aR aS;replace ak:=t' ak;replace Z:=t' Z;replace r:=t' r;clear D;rw[i' ak])
  ·have bl:=((i' r).cell (p:=⟨p,9,none⟩) aL).trans Q;have bm:=((i' r).frozen (p:=⟨p,9,none⟩) aL).trans aj;obtain⟨n,ao⟩:∃n,n=l.length:=⟨_,rfl⟩;have u:=t' ao;rw[<-ao]at Z aT ⊢;clear ao;by_cases bf:n=0
   ·subst bf;clear V Q aJ aj U;go_quiet (fail);go_wp2;go_ret;exact⟨_,_,rfl,⟨rfl,rfl⟩,((i' F) _ (below_drewN (i' r) _)).1,((i' F) _ (below_drewN (i' r) _)).2⟩
   ·obtain⟨k,ac⟩:∃k,n=k+1:=⟨n - 1,by omega⟩;obtain⟨g,o,rfl,aU⟩:=(i' Z) (by omega);have aV:k < l.length:=by have:=i' u;omega
    have aW:=aU k (by omega);rw[vi' aV]at aW;have aX:l[k]≠Y:=(i' U) _ (List.getElem_mem aV);generalize l[k]=bg at aW aX;have aY:=i' aT;unfold maxLen at aY;have bn:(0:Int) < (n:Int):=by omega
    have bo:IntKind.i64.wrap ((n:Int) - 1)=(k:Int):=by rw[IntKind.wrap_i64];omega
    have bp:(bg.toList==Y.toList)=false:=ig' aX;have bq:(k:Int) < (n:Int):=by omega
    have bh:0 < n:=by omega
    have br:decide (0 < n)=true:=decide_eq_true bh;have bt:¬ (k:Int) < 0:=by omega
    clear aU u J Q aJ V aj U aY ac;go_quiet (fail);go_wp2;go_ret;exact⟨_,_,rfl,⟨rfl,rfl⟩,((i' F) _ (below_drewN (i' r) _)).1,((i' F) _ (below_drewN (i' r) _)).2⟩
  ·go_ret;exact⟨_,_,rfl,⟨rfl,rfl⟩,((i' F) _ (Below.refl _ _)).1,((i' F) _ (Below.refl _ _)).2⟩
def tsP (P:Pl) (e:Int) (f:Bool) (s':Mod.Sk) (r:List ByteArray):Bool×Pl:=
 if e=4 then(decide (r.length=0),{P with s:=s',ds:=f,fs:=true})else(decide (e=0) ||P.fs&&decide (e=3),{P with s:=s',ds:=f,dn:=P.dn++r.map (·.data.toList)})
def TsR (l:List UInt8) (P:Pl) (v:Value) (u:Pl):Prop:=∃ (e:Int) (f:Bool) (s':Mod.Sk) (r:List ByteArray),iT' l P.ds P.s e f s' r/\ay' s'/\v= .bool (tsP P e f s' r).1/\u=(tsP P e f s' r).2
theorem rq' {B K p b:Nat} {w:World} {P:Pl} (Q:cb' B K p w P) (aG:dN' b P) (hK:K < 1000000000) (bs:Value) (l:List UInt8) (bi:Y' w bs l)
  (hF:∀e G s' u,iT' l P.ds P.s e G s' u->u.length<=12/\∀x∈u,0 < x.data.toList.length/\x.data.toList.length<=1000):
  Calls Tryz.prog 70 #[.pointer (some ⟨p,0,none⟩),bs] w (dO' B (K+1) p w (TsR l P)):=by
 obtain⟨N,Q,rfl⟩:=Q;have c0:=Q.cell (j:=1) rfl;have bj:SkE K N.ds w N.vs N.s N.us:=Q.at_ 2;have bI:=t' (bj.deliver bs l aG.sk hK bi);have aT:=t' Q;have bJ:=t' (fun k f=>(Q.lt 2 k f).1);have bk:=t' (And.intro aG.dn aG.lim);have aH:=t' (Q.lt 0 p rfl).1;have ab:=t' hF;clear Q bj aG hF bi hK;go_enter Tryz.func70,Tryz.ntmps70;go_upto_region 2 with (go_at_call 27;refine(i' bI).mono ?_;rintro bK x ⟨e,G,s',lv,ol,u,U',rfl,k0,k1,U,k2,k3,k4⟩;have z:=(i' aT).sinkO k0 k1 k2 k3;have av:Far (fun k=>B<=k) w x:=k2.mono (fun k _ h=>(i' bJ) k h);clear k0 k1 k2 k3;have Y:=t' z;clear z;replace av:=t' av;replace k4:=t' k4;replace U:=t' U;obtain⟨aU,ac,aV⟩:=(i' Y).outShape;have aV:lv= .slice aU u.length ac:=aV;subst aV);have bl:=((i' ab) _ _ _ _ (i' k4)).1;have bm:=t' ((i' ab) _ _ _ _ (i' k4)).2;obtain⟨m,ad⟩:∃m,m=u.length:=⟨_,rfl⟩;rw[<-ad]at Y bl ⊢;have ax:=(i' Y).cell (j:=14) rfl;have bL:=D' (i:=14) ((i' Y).at_ 0);by_cases h4:e=4
 ·have M:=t' (show tsP N.pl e G s' u=(decide (m=0),{N.pl with s:=s',ds:=G,fs:=true}) by unfold tsP;rw[if_pos h4,ad]);subst h4;have ah:=t' ad;clear c0 aT ad bl bm ab;go_wp2;go_ret;exact⟨_,{N.pl with s:=s',ds:=G,fs:=true},rfl,⟨_,G,s',u,i' k4,i' U,by rw[i' M];simp[show(((m:Nat):Int) ==0)=decide (m=0) from by by_cases h:m=0 <;> simp[h]],by rw[i' M]⟩,⟨_,(i' Y).put1 N.made N.stream N.may N.seen N.fa true rfl,rfl⟩,(i' av).trans (O' _ _ _ _) (fun k _ e=>by have e:k=p:=e;subst e;exact i' aH)⟩
 ·have M:=t' (show tsP N.pl e G s' u=(decide (e=0) ||N.fs&&decide (e=3),{N.pl with s:=s',ds:=G,dn:=N.pl.dn++u.map (·.data.toList)}) by unfold tsP;rw[if_neg h4];rfl);obtain⟨P,aI⟩:∃P:Pl,P={N.pl with s:=s',ds:=G}:=⟨_,rfl⟩;have bn:Hid (pX' B (K+1) p P (.slice aU m ac) u 0 x):=t' ⟨_,i' Y,by rw[aI];simp[by'.pl],rfl,rfl⟩;have bM:Hid (P.dn.length+24<=1000000000):=by rw[aI];have h1:=(i' bk).1;have h2:=(i' bk).2;show N.pl.dn.length+24<= _;omega
  have ai:=t' aI;have ah:=t' ad;have ch:m<=u.length:=by omega
  have ci:u.length<=m:=by omega
  clear c0 ax bL aT aI Y ad ab;go_wp2;go_loopw[7] (fun i wr=>∃j:Nat,j<=m/\i= .int .i64 j/\pX' B (K+1) p P (.slice aU m ac) u j wr/\Far (fun k=>B<=k) w wr) (fun i _=>m - (intOf i).toNat)
  case atStart=>exact⟨0,by omega,rfl,i' bn,i' av⟩
  case round=>
   clear bn av;obtain⟨j,hj,rfl,⟨r,z,aj,aJ,ak⟩,aK⟩:=hrel;by_cases cj:j < m
   ·have aL:j < u.length:=by omega
    have ck:(j:Int) < m:=by omega
    obtain⟨H,I,V,aW⟩:=z.dnShape;obtain⟨g,o,ao,ap,bN,aX,aM,aN,aq⟩:=z.outAt aJ (by rw[ak];exact aL);subst bN;have ay:r.oF[j]'(by rw[ak];exact aL)=u[j]:=by simp[ak]
    rw[ay]at aX aM aq;have aY:r.dn.length=P.dn.length+j:=by have e:=congrArg (fun q=>q.dn.length) aj;simp[by'.pl]at e;omega
    have aZ:=z.lt 0 p rfl;have az:∀k,(Value.slice H r.dn.length I).ownBlock=some k->k < wr.heap.size:=fun k f=>(z.lt 4 k (by show r.dnv.ownBlock=some k;rw[V];exact f)).2;have bo:∀k,(Value.slice H r.dn.length I).ownBlock=some k->B<=k:=fun k f=>(z.lt 4 k (by show r.dnv.ownBlock=some k;rw[V];exact f)).1;have aA:(Value.slice H r.dn.length I).ownBlock≠some p:=fun e=>z.ne 0 4 p (by decide) rfl (by show r.dnv.ownBlock=some p;rw[V];exact e);have bp:(Value.slice H r.dn.length I).ownBlock≠some g:=fun e=>z.ne 9 4 g (by decide) aN (by show r.dnv.ownBlock=some g;rw[V];exact e);have bO:g≠p:=fun e=>z.ne 9 0 g (by decide) aN e;have bP:=(z.lt 9 g aN).2;obtain⟨fl,aO⟩:∃fl,fl=u[j].data.toList:=⟨_,rfl⟩;rw[<-aO]at aX aM aq;have ba:0 < fl.length/\fl.length<=1000:=by rw[aO];exact(i' bm) _ (List.getElem_mem aL)
    obtain⟨ba,cl⟩:=ba;have bq:∀k,(Value.slice ao fl.length ap).ownBlock=some k->k < wr.heap.size:=fun k f=>(z.lt 9 k (aq k f)).2;have br:∀k,(Value.slice ao fl.length ap).ownBlock=some k->(Value.slice H r.dn.length I).ownBlock≠some k:=fun k f e=>z.ne 9 4 k (by decide) (aq k f) (by show r.dnv.ownBlock=some k;rw[V];exact e);have bQ:∀k,(Value.slice ao fl.length ap).ownBlock=some k->k≠p:=fun k f e=>z.ne 9 0 k (by decide) (aq k f) e;have bR:=t' aM;have aP:wr.ownsRow B 44 1 r.dnv r.dn.length (r.dn.map (·.1)):=z.at_ 4;rw[V]at aP;have bt:Hid (∀ (D:World) (v:Value),Far (fun k=>(Value.slice H r.dn.length I).ownBlock=some k) wr D->gs' B wr.heap.size (.slice H r.dn.length I) (r.dn.map (·.1)) fl v D->pX' B (K+1) p P (.slice (some ⟨g,o,none⟩) m ac) u (j+1) (D.setCell ⟨p,3,none⟩ v)):=t' (fun D v h1 h2=>by rw[<-V]at h1 h2;rw[aO]at h2;exact z.dnStep aL aj aJ ak h1 h2);have bb:(r.dn.map (·.1)).length=r.dn.length:=by rw[List.length_map]
    obtain⟨un,aQ⟩:∃un,un=r.dn.length:=⟨_,rfl⟩;obtain⟨aB,bc⟩:∃aB,aB=r.dn.map (·.1):=⟨_,rfl⟩;rw[<-aQ,<-bc]at bt aP;rw[<-bc,<-aQ]at bb;rw[<-aQ]at az bo aA bp br aW aY;have bS:=aY;have bT:=t' aP;have c0:=z.cell (j:=0) rfl;have aH:=t' (z.at_ 0:wr.heap[p]? =some (.cells (bz' r) 100 (0,0)));have Z:=t' aK;have bU:=aZ.2;have cm:=aZ.1;have bV:=bq;have cn:un+1<=1000000000:=by have:=i' bM;omega
    have co:B<=wr.heap.size:=by omega
    clear aO aP aJ ak aM aN aq ay bc aQ V aj aK aY bS aZ z bq;go_upto_region 8 with fail;refine Q' (by kernel_rfl)
     [fun v _=>v= .pointer (some ⟨p,0,none⟩),fun v _=>v= .pointer (some ⟨p,0,none⟩),fun v _=>v= .pointer (some ⟨p,0,none⟩),fun v _=>v= .pointer (some ⟨p,3,none⟩),fun v _=>v= .slice H un I,
      fun v _=>v= .slice (some ⟨g,o,none⟩) m ac,fun v _=>v= .int .i64 j,fun v _=>v= .pointer (some ⟨g,o+j,none⟩),fun v _=>v= .slice ao fl.length ap,rT' wr.heap.size fl,rU' wr.heap.size fl,gs' B wr.heap.size (.slice H un I) aB fl,
      fun v _=>v= .pointer (some ⟨p,0,none⟩),fun v _=>v= .pointer (some ⟨p,3,none⟩),fun _ D=>pX' B (K+1) p P (.slice (some ⟨g,o,none⟩) m ac) u (j+1) D]
     [[(0,none)],[(0,none)],[(32,some 1)],[(33,some 2)],[(34,some 3)],[(5,none)],[(7,none)],[(36,some 5),(37,some 6)],[(38,some 7)],[(39,some 8)],[(40,some 9)],[(35,some 4),(41,some 10)],[(31,some 0)],[(43,some 12)],[(44,some 13),(42,some 11)]] [some 31,some 32,some 33,some 34,some 35,some 36,some 37,some 38,some 39,some 40,some 41,some 42,some 43,some 44,none] [false,false,false,false,false,false,false,false,false,false,false,false,false,false,false,false,false,false,false,false,false,false,false,false,false,false,false,false,false,false,false,true,true,true,true,true,true,true,true,true,true,true,true,true,true,false,false,false,false,false,false,false,false,false,false,false,false]
     [(11,fun k=>(Value.slice H un I).ownBlock=some k),(14,fun k=>k=p)]
     (by kernel_rfl) (by kernel_rfl) (by kernel_rfl) (by kernel_rfl) (by kernel_rfl) ?_ ?_ ?_ ?_
    ·repeat' (first|exact J' _|exact ij'|exact ik'|exact il'|exact(fun _ _ _ h aC=>h.below aC)|exact trivial|apply And.intro)
    ·repeat' (first|exact trivial|exact .inl rfl|exact .inr (.inr (ak' _ _))|exact .inr (.inr (cW' (fun k f=>az k f)))|exact .inr (.inr (cW' (fun k (f:k=p)=>by omega)))|exact .inr (.inr (cX' (fun k f=>az k f)))|exact .inr (.inr (cX' (fun k (f:k=p)=>by omega)))|exact .inr (.inr (gt' (fun k (f:k=p)=>⟨by omega,by rw[f];exact aA⟩)))|exact .inr (.inl (show ar' _ 14 11=true by decide+kernel))|apply And.intro)
    ·refine⟨?_,?_,?_,?_,?_,?_,?_,?_,?_,?_,?_,?_,?_,?_,?_,trivial⟩;all_goals
      intro cp D aC au;have bu:=aC.size;have aD:=t' aC;clear aC;simp only[I',List.getD_cons_zero,List.getD_cons_succ,Array.getD_eq_getD_getElem?]at au;try simp at au
     iterate 4
      ·go_simp;exact⟨_,rfl,Far.refl _ _,rfl⟩
     ·have z0:D.cell? ⟨p,3,none⟩=some (.slice H un I):=by
       have h1:=(i' aD).rest p bU (by
        rintro⟨q,F,g1,g2,O⟩;simp at F;rcases F with rfl|rfl
        ·exact aA O
        ·exact absurd (show ar' _ 14 4=false from g2) (by decide+kernel))
       exact(World.cell?_of_block h1).trans aW
      go_simp;exact⟨_,rfl,Far.refl _ _,rfl⟩
     iterate 3
      ·go_simp;exact⟨_,rfl,Far.refl _ _,rfl⟩
     ·have z0:D.cell? ⟨g,o+j,none⟩=some (.slice ao fl.length ap):=by
       have h1:=(i' aD).rest g bP (by
        rintro⟨q,F,_,_,O⟩;simp at F;rcases F with rfl|rfl
        ·exact bp O
        ·exact bO O)
       exact(World.cell?_of_block h1).trans aX
      go_simp;exact⟨_,rfl,Far.refl _ _,rfl⟩
     ·have bw:Y' D (.slice ao fl.length ap) fl:=as'.at (B:=B) (M' (w':=D) (i' bR) (fun k f=>(i' aD).rest k (bV k f) (by
       rintro⟨q,F,_,_,O⟩;simp at F;rcases F with rfl|rfl
       ·exact br k f O
       ·exact bQ k f O)))
      have bW:=t' (lm' _ fl D bw ba (by omega));clear bw;go_simp;refine(i' bW).mono ?_;rintro bK cq ⟨v9,rfl,bd,aR⟩;exact⟨_,rfl,A' aR,as'.mono bd bu⟩
     ·have be:as' wr.heap.size D _ fl:=au;obtain⟨cr,cs,X,_⟩:=be.shape;have bz:=t' be;clear au be;rw[X]at bz;go_simp;exact⟨_,rfl,A' ((Below.refl _ _).alloc (Nat.le_refl _) _),_,_,rfl,bu,heap_alloc_new D _,ca' (i' bz) ((Below.refl _ _).alloc (Nat.le_refl _) _)⟩
     ·obtain⟨bX,bY,u9,bZ,cu,ca,aS⟩:=au;have cb:=M' (w':=D) (i' bT) (fun k f=>(i' aD).rest k (az k f) (by
       rintro⟨q,F,g1,g2,O⟩;simp at F;rcases F with rfl|rfl
       ·exact g1 rfl
       ·have e:k=p:=O;exact aA (by rw[<-e];exact f)))
      obtain⟨_,_,X,_⟩:=aS.shape;refine eW' rfl (.tmp 35) (.tmp 41) 38 rfl B 44 (.slice none 0 0) 1 24 Tryz.underlying38 (by kernel_rfl) rfl (by decide) (.slice H un I) un aB cb (by simp[Act.eval,bX]) ⟨bY,0,none⟩ 1 1 [u9] (by simp[Act.eval,bZ]) rfl ?_ (by intro cc hu;simp at hu;subst hu;rw[X];rfl) (by unfold maxLen;omega) (by omega) (by omega) ?_
      ·intro k cc f;rw[cE',m' ca,Nat.zero_add];simpa using f
      ·intro bA w' bd aR cd;refine⟨bA,rfl,ac' (.head _) (bl' aR),u9,by rw[bb];exact bd,?_,fun k f=>?_⟩
       ·exact M' aS (fun k f=>(bl' aR).rest k (aS.lt k f).2 (fun e=>by have:=az k e;have:=(aS.lt k f).1;omega))
       ·have f:bA.ownBlock=some k:=f;rcases cd with e|e
        ·exact .inl (by rw[<-e];exact f)
        ·rw[e]at f;injection f with f;exact .inr (by omega)
     iterate 2
      ·go_simp;exact⟨_,rfl,Far.refl _ _,rfl⟩
     ·have bf:Far (fun k=>(Value.slice H un I).ownBlock=some k) wr D:=(i' aD).mono (by
       rintro k _ ⟨q,F,g1,g2,O⟩;simp at F;rcases F with rfl|rfl
       ·exact O
       ·exact absurd rfl g1)
      have bg:=bf.blk (i' aH) aA;have cv:D.frozen? ⟨p,3,none⟩=false:=D' (i:=3) bg;have bB:∃v0,D.cell? ⟨p,3,none⟩=some v0:=⟨_,by rw[m' bg,<-m' (i' aH)];exact aW⟩;obtain⟨v0,bB⟩:=bB;obtain⟨cw,u9,bh,bC,bD⟩:=au;obtain⟨cx,cy,ce,_⟩:=(al' bh).shape;have bE:=t' (show gs' B wr.heap.size (.slice H un I) aB fl _ D from⟨u9,bh,bC,bD⟩);have cf:=t' bf;clear bh bC bD bg bf;rw[ce,bb]at bE;go_simp;exact⟨ac' (.tail _ (.head _)) (O' D p 3 _),i' bt D _ (i' cf) (i' bE)⟩
    ·intro J D bF bG;have bH:=bG.2.2.2.2.2.2.2.2.2.2.2.2.2.2.1;have cg:=t' bH;have ab:=t' (bF.mono (fun k _ h=>by
      obtain⟨q,F,h⟩:=h;simp at F;rcases F with rfl|rfl
      ·exact bo k h
      ·have:k=p:=h;omega):Far (fun k=>B<=k) wr D)
     clear bG bF bH;simp only[R'];generalize J 31=cz;generalize J 32=cA;generalize J 33=cB;generalize J 34=cC;generalize J 35=cD;generalize J 36=cE;generalize J 37=cF;generalize J 38=cG;generalize J 39=cH;generalize J 40=cI;generalize J 41=cJ;generalize J 42=cK;generalize J 43=cL;generalize J 44=cM;go_wp2;go_roundw
     case rel=>exact⟨j+1,by omega,by go_num,i' cg,(i' Z).trans (i' ab) (fun _ _ h=>h)⟩
     case measure=>simp[intOf];omega
   ·have X:j=m:=by omega
    subst X;have cN:¬ (j:Int) < j:=by omega
    have ay:r.fs=N.fs:=by have X:=congrArg Pl.fs aj;rw[i' ai]at X;exact X
    have ax:wr.cell? ⟨p,14,none⟩=some (.bool r.fs):=z.cell (j:=14) rfl;rw[ay]at ax;have aE:=t' z;have Z:=t' aK;have aF:=t' aj;clear z aK aj aJ ak ay;cases aa:N.fs
    ·rw[aa]at ax;by_cases h0:e=0
     ·subst h0;go_wp2;go_ret;exact⟨_,_,rfl,⟨_,G,s',u,i' k4,i' U,by rw[i' M,aa];simp,rfl⟩,⟨r,i' aE,by rw[i' M,i' aF,i' ai,i' ah,List.take_length]⟩,i' Z⟩
     ·go_wp2;go_ret;exact⟨_,_,rfl,⟨_,G,s',u,i' k4,i' U,by rw[i' M,aa];simp[h0],rfl⟩,⟨r,i' aE,by rw[i' M,i' aF,i' ai,i' ah,List.take_length]⟩,i' Z⟩
    ·rw[aa]at ax;by_cases h0:e=0
     ·subst h0;go_wp2;go_ret;exact⟨_,_,rfl,⟨_,G,s',u,i' k4,i' U,by rw[i' M,aa];simp,rfl⟩,⟨r,i' aE,by rw[i' M,i' aF,i' ai,i' ah,List.take_length]⟩,i' Z⟩
     ·by_cases h3:e=3
      ·subst h3;go_wp2;go_ret;exact⟨_,_,rfl,⟨_,G,s',u,i' k4,i' U,by rw[i' M,aa];simp,rfl⟩,⟨r,i' aE,by rw[i' M,i' aF,i' ai,i' ah,List.take_length]⟩,i' Z⟩
      ·go_wp2;go_ret;exact⟨_,_,rfl,⟨_,G,s',u,i' k4,i' U,by rw[i' M,aa];simp[h0,h3],rfl⟩,⟨r,i' aE,by rw[i' M,i' aF,i' ai,i' ah,List.take_length]⟩,i' Z⟩
def tkP (P:Pl):Pl:={P with a:=(cB' P.da P.a).1,up:=P.up++(cB' P.da P.a).2}
def TkR (P:Pl) (v:Value) (f:Pl):Prop:=v= .tuple #[]/\f=tkP P
theorem qe' {B K p b:Nat} {w:World} {P:Pl} (O:cb' B K p w P) (aa:dN' b P) (hF:(cB' P.da P.a).2.length<=12/\∀l∈ (cB' P.da P.a).2,0 < l.length/\l.length<=1000):
  Calls Tryz.prog 69 #[.pointer (some ⟨p,0,none⟩)] w (dO' B K p w (TkR P)):=by
 obtain⟨N,O,rfl⟩:=O;have c0:=O.cell (j:=0) rfl;have bb:AgE N.da w N.va N.a N.ua:=O.at_ 1;have aI:=t' (bb.tick aa.ag (by have:=aa.lim;omega));have bc:=t' O;have bB:=t' (fun k f=>(O.lt 1 k f).1);have bd:=t' (And.intro aa.up aa.lim);obtain⟨fr,ak⟩:∃fr,fr=(cB' N.da N.a).2:=⟨_,rfl⟩;obtain⟨ao,aJ⟩:∃ao,ao=(cB' N.da N.a).1:=⟨_,rfl⟩;have bC:=t' (show tkP N.pl={N.pl with a:=ao,up:=N.pl.up++fr} by rw[aJ,ak];rfl);have ap:Hid (fr.length<=12/\∀l∈fr,0 < l.length/\l.length<=1000):=by rw[ak];exact hF
 rw[<-ak,<-aJ]at aI;obtain⟨F,aq⟩:∃F:List ByteArray,F=fr.map fun l=>⟨l.toArray⟩:=⟨_,rfl⟩;rw[<-aq]at aI;have aK:F.map (·.data.toList)=fr:=by rw[aq,List.map_map];simp[Function.comp_def]
 have bD:F.length<=12:=by rw[aq,List.length_map];exact(i' ap).1
 replace ap:Hid (∀x∈F,0 < x.data.toList.length/\x.data.toList.length<=1000):=t' (fun x bE=>(i' ap).2 _ (by rw[<-aK];exact List.mem_map_of_mem bE));have bF:=t' aK;clear O bb aa hF ak aJ aq aK;go_enter Tryz.func69,Tryz.ntmps69;go_upto_region 1 with (go_at_call 24;refine(i' aI).mono ?_;rintro bG x ⟨lv,ol,U',rfl,k0,k1,k2,k3⟩;have z:=(i' bc).agentO k0 k1 k2 k3;have au:Far (fun k=>B<=k) w x:=k2.mono (fun k _ h=>(i' bB) k h);clear k0 k1 k2 k3;have av:=t' z;clear z;replace au:=t' au;obtain⟨aL,Q,e⟩:=(i' av).outShape;have e:lv= .slice aL F.length Q:=e;subst e);obtain⟨m,aM⟩:∃m,m=F.length:=⟨_,rfl⟩;rw[<-aM]at av bD ⊢;obtain⟨P,ax⟩:∃P:Pl,P={N.pl with a:=ao}:=⟨_,rfl⟩;have be:Hid (pW' B K p P (.slice aL m Q) F 0 x):=t' ⟨_,i' av,by rw[ax];simp[by'.pl],rfl,rfl⟩;have bH:Hid (P.up.length+24<=1000000000):=by rw[ax];have h1:=(i' bd).1;have h2:=(i' bd).2;show N.pl.up.length+24<= _;omega
 have bI:=t' ax;have bJ:=t' aM;have ch:m<=F.length:=by omega
 have ci:F.length<=m:=by omega
 clear c0 bc ax av aM;go_wp2;go_loopw[3] (fun i wr=>∃j:Nat,j<=m/\i= .int .i64 j/\pW' B K p P (.slice aL m Q) F j wr/\Far (fun k=>B<=k) w wr) (fun i _=>m - (intOf i).toNat)
 case atStart=>exact⟨0,by omega,rfl,i' be,i' au⟩
 case round=>
  clear be au;obtain⟨j,hj,rfl,⟨r,z,ab,ay,U⟩,az⟩:=hrel;by_cases cj:j < m
  ·have aA:j < F.length:=by omega
   have ck:(j:Int) < m:=by omega
   obtain⟨G,H,M,aN⟩:=z.upShape;obtain⟨g,o,V,X,bK,aO,aB,aC,Y⟩:=z.outAt ay (by rw[U];exact aA);subst bK;have bf:r.oF[j]'(by rw[U];exact aA)=F[j]:=by simp[U]
   rw[bf]at aO aB Y;have aP:r.up.length=P.up.length+j:=by have e:=congrArg (fun q=>q.up.length) ab;simp[by'.pl]at e;omega
   have aQ:=z.lt 0 p rfl;have ac:∀k,(Value.slice G r.up.length H).ownBlock=some k->k < wr.heap.size:=fun k f=>(z.lt 3 k (by show r.upv.ownBlock=some k;rw[M];exact f)).2;have bg:∀k,(Value.slice G r.up.length H).ownBlock=some k->B<=k:=fun k f=>(z.lt 3 k (by show r.upv.ownBlock=some k;rw[M];exact f)).1;have ad:(Value.slice G r.up.length H).ownBlock≠some p:=fun e=>z.ne 0 3 p (by decide) rfl (by show r.upv.ownBlock=some p;rw[M];exact e);have bh:(Value.slice G r.up.length H).ownBlock≠some g:=fun e=>z.ne 9 3 g (by decide) aC (by show r.upv.ownBlock=some g;rw[M];exact e);have bL:g≠p:=fun e=>z.ne 9 0 g (by decide) aC e;have bM:=(z.lt 9 g aC).2;obtain⟨fl,aD⟩:∃fl,fl=F[j].data.toList:=⟨_,rfl⟩;rw[<-aD]at aO aB Y;have aR:0 < fl.length/\fl.length<=1000:=by rw[aD];exact(i' ap) _ (List.getElem_mem aA)
   obtain⟨aR,cl⟩:=aR;have bi:∀k,(Value.slice V fl.length X).ownBlock=some k->k < wr.heap.size:=fun k f=>(z.lt 9 k (Y k f)).2;have bj:∀k,(Value.slice V fl.length X).ownBlock=some k->(Value.slice G r.up.length H).ownBlock≠some k:=fun k f e=>z.ne 9 3 k (by decide) (Y k f) (by show r.upv.ownBlock=some k;rw[M];exact e);have bN:∀k,(Value.slice V fl.length X).ownBlock=some k->k≠p:=fun k f e=>z.ne 9 0 k (by decide) (Y k f) e;have bO:=t' aB;have aE:wr.ownsRow B 44 1 r.upv r.up.length (r.up.map (·.1)):=z.at_ 3;rw[M]at aE;have bk:Hid (∀ (u:World) (v:Value),Far (fun k=>(Value.slice G r.up.length H).ownBlock=some k) wr u->gs' B wr.heap.size (.slice G r.up.length H) (r.up.map (·.1)) fl v u->pW' B K p P (.slice (some ⟨g,o,none⟩) m Q) F (j+1) (u.setCell ⟨p,2,none⟩ v)):=t' (fun u v h1 h2=>by rw[<-M]at h1 h2;rw[aD]at h2;exact z.upStep aA ab ay U h1 h2);have aS:(r.up.map (·.1)).length=r.up.length:=by rw[List.length_map]
   obtain⟨un,aF⟩:∃un,un=r.up.length:=⟨_,rfl⟩;obtain⟨ah,aT⟩:∃ah,ah=r.up.map (·.1):=⟨_,rfl⟩;rw[<-aF,<-aT]at bk aE;rw[<-aT,<-aF]at aS;rw[<-aF]at ac bg ad bh bj aN aP;have bP:=aP;have bQ:=t' aE;have c0:=z.cell (j:=0) rfl;have bl:=t' (z.at_ 0:wr.heap[p]? =some (.cells (bz' r) 100 (0,0)));have aU:=t' az;have bR:=aQ.2;have cm:=aQ.1;have bS:=bi;have cn:un+1<=1000000000:=by have:=i' bH;omega
   have co:B<=wr.heap.size:=by omega
   clear aD aE ay U aB aC Y bf aT aF M ab az aP bP aQ z bi;go_upto_region 4 with fail;refine Q' (by kernel_rfl)
    [fun v _=>v= .pointer (some ⟨p,0,none⟩),fun v _=>v= .pointer (some ⟨p,0,none⟩),fun v _=>v= .pointer (some ⟨p,0,none⟩),fun v _=>v= .pointer (some ⟨p,2,none⟩),fun v _=>v= .slice G un H,
     fun v _=>v= .slice (some ⟨g,o,none⟩) m Q,fun v _=>v= .int .i64 j,fun v _=>v= .pointer (some ⟨g,o+j,none⟩),fun v _=>v= .slice V fl.length X,rT' wr.heap.size fl,rU' wr.heap.size fl,gs' B wr.heap.size (.slice G un H) ah fl,
     fun v _=>v= .pointer (some ⟨p,0,none⟩),fun v _=>v= .pointer (some ⟨p,2,none⟩),fun _ u=>pW' B K p P (.slice (some ⟨g,o,none⟩) m Q) F (j+1) u]
    [[(0,none)],[(0,none)],[(16,some 1)],[(17,some 2)],[(18,some 3)],[(2,none)],[(3,none)],[(20,some 5),(21,some 6)],[(22,some 7)],[(23,some 8)],[(24,some 9)],[(19,some 4),(25,some 10)],[(15,some 0)],[(27,some 12)],[(28,some 13),(26,some 11)]] [some 15,some 16,some 17,some 18,some 19,some 20,some 21,some 22,some 23,some 24,some 25,some 26,some 27,some 28,none] [false,false,false,false,false,false,false,false,false,false,false,false,false,false,false,true,true,true,true,true,true,true,true,true,true,true,true,true,true]
    [(11,fun k=>(Value.slice G un H).ownBlock=some k),(14,fun k=>k=p)]
    (by kernel_rfl) (by kernel_rfl) (by kernel_rfl) (by kernel_rfl) (by kernel_rfl) ?_ ?_ ?_ ?_
   ·repeat' (first|exact J' _|exact ij'|exact ik'|exact il'|exact(fun _ _ _ h ai=>h.below ai)|exact trivial|apply And.intro)
   ·repeat' (first|exact trivial|exact .inl rfl|exact .inr (.inr (ak' _ _))|exact .inr (.inr (cW' (fun k f=>ac k f)))|exact .inr (.inr (cW' (fun k (f:k=p)=>by omega)))|exact .inr (.inr (cX' (fun k f=>ac k f)))|exact .inr (.inr (cX' (fun k (f:k=p)=>by omega)))|exact .inr (.inr (gt' (fun k (f:k=p)=>⟨by omega,by rw[f];exact ad⟩)))|exact .inr (.inl (show ar' _ 14 11=true by decide+kernel))|apply And.intro)
   ·refine⟨?_,?_,?_,?_,?_,?_,?_,?_,?_,?_,?_,?_,?_,?_,?_,trivial⟩;all_goals
     intro cp u ai Z;have bm:=ai.size;have aj:=t' ai;clear ai;simp only[I',List.getD_cons_zero,List.getD_cons_succ,Array.getD_eq_getD_getElem?]at Z;try simp at Z
    iterate 4
     ·go_simp;exact⟨_,rfl,Far.refl _ _,rfl⟩
    ·have z0:u.cell? ⟨p,2,none⟩=some (.slice G un H):=by
      have h1:=(i' aj).rest p bR (by
       rintro⟨q,D,g1,g2,J⟩;simp at D;rcases D with rfl|rfl
       ·exact ad J
       ·exact absurd (show ar' _ 14 4=false from g2) (by decide+kernel))
      exact(World.cell?_of_block h1).trans aN
     go_simp;exact⟨_,rfl,Far.refl _ _,rfl⟩
    iterate 3
     ·go_simp;exact⟨_,rfl,Far.refl _ _,rfl⟩
    ·have z0:u.cell? ⟨g,o+j,none⟩=some (.slice V fl.length X):=by
      have h1:=(i' aj).rest g bM (by
       rintro⟨q,D,_,_,J⟩;simp at D;rcases D with rfl|rfl
       ·exact bh J
       ·exact bL J)
      exact(World.cell?_of_block h1).trans aO
     go_simp;exact⟨_,rfl,Far.refl _ _,rfl⟩
    ·have bn:Y' u (.slice V fl.length X) fl:=as'.at (B:=B) (M' (w':=u) (i' bO) (fun k f=>(i' aj).rest k (bS k f) (by
      rintro⟨q,D,_,_,J⟩;simp at D;rcases D with rfl|rfl
      ·exact bj k f J
      ·exact bN k f J)))
     have bT:=t' (lm' _ fl u bn aR (by omega));clear bn;go_simp;refine(i' bT).mono ?_;rintro bG cq ⟨v9,rfl,aV,aG⟩;exact⟨_,rfl,A' aG,as'.mono aV bm⟩
    ·have aW:as' wr.heap.size u _ fl:=Z;obtain⟨cr,cs,aX,_⟩:=aW.shape;have bo:=t' aW;clear Z aW;rw[aX]at bo;go_simp;exact⟨_,rfl,A' ((Below.refl _ _).alloc (Nat.le_refl _) _),_,_,rfl,bm,heap_alloc_new u _,ca' (i' bo) ((Below.refl _ _).alloc (Nat.le_refl _) _)⟩
    ·obtain⟨bU,bV,u9,bW,cu,bX,aH⟩:=Z;have bY:=M' (w':=u) (i' bQ) (fun k f=>(i' aj).rest k (ac k f) (by
      rintro⟨q,D,g1,g2,J⟩;simp at D;rcases D with rfl|rfl
      ·exact g1 rfl
      ·have e:k=p:=J;exact ad (by rw[<-e];exact f)))
     obtain⟨_,_,aX,_⟩:=aH.shape;refine eW' rfl (.tmp 19) (.tmp 25) 38 rfl B 44 (.slice none 0 0) 1 24 Tryz.underlying38 (by kernel_rfl) rfl (by decide) (.slice G un H) un ah bY (by simp[Act.eval,bU]) ⟨bV,0,none⟩ 1 1 [u9] (by simp[Act.eval,bW]) rfl ?_ (by intro bZ hu;simp at hu;subst hu;rw[aX];rfl) (by unfold maxLen;omega) (by omega) (by omega) ?_
     ·intro k bZ f;rw[cE',m' bX,Nat.zero_add];simpa using f
     ·intro bp w' aV aG ca;refine⟨bp,rfl,ac' (.head _) (bl' aG),u9,by rw[aS];exact aV,?_,fun k f=>?_⟩
      ·exact M' aH (fun k f=>(bl' aG).rest k (aH.lt k f).2 (fun e=>by have:=ac k e;have:=(aH.lt k f).1;omega))
      ·have f:bp.ownBlock=some k:=f;rcases ca with e|e
       ·exact .inl (by rw[<-e];exact f)
       ·rw[e]at f;injection f with f;exact .inr (by omega)
    iterate 2
     ·go_simp;exact⟨_,rfl,Far.refl _ _,rfl⟩
    ·have aY:Far (fun k=>(Value.slice G un H).ownBlock=some k) wr u:=(i' aj).mono (by
      rintro k _ ⟨q,D,g1,g2,J⟩;simp at D;rcases D with rfl|rfl
      ·exact J
      ·exact absurd rfl g1)
     have aZ:=aY.blk (i' bl) ad;have cv:u.frozen? ⟨p,2,none⟩=false:=D' (i:=2) aZ;have bq:∃v0,u.cell? ⟨p,2,none⟩=some v0:=⟨_,by rw[m' aZ,<-m' (i' bl)];exact aN⟩;obtain⟨v0,bq⟩:=bq;obtain⟨cw,u9,ba,br,bt⟩:=Z;obtain⟨cx,cy,cb,_⟩:=(al' ba).shape;have bu:=t' (show gs' B wr.heap.size (.slice G un H) ah fl _ u from⟨u9,ba,br,bt⟩);have cc:=t' aY;clear ba br bt aZ aY;rw[cb,aS]at bu;go_simp;exact⟨ac' (.tail _ (.head _)) (O' u p 2 _),i' bk u _ (i' cc) (i' bu)⟩
   ·intro I u bw bz;have bA:=bz.2.2.2.2.2.2.2.2.2.2.2.2.2.2.1;have cd:=t' bA;have ce:=t' (bw.mono (fun k _ h=>by
     obtain⟨q,D,h⟩:=h;simp at D;rcases D with rfl|rfl
     ·exact bg k h
     ·have:k=p:=h;omega):Far (fun k=>B<=k) wr u)
    clear bz bw bA;simp only[R'];generalize I 15=cz;generalize I 16=cA;generalize I 17=cB;generalize I 18=cC;generalize I 19=cD;generalize I 20=cE;generalize I 21=cF;generalize I 22=cG;generalize I 23=cH;generalize I 24=cI;generalize I 25=cJ;generalize I 26=cK;generalize I 27=cL;generalize I 28=cM;go_wp2;go_roundw
    case rel=>exact⟨j+1,by omega,by go_num,i' cd,(i' aU).trans (i' ce) (fun _ _ h=>h)⟩
    case measure=>simp[intOf];omega
  ·have e:j=m:=by omega
   subst e;have cN:¬ (j:Int) < j:=by omega
   have cf:=t' z;have aU:=t' az;have cg:=t' ab;clear z az ab ay U;go_wp2;refine bodyPost_end (results_none rfl _ _ _) rfl ?_;refine⟨_,_,rfl,⟨rfl,rfl⟩,⟨r,i' cf,?_⟩,i' aU⟩;rw[i' cg,i' bC,i' bI,i' bJ,List.take_length,i' bF]
end Go.Proofs.YtamafdcnbcoegaaGreat
namespace Go.Proofs.YtamafdcnbcoegaaGreat
def Pre (L T:List ByteArray):Prop:=∀ (j:Nat) (x:ByteArray),L[j]? =some x->T[j]? =some x
theorem Pre.refl (T:List ByteArray):Pre T T:=fun _ _ h=>h
theorem Pre.trans {L T S:List ByteArray} (h:Pre L T) (f:Pre T S):Pre L S:=fun j x r=>f j x (h j x r)
theorem Pre.len {L T:List ByteArray} (h:Pre L T):L.length<=T.length:=by
 by_cases h0:T.length < L.length
 ·have:=h T.length L[T.length] (List.getElem?_eq_getElem h0);rw[List.getElem?_eq_none (Nat.le_refl _)]at this;cases this
 ·omega
theorem Pre.take {L T:List ByteArray} (h:Pre L T):T.take L.length=L:=by
 apply List.ext_getElem?;intro j;rw[List.getElem?_take];split
 ·rename_i hj;rw[List.getElem?_eq_getElem hj];exact h j _ (List.getElem?_eq_getElem hj)
 ·rw[List.getElem?_eq_none (by omega)]
theorem Pre.app (L r:List ByteArray):Pre L (L++r):=fun j x f=>by
 rw[List.getElem?_append_left (List.getElem?_eq_some_iff.1 f).1];exact f
def fb' (T:Nat->List ByteArray) (s q:Nat) (b:ByteArray):Prop:=1<=q/\(T s)[q - 1]? =some b
def lr' (T f:Nat->List ByteArray):Prop:=∀s,Pre (T s) (f s)
theorem lr'.refl (T:Nat->List ByteArray):lr' T T:=fun _=>Pre.refl _
theorem fb'.grows {T f:Nat->List ByteArray} {s q:Nat} {b:ByteArray} (h:fb' T s q b) (g:lr' T f):fb' f s q b:=⟨h.1,g s _ _ h.2⟩
def ls' (T:Nat->List ByteArray) (E:Nat) (l:List UInt8):Prop:=
 Wire.reads l=true/\Wire.epochOf l<=(E:Int)/\(Wire.kindOf l=1\/(Wire.kindOf l=3/\fb' T (Wire.streamOf l).toNat (Wire.seqOf l).toNat (Wire.bodyOf l)))
def in' (lg:Nat->List ByteArray) (E f:Nat) (l:List UInt8):Prop:=
 Wire.reads l=true/\((Wire.kindOf l=5/\Wire.epochOf l<=(E:Int))\/
  (Wire.kindOf l=2/\Wire.epochOf l<=(f:Int)/\∀s,s < 3->Wire.numAt (Wire.bodyOf l).data.toList (4 * s)<=((lg s).length:Int))\/
  (Wire.kindOf l=4/\Wire.epochOf l<=(f:Int)/\Wire.seqOf l<=((lg (Wire.streamOf l).toNat).length:Int)))
theorem ls'.mono {T f:Nat->List ByteArray} {E E':Nat} {l:List UInt8} (h:ls' T E l) (g:lr' T f) (r:E<=E'):ls' f E' l:=by
 obtain⟨h1,h2,h3⟩:=h;exact⟨h1,by omega,h3.imp id (fun h=>⟨h.1,h.2.grows g⟩)⟩
theorem in'.mono {lg f:Nat->List ByteArray} {E E' r u:Nat} {l:List UInt8} (h:in' lg E r l) (g:∀s,(lg s).length<=(f s).length) (z:E<=E') (hs:r<=u):in' f E' u l:=by
 obtain⟨h1,h3⟩:=h;refine⟨h1,?_⟩;rcases h3 with ⟨h2,h3⟩|⟨h2,h3,h4⟩|⟨h2,h3,h4⟩
 ·exact .inl ⟨h2,by omega⟩
 ·exact .inr (.inl ⟨h2,by omega,fun s hs=>by have:=h4 s hs;have:=g s;omega⟩)
 ·exact .inr (.inr ⟨h2,by omega,by have:=g (Wire.streamOf l).toNat;omega⟩)
theorem iU' {l:List UInt8} (h:Wire.reads l=true):0 < l.length/\l.length<=1000:=by
 unfold Wire.reads Wire.whole at h;simp only[Bool.and_eq_true,decide_eq_true_eq]at h;obtain⟨⟨h1,h2,_⟩,_⟩:=h;have:(l.getD 10 0).toNat < 256:=UInt8.toNat_lt _;omega
theorem dc' {k:Int} {e s q:Nat} {b:ByteArray} (f:Wire.proper k e s q b=true):
  Wire.reads (Wire.bytes k e s q b.data.toList)=true/\Wire.kindOf (Wire.bytes k e s q b.data.toList)=k/\Wire.epochOf (Wire.bytes k e s q b.data.toList)=e/\Wire.streamOf (Wire.bytes k e s q b.data.toList)=s/\Wire.seqOf (Wire.bytes k e s q b.data.toList)=q/\Wire.bodyOf (Wire.bytes k e s q b.data.toList)=b:=by
 obtain⟨h1,h2,h3,h4,h5⟩:=di' f;obtain⟨g0,g1,g2,r,u,z⟩:=Wire.parts_bytes (k:=k) (e:=e) (s:=s) (q:=q) (b:=b) (by omega) (by omega) (by omega) (by omega) (by omega);refine⟨?_,g1,g2,r,u,z⟩;unfold Wire.reads;rw[g0,g1,g2,r,u,z,f];rfl
theorem sU' {T:Nat->List ByteArray} {E e s q:Nat} {b:ByteArray} (f:fb' T s q b) (hs:s < 3) (D:e<=E) (F:E<=2147483647) (G:q<=2147483647) (H:b.size<=20):ls' T E (Wire.bytes 3 e s q b.data.toList):=by
 have I:=f.1;obtain⟨g1,g2,J,r,u,z⟩:=dc' (k:=3) (e:=e) (s:=s) (q:=q) (b:=b) (by simp[Wire.proper,Wire.isNum,Wire.isStr];omega);refine⟨g1,by omega, .inr ⟨g2,?_⟩⟩;rw[r,u,z];exact f
theorem rr' {T:Nat->List ByteArray} {E e:Nat} (f:e<=E) (r:E<=2147483647):ls' T E (Wire.bytes 1 e 0 0 []):=by
 obtain⟨g1,g2,u,z,D,F⟩:=dc' (k:=1) (e:=e) (s:=0) (q:=0) (b:=⟨#[]⟩) (by simp[Wire.proper,Wire.isNum,ByteArray.size];omega);exact⟨g1,by rw[pR'];omega, .inl g2⟩
structure AgI (b:Nat) (T lg:Nat->List ByteArray) (se:Nat) (a:Mod.Ag):Prop where
 good:aH' b a
 ep:a.epoch<=b+1
 sep:se<=a.epoch
 room:a.room<=24
 kept:∀s,s < 3->(a.fl s).base<=(T s).length/\a.spool s=(T s).drop (a.fl s).base
 base:∀s,s < 3->(a.fl s).base<=(lg s).length
 fen:a.fenced=false
 wel:a.welcome=true->se=a.epoch
 hld:∀s,s < 3->∀n∈ (a.fl s).held,(a.fl s).base+2<=n/\n<=(a.fl s).base+4
section
variable {b se:Nat} {T lg:Nat->List ByteArray} {a:Mod.Ag}
theorem AgI.mono (f:AgI b T lg se a) {r:Nat} (h:b<=r):AgI r T lg se a:=
 ⟨f.good.mono h,by have:=f.ep;omega,f.sep,f.room,f.kept,f.base,f.fen,f.wel,f.hld⟩
theorem AgI.sink (f:AgI b T lg se a) {u:Nat->List ByteArray} {r:Nat} (g:∀s,(lg s).length<=(u s).length) (h1:se<=r) (h2:r<=a.epoch):AgI b T u r a:=
 ⟨f.good,f.ep,h2,f.room,f.kept,fun s hs=>Nat.le_trans (f.base s hs) (g s),f.fen,fun h=>by have:=f.wel h;omega,f.hld⟩
theorem wb' (a:Mod.Ag) (s:Nat):(a.spool s).length=(a.fl s).kept.length:=by simp[Mod.Ag.spool]
theorem AgI.at_ (f:AgI b T lg se a) {s:Nat} (hs:s < 3) {j:Nat} {x:ByteArray×Nat} (h:(a.fl s).kept[j]? =some x):(T s)[(a.fl s).base+j]? =some x.1:=by
 have h1:(a.spool s)[j]? =some x.1:=by simp[Mod.Ag.spool,h]
 rw[(f.kept s hs).2,List.getElem?_drop]at h1;exact h1
theorem sV' (a:Mod.Ag) {i:Nat} (hi:i < 3) (x:ByteArray):(a.submit i x).room=a.room+1:=by
 obtain rfl|rfl|rfl:i=0\/i=1\/i=2:=by omega
 all_goals
  simp[Mod.Ag.room,Mod.Ag.submit,Mod.upd];try omega
theorem AgI.submit (f:AgI b T lg se a) {i:Nat} (hi:i < 3) {x:ByteArray} (z:x.size<=20) (D:a.room < 24):AgI (b+1) (fun t=>if t=i then T i++[x]else T t) lg se (a.submit i x):=by
 have h1:=gi' f.good i x z;have F:=f.ep;have r:∀s,((a.submit i x).fl s).base=(a.fl s).base/\((a.submit i x).fl s).held=(a.fl s).held/\(a.submit i x).spool s=if s=i then a.spool i++[x]else a.spool s:=fun s=>by
  unfold Mod.Ag.spool Mod.Ag.submit Mod.upd;by_cases e:s=i
  ·subst e;simp
  ·simp[e]
 refine⟨h1,by show a.epoch<= _;omega,f.sep,by rw[sV' a hi];omega,fun s hs=>?_,fun s hs=>by rw[(r s).1];exact f.base s hs,f.fen,f.wel,fun s hs n u=>by rw[(r s).2.1]at u;rw[(r s).1];exact f.hld s hs n u⟩;rw[(r s).1,(r s).2.2];obtain⟨k1,k2⟩:=f.kept s hs;by_cases e:s=i
 ·subst e;simp only[if_true];refine⟨by rw[List.length_append];omega,?_⟩;rw[k2,List.drop_append,show(a.fl s).base - (T s).length=0 by omega,List.drop_zero]
 ·rw[if_neg e,if_neg e];exact⟨k1,k2⟩
theorem AgI.reop (f:AgI b T lg se a) (D:b+2<=2147483647):AgI (b+1) T lg se (Mod.reop a):=by
 have F:=f.ep;have r:∀s,s < 3->((Mod.reop a).fl s).base=(a.fl s).base/\((Mod.reop a).fl s).held=[]/\(Mod.reop a).spool s=a.spool s:=fun s hs=>by unfold Mod.Ag.spool Mod.reop;simp[hs]
 refine⟨(pN' f.good (by omega)).mono (Nat.le_succ _),by show a.epoch+1<= _;omega,by have:=f.sep;show se<=a.epoch+1;omega,?_,fun s hs=>by rw[(r s hs).1,(r s hs).2.2];exact f.kept s hs,fun s hs=>by rw[(r s hs).1];exact f.base s hs,rfl,fun h=>(by cases h),fun s hs n u=>(by rw[(r s hs).2.1]at u;cases u)⟩;have z:=f.room;simpa[Mod.Ag.room,Mod.reop]using z
theorem cY' (e s:Nat) (f:Mod.Flow) (t:Nat):∀i,∀l∈ (Mod.sendTo e s f t i).2,∃j x,f.kept[j]? =some x/\l=Wire.bytes 3 e s (f.base+1+j:Nat) x.1.data.toList
 |0,l,h=>by simp[Mod.sendTo]at h
 |i+1,l,h=>by
  simp only[Mod.sendTo]at h;cases r:f.kept[i]? with
  |none=>rw[r]at h;exact cY' e s f t i l h
  |some x=>
   rw[r]at h;simp only at h;split at h
   ·rcases List.mem_append.1 h with h|h
    ·exact cY' e s f t i l h
    ·rw[List.mem_singleton]at h;exact⟨i,x,r,h⟩
   ·exact cY' e s f t i l h
theorem fM' (e t:Nat) (f:Nat->Mod.Flow):∀n,∀l∈Mod.sendOut e t f n,∃s j x,s < n/\(f s).kept[j]? =some x/\l=Wire.bytes 3 e s ((f s).base+1+j:Nat) x.1.data.toList
 |0,l,h=>by simp[Mod.sendOut]at h
 |n+1,l,h=>by
  simp only[Mod.sendOut]at h;rcases List.mem_append.1 h with h|h
  ·obtain⟨s,j,x,h1,h2⟩:=fM' e t f n l h;exact⟨s,j,x,by omega,h2⟩
  ·obtain⟨j,x,h1,h2⟩:=cY' _ _ _ _ _ l h;exact⟨n,j,x,by omega,h1,h2⟩
theorem lt' (a:Mod.Ag):a.tick.1.epoch=a.epoch/\a.tick.1.fenced=a.fenced/\a.tick.1.welcome=a.welcome/\∀s,(a.tick.1.fl s).held=(a.fl s).held:=by
 unfold Mod.Ag.tick;split
 ·exact⟨rfl,rfl,rfl,fun _=>rfl⟩
 ·split
  ·exact⟨rfl,rfl,rfl,fun _=>rfl⟩
  ·refine⟨rfl,rfl,rfl,fun s=>?_⟩;simp only[Mod.sendFl];split <;> rfl
theorem AgI.tick (f:AgI b T lg se a) (F:b+2<=2147483647):AgI (b+1) T lg se a.tick.1/\∀l∈a.tick.2,ls' T a.epoch l:=by
 obtain⟨r,D,t3,t4⟩:=lt' a;have t5:=jo' a;have G:=f.ep;refine⟨⟨jf' f.good,by rw[r];omega,by rw[r];exact f.sep,?_,fun s hs=>?_,fun s hs=>by rw[(t5 s).1];exact f.base s hs,by rw[D];exact f.fen,fun h=>by rw[r];exact f.wel (by rw[<-t3];exact h),fun s hs n z=>by rw[t4 s]at z;rw[(t5 s).1];exact f.hld s hs n z⟩,fun l hl=>?_⟩
 ·have hl:∀s,(a.tick.1.fl s).kept.length=(a.fl s).kept.length:=fun s=>by have:=congrArg List.length (t5 s).2;simpa using this
  have:=f.room;unfold Mod.Ag.room at this ⊢;rw[hl,hl,hl];exact this
 ·have h2:a.tick.1.spool s=a.spool s:=(t5 s).2;rw[(t5 s).1,h2];exact f.kept s hs
 ·unfold Mod.Ag.tick at hl;split at hl
  ·cases hl
  ·split at hl
   ·rw[List.mem_singleton]at hl;rw[hl];exact rr' (Nat.le_refl _) (by omega)
   ·obtain⟨s,j,x,hs,u,rfl⟩:=fM' _ _ _ _ l hl;have h1:=f.at_ hs u;have h2:=f.good.bod s hs x (List.mem_of_getElem? u);have h3:=f.good.sum s hs;have h4:=(List.getElem?_eq_some_iff.1 u).1;exact sU' ⟨by omega,by rw[show(a.fl s).base+1+j - 1=(a.fl s).base+j by omega];exact h1⟩ hs (Nat.le_refl _) (by omega) (by omega) h2.1
end
end Go.Proofs.YtamafdcnbcoegaaGreat
