/-
  Part 14 of a proof.
-/
import Derived.Deep.MidRow
import Derived.Test.YtamafdcnbcoegabGreatOa13
set_option maxRecDepth 100000
set_option maxHeartbeats 40000000
namespace Go.Proofs.YtamafdcnbcoegabGreat
attribute [local simp, local go_sem] Ev Ep Ei Eb Et Ej Ea En Er Es
open Qb Mq
open Go.RowKit Go.Proofs.Tryz
theorem Jg.rest {w y:World} {p:Nat} {a:Mq.Sk} {r r':AU} {lv:Nat->Value} {z:Value} (R:Jg w p a r lv z) (G:Far (λk=>k=p) w y) (hb:Eh y p (AK a r' lv z) 180):Jg y p a r' lv z:=
 ⟨hb,λs hs=>(R.Qc s hs).far G (λg F e=>(R.Qc s hs).ne R.blk (by decide) (e ▸ F)),R.held.far G (λg F e=>R.held.ne R.blk (by decide) (e ▸ F)),R.apl,R.ep,R.ll,R.hl,R.hb⟩
structure CrI (w y:World) (p f:Nat) (a:Mq.Sk) (r:AU) (lv:Nat->Value) (hv:Value) (k e s q:Int) (b:z10):Prop where
 at_:Jg y p a r lv hv
 box:Xe y f k e s q b
 fl:f < y.heap.size
 fw:w.heap.size<=f
 fp:f≠p
 far:Far (λk=>k=p) w y
section
variable {w y z:World} {p f:Nat} {a:Mq.Sk} {r r':AU} {lv:Nat->Value} {hv:Value} {k e s q:Int} {b:z10}
theorem CrI.below (h:CrI w y p f a r lv hv k e s q b) (hb:El y z):CrI w z p f a r lv hv k e s q b:=by
 have F:Far (λ_=>False) y z:=I' hb;exact⟨h.at_.far F Ih,h.box.kept (hb.block f h.fl),z21 h.fl hb.size,h.fw,h.fp,h.far.trans F (λ_ _ h=>h.elim)⟩
theorem CrI.set {j:Nat} {v:Value} (h:CrI w y p f a r lv hv k e s q b) (G:(AK a r lv hv).setIfInBounds j v=AK a r' lv hv):CrI w (y.setCell ⟨p,j,none⟩ v) p f a r' lv hv k e s q b:=by
 have F:=T' y p j v;have hb:=AA (j:=j) (v:=v) h.at_.blk;rw[G]at hb;exact⟨h.at_.rest F hb,h.box.kept (F.rest f h.fl h.fp),z21 h.fl F.size,h.fw,h.fp,h.far.trans F Ih⟩
theorem CrI.start (R:Jg w p a r lv hv) (G:Jg z p a r' lv hv) (H:Far (λk=>k=p) w z) (I:z.heap.size=w.heap.size):CrI w (z.alloc (.cells #[Ej k,Ej e,Ej s,Ej q,.string b] 63)) p w.heap.size a r' lv hv k e s q b:=by
 have F:Far (λ_=>False) z (z.alloc (.cells #[Ej k,Ej e,Ej s,Ej q,.string b] 63)):=I' bna;have J:=z12 R.blk;have hb:=CU z k e s q b 63;rw[I]at hb;exact⟨G.far F Ih,hb,by simp;omega,z16 _,by omega,H.trans F (λ_ _ h=>h.elim)⟩
end
section
variable {w:World} {p:Nat} {a:Mq.Sk} {r:AU} {lv:Nat->Value} {hv:Value}
theorem eE (R:Jg w p a r lv hv) (k e:Int) (s q:Nat) (b:z10) (hs:s < 3):
  Cp 192 #[Er p 0,.agg #[Ej k,Ej e,Ej s,Ej q,.string b]] w λx w'=>Rr x (.tuple #[])/\
   ∃G mv n,Jg w' p a ⟨true,G,s,mv⟩ lv hv/\w'.ownsRow 0 9 1 mv n (AF (a.Qg k e s q b))/\(∀g,mv.ownBlock=some g->w.heap.size<=g)/\Far (λk=>k=p) w w':=by
 have c0:=Bi 0 R.blk;have c1:=Bi 1 R.blk;have I:=Bi 6 R.blk;have f1:=H' (i:=1) R.blk;have f6:=H' (i:=6) R.blk;have aA:=z12 R.blk;simp[AK]at c0 c1 I;have ac:=T' w p 1 (.bool true);have ad:=T' (w.setCell ⟨p,1,none⟩ (.bool true)) p 6 (Ej a.Qa);have aj:Jg ((w.setCell ⟨p,1,none⟩ (.bool true)).setCell ⟨p,6,none⟩ (Ej a.Qa)) p a ⟨true,a.Qa,r.inn,r.more⟩ lv hv:=R.rest (ac.trans ad Ih) (by have:=AA (j:=6) (v:=Ej a.Qa) (AA (j:=1) (v:=.bool true) R.blk);simpa[AK]using this);have F:=y' (CrI.start (k:=k) (e:=e) (s:=s) (q:=q) (b:=b) R aj (ac.trans ad Ih) (by simp));clear R aj ac ad;go_enter func192,ntmps192;go_upto_region 3 with fail;refine G' (λx=>CrI w x p w.heap.size a ⟨true,a.Qa,r.inn,r.more⟩ lv hv k e s q b) (d' F) ?_;clear F c0 c1 I f1 f6 aA;intro x z;obtain⟨J,M,b2,Q,V⟩:=z.box;have c0:=Bi 0 z.at_.blk;have I:=Bi 6 z.at_.blk;have f6:=H' (i:=6) z.at_.blk;simp[AK]at c0 I;have F:=y' z;clear z;rcases(by omega:¬k=1\/k=1/\¬ (a.Qa:Int) < e\/k=1/\(a.Qa:Int) < e)with H|⟨H,ak⟩|⟨H,ak⟩
 case' inl=>have ah:(k==1)=false:=by simp[H]
 case' inr.inl=>have ah:(k==1)=true:=by simp[H]
 case' inr.inr=>have ah:(k==1)=true:=by simp[H]
 all_goals
  go_upto_region 3 with fail
  go_quiet (fail)
  go_upto_region 5 with fail
  refine G' (λy=>∃G,CrI w y p w.heap.size a ⟨true,G,r.inn,r.more⟩ lv hv k e s q b) (by first|exact⟨_,d' F⟩|exact⟨_,(d' F).below (z36 (z11 _ _) _)⟩|exact⟨e,(d' F).set rfl⟩|exact⟨e,((d' F).below (z36 (z11 _ _) _)).set rfl⟩) ?_;clear F J M b2 Q V c0 I f6 ah H;try clear ak
  rintro y ⟨G,z⟩;obtain⟨J,M,b2,Q,V⟩:=z.box;have f7:=H' (i:=7) z.at_.blk;have ao:=Bi 7 z.at_.blk;simp[AK]at ao;have F:=y' (z.set (j:=7) (v:=Ej s) (r':=⟨true,G,s,r.more⟩) rfl);clear z;go_upto_region 6 with fail;refine G' (λy=>CrI w y p w.heap.size a ⟨true,G,s,r.more⟩ lv hv k e s q b) (d' F) ?_;clear F J M b2 Q V f7 ao;intro aE z;obtain⟨J,M,b2,Q,V⟩:=z.box;have aq:=y' (NO z.at_ k e s q b hs);have F:=y' z;have aB:=y' z.far.size;clear z;go_upto_region 7 with (go_at_call 193;refine Cm aq ?_;rintro aF w1 ⟨v1,n1,rfl,au,av⟩;have ax:=(d' F).below av;have ab:=y' ax;have ai:=y' au;clear av ax au);clear aq F J M b2 Q V;have f8:=H' (i:=8) (d' ab).at_.blk;have ay:∃v,w1.cell? (Ea p 8)=some v:=⟨_,Bi 8 (d' ab).at_.blk⟩;obtain⟨v8,ay⟩:=ay;obtain⟨Y,Z,aa,rfl⟩:∃Y Z aa,v1=.slice Y Z aa:=by obtain⟨aC,cap,e,_⟩:=AR (d' ai);exact⟨aC,_,cap,e⟩
  go_wp2;have az:=(d' ab).set (j:=8) (v:=.slice Y Z aa) (r':=⟨true,G,s,.slice Y Z aa⟩) rfl;refine z74 (z64 rfl _ _ _) rfl ⟨rfl,G,_,n1,az.at_,EK (u:=.slice Y Z aa) (j:=8) (KC (d' ai)) (d' ab).at_.blk (by decide),λg aD=>z26 (d' aB) (z14 (d' ai) g aD).1,az.far⟩
theorem uT (R:Jg w p a r lv hv) (i:Int):
  Cp 154 #[Er p 0,Ej i] w λe w'=>w'=w/\∃v,e=.returned v/\Jr w v (AF (mA r.dead a i)):=by
 cases hd:r.dead with
 |false=>refine(sY R hd i).mono ?_;rintro e w' ⟨rfl,rfl⟩;exact⟨rfl,_,rfl,sZ R i⟩
 |true=>have c1:=Bi 1 R.blk;simp[AK,hd]at c1;clear R hd;go_enter func154,ntmps154;go_wp2;go_ret;exact⟨rfl,_,rfl,AR (B:=0) (z20 _ _ 9 _)⟩
end
def skP (K:Nat) (ar:Bool) (lf:Int) (d:Bool) (z:Nat) (s:Mq.Sk) (F:Nat->List z10) (U:Nat->Prop):Sit:=⟨U,λw=>SkL K ar lf d w z s F U,λh=>h.lt,λh G H=>h.far G H⟩
def Hw (K:Nat) (ar:Bool) (lf:Int) (z:Nat) (s:Mq.Sk) (F:Nat->List z10) (U:Nat->Prop):Sit:=⟨U,λw=>∀lf',(ar=true->lf'=lf - 1)->SkL K ar lf' false w z s F U,λh=>(h (lf - 1) (λ_=>rfl)).lt,λh G H lf' e=>(h lf' e).far G H⟩
def My (r:AU) (z:Nat) (lv:Nat->Value) (F:Value) (k:Nat):Prop:=SkU z lv F k\/r.more.ownBlock=some k
structure QI (x:World) (rp:Nat) (a:Mq.Sk) (r:AU) (lv:Nat->Value) (hk:Value) (mo:List z10):Prop where
 at_:Jg x rp a r lv hk
 row:x.ownsRow 0 9 1 r.more mo.length (AF mo)
 ap:∀k,r.more.ownBlock=some k->¬SkU rp lv hk k
def skR (F:Nat) (a:Mq.Sk) (r:AU) (lv:Nat->Value) (z:Value) (mo:List z10):Sit:=
 ⟨My r F lv z,λx=>QI x F a r lv z mo,λh k z=>z.elim (h.at_.lt k) (λe=>(z14 h.row k e).2),λh G H=>⟨h.at_.far G (λk z=>H k (.inl z)),G.own h.row (λk z=>H k (.inr z)),h.ap⟩⟩
structure uU (lf:Int) (a:Mq.Sk) (r:AU) (lg:Nat->List z10) (mo:List z10):Prop where
 lm:lf<=9223372036854775807
 Vr:Jd a
 live:r.dead=false->r.more=En/\mo=[]
 dead:r.dead=true->∃n,n<=mo.length/\Mq.Sk.count {a with Qc:=lg}<=120/\∀i,i < 3->lg i=if(i:Int)=r.inn then a.Qc i++mo.take n else a.Qc i
def skT (m q z F:Nat) (a:Mq.Sk) (r:AU) (lv:Nat->Value) (G:Value) (mo:List z10) (H:Nat->List z10) (U:Nat->Prop) (ar:Bool) (lf:Int):AD:=AZ 182 q z F (skP m ar lf r.dead z a H U) (skR F a r lv G mo) ar lf
def GJ (n:Nat) (t:AD):Prop:=∃m q F G a r lv H mo z U ar lf,m<=n/\t=skT m q F G a r lv H mo z U ar lf/\uU lf a r z mo
def Nk (K:Nat) (ar:Bool) (lf:Int) (d:Bool) (z:Nat) (a:Mq.Sk) (G:Nat->List z10) (l:List UInt8) (U':Nat->Prop) (e:Int) (F:List z10) (P':Sit):Prop:=
 (d=true/\e=3/\F=[]/\P'=skP K ar lf true z a G U')\/(d=false/\ar=true/\e=4/\F=[]/\Qb.reads l=true/\∃n,1<=n/\n<=skW a l/\P'=skP K ar lf true z a (OK a l n) U')\/
  (d=false/\e=1/\F=[]/\Qb.reads l=false/\P'=skP K ar lf false z a G U')\/
  (d=false/\e=0/\F=(BN a l).2.2/\Qb.reads l=true/\skW a l=0/\P'=skP K ar lf false z (BN a l).2.1 G U')\/
  (d=false/\e=0/\F=(BN a l).2.2/\Qb.reads l=true/\0 < skW a l/\(ar=true->2<=lf)/\P'=Hw K ar lf z (BN a l).2.1 G U')
variable{aD aV:Bool}{o V aF:Int}{p f:World}{w a q b Q bH cG bX dB:Nat}{x:Mq.Sk}{F:Nat -> List z10}{N bK:Nat -> Prop}{y u R:Value}{Y Z bD bI:List AD}{j:TypeId}{cH:Sit}{r:List UInt8}{z:z10}{k:List Nat}{c:Ag}{P:AY}{m I:Nat -> Value}{aK:AD}
theorem SkL.took {K:Nat} (bs:Value) (l:List UInt8) (h:SkL K aD o aV p w x F N) (Q:Jd x) (hK:K < 1000000000) (V:Qk p bs l):
  Cp 15 #[C' w,bs] p λr w'=>∃ (e:Int) (lv:Value) (G:List Value) (H:List z10) (U':Nat->Prop) (P':Sit),r=.returned (.tuple #[lv,Ej e])/\Qj p.heap.size w' lv G H U'/\P'.U=U'/\Far N p w'/\(∀k,P'.U k->N k\/p.heap.size<=k)/\P'.At w'/\
   (H.length<=1/\∀I∈H,I.data.toList.length<=27)/\Nk (K+1) aD o aV w x F l U' e H P':=by
 have M:Qb.reads l=false->skW x l=0:=λz=>uP z;have J:([]:List z10).length<=1/\∀I∈ ([]:List z10),I.data.toList.length<=27:=⟨by simp,λI Y=>by cases Y⟩;refine(h.Qv bs l Q hK V).mono ?_;rintro r w' ⟨e,lv,G,H,U',rfl,k0,k2,k3,⟨h1,h2,rfl,h3⟩|⟨h1,h2,h3,rfl,n,h4,h5,Z⟩|⟨h1,h2,rfl,h3,h4⟩⟩;exact⟨e,lv,G,_,U',skP (K+1) aD o true w x F U',rfl,k0,rfl,k2,k3,h3,J,.inl ⟨h1,h2,rfl,rfl⟩⟩;refine⟨e,lv,G,_,U',skP (K+1) aD o true w x (OK x l n) U',rfl,k0,rfl,k2,k3,Z,J,.inr (.inl ⟨h1,h2,h3,rfl,?_,n,h4,h5,rfl⟩)⟩;cases z:Qb.reads l;rw[M z]at h5;omega;rfl;cases z:Qb.reads l;have hs:BN x l=(1,x,[]):=by unfold BN;rw[z];rfl
 rw[hs]at k0 h2 h3;exact⟨e,lv,G,_,U',skP (K+1) aD o false w x F U',rfl,k0,rfl,k2,k3,h3 (M z),J,.inr (.inr (.inl ⟨h1,h2,rfl,z,rfl⟩))⟩;have hs:(BN x l).1=0:=by unfold BN;rw[z];rfl
 by_cases h0:skW x l=0;exact⟨e,lv,G,_,U',skP (K+1) aD o false w (BN x l).2.1 F U',rfl,k0,rfl,k2,k3,h3 h0,RG x l,.inr (.inr (.inr (.inl ⟨h1,h2.trans hs,rfl,z,h0,rfl⟩)))⟩;obtain⟨aa,ab⟩:=h4 (by omega);exact⟨e,lv,G,_,U',Hw (K+1) aD o w (BN x l).2.1 F U',rfl,k0,rfl,k2,k3,ab,RG x l,.inr (.inr (.inr (.inr ⟨h1,h2.trans hs,rfl,z,by omega,aa,rfl⟩)))⟩
theorem Qm.wroteS
  (G:Qm w a q N p f Q y u Y Z bH (AZ j cG bX dB (Hw b aD o bX x F bK) cH aD o)) (hl:aD=true->V=o - 1):
  Qm w a q N p (f.setCell ⟨cG,3,none⟩ (Ej V)) Q y u Y Z bH (AZ j cG bX dB (skP b aD V false bX x F bK) cH aD V):=by
 have H:=T' f cG 3 (Ej V);have hb:=AA (j:=3) (v:=Ej V) G.is.blk;have I:=G.ref (R':=cH) (ar':=aD) (lf':=V) (H.mono (λk _ h=>.inl h)) (by simpa using hb) (cH.far G.is.r H (λk z e=>G.is.qR (e ▸ z))) (λk z=>.inl z);exact I.as (P':=skP b aD V false bX x F bK) (I.is.p V hl) (λk z=>z)
theorem Ex (H:Jd x) (hl:o<=9223372036854775807) (I:Qb.reads r=true) (h1:Jk r=V) (h2:Jf r=aF) (h3:Qs r=w) (h4:Xh r=a) (h5:Jp r=z) (hs:w < 3) (hn:1<=q/\q<=skW x r) (M:Int) (mv:Value):
  uU o x ⟨true,M,w,mv⟩ (OK x r q) (x.Qg V aF w a z):=by
 refine⟨hl,H,λh=>(by cases h),λ_=>?_⟩;have Q:0<=aF:=by have:=I;unfold Qb.reads at this;rw[z56]at this;have:=(BZ this.2).2.1.1;omega
 obtain⟨F,rfl⟩:=z62 Q;obtain⟨Y,Z⟩:=SN (a:=x) I h1 h2 h3 h4 h5;rw[Y]at hn;rw[Z q];unfold lU;unfold rC at hn;by_cases k1:V=1;subst k1;rw[if_neg (by omega)];refine⟨0,z54 _,H.room,λi _=>?_⟩;simp;rw[if_neg k1]at hn;by_cases k3:V=3;subst k3;rw[if_pos rfl]at hn ⊢;by_cases G:(F:Int)=x.Qa;rw[if_pos G]at hn;rw[<-G];rw[<-G]at hn;refine⟨q - 1,by omega,?_,λi hi=>?_⟩;have ab:=JL (a:=x) 3 F w a z H.room;have ac:=IS x w hs ((x.Qg 3 F w a z).take (q - 1));have ad:((x.Qg 3 F w a z).take (q - 1)).length<=(x.Qg 3 F w a z).length:=by simp;omega
 have ah:Mq.Sk.count {x with Qc:=(grown x w ((x.Qg 3 F w a z).take (q - 1))).Qc}=(grown x w ((x.Qg 3 F w a z).take (q - 1))).count:=rfl;omega;unfold grown;by_cases J:i=w;subst J;simp;have aa:¬ (i:Int)=w:=by omega
 simp[J,aa];rw[if_neg G]at hn;omega;rw[if_neg k3]at hn;omega
structure Yl (B D N:Nat) (w x:World) (wb:Nat) (asv ssv:Value) (la ls:List AD) (i:Nat) (t:AD) (f:Nat) (k1 e1 s1 q1:Int) (b1:z10) (Bx:Nat) (fv:Value) (fs:List Value) (Fl:List z10) (U:Nat->Prop):Prop where
 am:Qm B D N (λk=>k=f\/fH fv fs k) w x wb asv ssv la ls i t
 fr:Xe x f k1 e1 s1 q1 b1
 out:Qj Bx x fv fs Fl U
section
variable {B D N:Nat} {w x y:World} {wb:Nat} {asv ssv:Value} {la ls:List AD} {i:Nat} {t t':AD} {f:Nat} {k1 e1 s1 q1:Int} {b1:z10} {Bx:Nat} {fv:Value} {fs:List Value} {Fl:List z10} {U:Nat->Prop}
theorem Yl.fl (h:Yl B D N w x wb asv ssv la ls i t f k1 e1 s1 q1 b1 Bx fv fs Fl U):f < x.heap.size:=h.am.mlt (.inl rfl)
theorem Yl.below (h:Yl B D N w x wb asv ssv la ls i t f k1 e1 s1 q1 b1 Bx fv fs Fl U) (hb:El x y):Yl B D N w y wb asv ssv la ls i t f k1 e1 s1 q1 b1 Bx fv fs Fl U:=
 ⟨h.am.below hb (λ_ h=>.inl h),h.fr.kept (hb.block f h.fl),h.out.keep (λk z=>hb.block k (h.out.lt k z).2)⟩
theorem Yl.Yd {E:Nat->Prop} (h:Yl B D N w x wb asv ssv la ls i t f k1 e1 s1 q1 b1 Bx fv fs Fl U) (G:Qm B D N (λk=>k=f\/fH fv fs k) w y wb asv ssv la ls i t') (z:Far E x y) (F:∀k,E k->t.In k):Yl B D N w y wb asv ssv la ls i t' f k1 e1 s1 q1 b1 Bx fv fs Fl U:=
 ⟨G,h.fr.kept (h.am.held z F f (.inl rfl)),h.out.keep (λk H=>h.am.held z F k (.inr H))⟩
theorem Yl.same (h:Yl B D N w x wb asv ssv la ls i t f k1 e1 s1 q1 b1 Bx fv fs Fl U) {m:Nat} {wv:Value} (hK:GJ m t) (z:Jr x wv (AF Fl)) (hs:Fl.length<=1/\∀x∈Fl,x.data.toList.length<=27) (F:N+52<=17592186044416):
  Cp 148 #[C' wb,fv,wv] x λe y=>Rr e (.bool true)/\Xv GJ B D (N+52) m w y wb asv ssv la ls i:=by
 refine(h.am.same h.out (λk G=>.inr G) z (by have:=hs.1;omega) (λb hb=>by have:=hs.2 b hb;omega) F).mono ?_;rintro e y ⟨rfl,H⟩;exact⟨rfl,_,t,hK,H⟩
end
theorem Hx {a:Mq.Sk} {l:List UInt8} (H:Qb.reads l=true) {k e:Int} {s q:Nat} {b:z10} (h1:Jk l=k) (h2:Jf l=e) (h3:Qs l=s) (h4:Xh l=q) (h5:Jp l=b):
  (0 < skW a l) ↔ (0 < (a.Qg k e s q b).length\/(k=1/\(a.Qa:Int) < e)):=by
 have J:0<=e:=by have:=H;unfold Qb.reads at this;rw[z56]at this;have:=(BZ this.2).2.1.1;omega
 obtain⟨z,rfl⟩:=z62 J;rw[(SN (a:=a) H h1 h2 h3 h4 h5).1];unfold rC;by_cases k1:k=1;subst k1;have F:a.Qg 1 z s q b=[]:=by rw[Mq.Sk.Qg,if_pos (.inl (by decide))]
 rw[F,if_pos rfl];unfold hiW;by_cases I:(z:Int) < a.Qa;rw[if_pos I];simp;omega;rw[if_neg I];by_cases h2:a.Qa < z;have h3:(a.Qa:Int) < z:=by omega
 simp[h2,h3];have h3:¬ (a.Qa:Int) < z:=by omega
 simp[h2,h3];rw[if_neg k1];by_cases k3:k=3;subst k3;rw[if_pos rfl];by_cases G:(z:Int)=a.Qa;rw[if_pos G,<-G];simp[k1];have F:a.Qg 3 z s q b=[]:=by rw[Mq.Sk.Qg,if_pos (.inr (.inl G))]
 rw[if_neg G,F];simp;have F:a.Qg k z s q b=[]:=by rw[Mq.Sk.Qg,if_pos (.inl k3)]
 rw[if_neg k3,F];simp[k1]
theorem uV {A:Nat->Nat->Prop} (Q:World) (ac ai:Nat) (dC dD i:Int) (s:z10) (kp dE dF dG dH:Int) (dI:z10) (I J H:Nat) (G:Mq.Sk) (r:AU) (lv:Nat->Value) (z:Value) (mo:List z10) (ao:Nat->List z10) (U:Nat->Prop) (ar:Bool) (lf:Int)
  (S:Qr w q A Q ac y u R k Y Z) (cx:JG a ac y u R (Y++Z)) (hi:(Y++Z)[ai]? =some (skT b I J H G r lv z mo ao U ar lf)) (O:uU lf G r ao mo) (dJ:b < 1000000000) (dK:s.size<=140737488353980) (ef:q+56<=17592186044416):
  Cp 153 #[C' ac,C' I,AL dC dD i s kp dE dF dG dH dI] Q λx w'=>Rr x (.bool true)/\Xv GJ w a (q+56) (b+1) Q w' ac y u Y Z ai:=by
 obtain⟨ad,hn⟩:∃ad:Nat,s.size+8=ad:=⟨_,rfl⟩;have cy:=λx=>y' (SR s x ad hn (by omega));have bL:=y' hn;have eg:¬ad=0:=by omega
 have eh:s.size<=ad:=by omega
 have ei:(s.size:Int)<=ad:=by omega
 have ax:=y' O;have cz:=λ(x:World) (bs:Value) (aU:SkL b ar lf r.dead x J G ao U) (hb:Qk x bs s.data.toList)=>y' (aU.took bs s.data.toList O.Vr dJ hb);obtain⟨k1,M,s1,aV,V,bM⟩:=LF s.data.toList;have bN:=λw'=>y' (NI s w' (by omega));rw[bM]at bN;have bd:=y' bM;have cA:=λO=>y' ((Qm.start S cx hi).below (M':=λF=>F=Q.heap.size) ((z11 _ _).alloc (z16 _) (.cells O 94)) (λF z=>.inr ⟨rE z.symm,by rw[z];simp⟩));clear S cx hi O hn bM;unfold C' at *;unfold AL;go_enter func153,ntmps153;go_upto_region 1 with fail;refine G' (λx=>∃aW:Array Value,aW[3]? =some (.string s)/\Eh x Q.heap.size aW 94/\Qm w a q (λF=>F=Q.heap.size) Q x ac y u Y Z ai (skT b I J H G r lv z mo ao U ar lf)) ⟨_,rfl,z19 Q _,d' (cA _)⟩ ?_;rintro ej ⟨aW,bO,bP,aU⟩;have s3:=Bi 3 bP;rw[bO]at s3;have cB:=y' aU;have bz:=y' bP;have aX:=y' bO;clear cA bO bP aU;go_upto_region 2 with (go_at_call 92;refine Cm (cy _) ?_;rintro ek dL ⟨g,rfl,bQ,cC,hb,cD⟩;have be:Hid (Yf w a q aW (λF=>F=Q.heap.size\/F=g) Q dL ac y u Y Z ai (skT b I J H G r lv z mo ao U ar lf) g ad s):=⟨(d' cB).below hb (λF z=>z.imp id (λe=>by rw[e];exact⟨bQ,cC⟩)),(hb.block _ (z12 (d' bz))).trans (d' bz),.inl rfl,cD,.inr rfl,z21 (z12 (d' bz)) bQ⟩;clear bQ cC hb cD);clear cB bz s3 cy;have s3:=Bi 3 (d' be).box;rw[d' aX]at s3;have bR:=Bi 0 (d' be).am.is.blk;have ay:=z12 (d' be).am.is.blk;have aa:=z12 (d' be).box;simp[C']at bR;refine CO
  [Ep I 0,Ep I 0,Ep I 0,Ep J 0,Ev (Es g 0 ad ad),Ep Q.heap.size 3,Ev (.string s),Ei s.size,Ev (Es g 0 s.size ad),Et,Et,Et,Et,Et,Et]
  [[1],[1022],[2023],[3024],[7],[5],[6027],[7028],[5026,8029],[4025,9030],[10031],[11021],[11021],[12032],[13033]] [23,24,25,26,27,28,29,30,31,32,22,33,34,9,10] [8,2,11,13,113]
  9 _ rfl ?_ ?_ ?_
 .refine⟨?_,?_,?_,?_,?_,?_,?_,?_,?_,trivial⟩;all_goals
   intro bA x hb av;have em:=Bc hb ay bR;have bS:=Bc hb aa s3;clear hb;simp[J']at av;try go_simp
   try exact z11 _ _
  all_goals first|exact⟨rfl,z11 _ _⟩|skip
 intro f x aj;rfl;intro f aB hb aj;simp only[AJ,List.take]at aj;obtain⟨_,_,_,dM,_,_,_,_,dN,_⟩:=aj;simp only[V',dM,dN];go_simp;have bf:=y' ((d' be).same hb);clear hb s3 bR ay aa be;refine Cm (cz aB _ (d' bf).am.is.p (WV (d' bf).own (d' bL) dK)) ?_;rintro r' dO ⟨dP,fv,aq,aC,U',P',rfl,aL,cE,hF,cF,aU,cG,aM⟩;have bT:Hid (Yf w a q aW (λF=>(F=Q.heap.size\/F=g)\/fH fv aq F) Q dO ac y u Y Z ai (AZ 182 I J H P' (skR H G r lv z mo) ar lf) g ad s):=
  (d' bf).Yd ((d' bf).am.progO (O:=fH fv aq) hF aU cF (λF z=>⟨(aL.lt F z).1,(aL.lt F z).2,by rw[cE];exact aL.clear F z⟩)) hF (λF z=>.inr (.inr z)) (λ_ h=>.inl h)
 have bU:=y' aL;have aY:=y' cG;have bl:=y' aM;have cH:=y' (d' bf).glt;clear hF cF aU aM bf cz aL cG cE;intro bm dQ;obtain⟨en,rfl⟩:∃q,bm=q+5:=⟨bm - 5,by omega⟩;apply Mi
 .intro bV;refine BP (i:=10) (by kernel_rfl) rfl rfl ?_;go_simp;refine gV (i:=11) (j:=12) (by kernel_rfl) rfl rfl rfl rfl ?_ ?_
  .go_simp;refine gV (i:=12) (j:=13) (by kernel_rfl) rfl rfl rfl rfl ?_ ?_
   .go_simp;refine BP (i:=13) (by kernel_rfl) rfl rfl ?_;go_simp;refine BP (i:=14) (by kernel_rfl) rfl rfl ?_;go_simp;refine DP (by kernel_rfl) ?_;exact bV
   go_simp;refine BP (i:=12) (by kernel_rfl) rfl rfl ?_;go_simp;refine BP (i:=14) (by kernel_rfl) rfl rfl ?_;go_simp;refine DP (by kernel_rfl) ?_;exact bV
  go_simp;refine BP (i:=11) (by kernel_rfl) rfl rfl ?_;go_simp;refine BP (i:=13) (by kernel_rfl) rfl rfl ?_;go_simp;refine BP (i:=14) (by kernel_rfl) rfl rfl ?_;go_simp;refine DP (by kernel_rfl) ?_;exact bV
 go_upto_region 3 with fail
 have s3:=Bi 3 (d' bT).box;rw[d' aX]at s3;go_upto_region 4 with (go_at_call 145;refine Cm (bN _) ?_;rintro eo bW ⟨rfl,bX⟩;have bY:=y' ((d' bT).same bX);have bZ:=y' ((d' bU).keep (λF z=>bX.block F ((d' bU).lt F z).2));clear bX);clear s3 bT bU;refine G' (λx=>∃f,Xe x f k1 M s1 aV V/\f < x.heap.size/\f=bW.heap.size/\Qj aB.heap.size x fv aq aC U'/\Yf w a q aW (λF=>((F=Q.heap.size\/F=g)\/fH fv aq F)\/F=f) Q x ac y u Y Z ai (AZ 182 I J H P' (skR H G r lv z mo) ar lf) g ad s)
  ⟨bW.heap.size,CU _ _ _ _ _ _ _,by simp,rfl,(d' bZ).keep (λF z=>z35 _ _ F ((d' bZ).lt F z).2),(d' bY).below bna (λ_ h=>.inl h) (λF h=>h.imp id (λe=>by rw[e];simp))⟩ ?_
 have ca:=(d' bY).glt;clear bY bN bZ;rintro cI ⟨f,cJ,cK,cL,cM,bn⟩;have dR:Hid (Q.heap.size < f/\f≠g):=y' ⟨by have:=bn.wg;have:=ca;omega,by have:=ca;omega⟩;clear ca;obtain⟨eq,cN⟩:=exq (bW.heap.size);rw[<-cN]at cL ⊢;subst cL;clear cN;have s3:=Bi 3 bn.box;rw[d' aX]at s3;have cO:=y' (SQ bn.own (d' bL));have cP:=y' bn;have cQ:=y' cJ;have cb:=y' cK;have cR:=y' cM;clear bn cJ cK cM;go_upto_region 5 with (go_at_call 94;refine(LU _ _ s cI (d' cO) (by omega)).mono ?_;rintro er es ⟨rfl,nq,rfl⟩);refine G' (λx=>Xe x f k1 M s1 aV V/\f < x.heap.size/\Qj aB.heap.size x fv aq aC U'/\Yf w a q aW (λF=>((F=Q.heap.size\/F=g)\/fH fv aq F)\/F=f) Q x ac y u Y Z ai (AZ 182 I J H P' (skR H G r lv z mo) ar lf) g ad s)
  ⟨(d' cQ).below (C:=cI.heap.size) (z36 (z11 _ _) _) (d' cb),d' cb,(d' cR).keep (λ_ _=>rfl),(d' cP).same (z36 (z11 _ _) _)⟩ ?_
 clear cP cQ cb cO s3 cR;rintro et ⟨cS,dS,cT,bB⟩;have aI:=y' (bB.am.keep En (Es g 0 ad ad) En [] [] (DC s) (z20 _ _ _ _) (by rw[BM,d' bL];exact bB.own) (z20 _ _ _ _) (by rintro bA (e|e|e);cases e;injection e with e;exact .inl (.inl (.inr e.symm));cases e) (by omega) (by rw[BM];omega) (by simp) (by simp));unfold C' at aI;have cc:Q.heap.size≠g:=by have:=bB.wg;omega
 have cU:=y' (z13 cS (z13 cT cc));clear bB cS dS cc cT;go_upto_region 6 with (go_at_call 91;refine Cm aI ?_;rintro eu bC ⟨rfl,hA8,cV⟩;have cW:=y' hA8;have aZ:=y' cV;clear hA8 cV);have ab:Hid (Yl w a (q+4) Q bC ac y u Y Z ai (AZ 182 I J H P' (skR H G r lv z mo) ar lf) f k1 M s1 aV V aB.heap.size fv aq aC U'):=by
  obtain⟨dT,aL,cc⟩:=d' cU;have bg:∀F,F≠g->¬GM En (Es g 0 ad ad) En F:=by rintro F z (e|e|e);cases e;injection e with e;exact z e.symm;cases e
  have av:=(d' dR).2;have cX:∀F,fH fv aq F->F≠g:=λF z e=>by have:=(aL.lt F z).1;have:=d' cH;omega
  refine y' ⟨(d' cW).below (z11 _ _) (λF z=>.inl ?_),dT.kept ((d' aZ) f (.inr rfl) (bg f av)),aL.keep (λF z=>(d' aZ) F (.inl (.inr z)) (bg F (cX F z)))⟩;rcases z with rfl|z;exact⟨.inr rfl,bg _ av⟩;exact⟨.inl (.inr z),bg _ (cX F z)⟩
 clear cU cW aZ aI cH;have ak:=Bi 1 (d' ab).am.is.blk;have bD:=Bi 2 (d' ab).am.is.blk;have cY:=H' (i:=2) (d' ab).am.is.blk;have d1:=Bi 1 (d' ab).am.is.r.at_.blk;have d0:=Bi 0 (d' ab).am.is.r.at_.blk;simp[AK,C']at ak bD d1 d0;rcases d' bl with ⟨c1,rfl,c2,c3⟩|⟨c1,c2,rfl,c4,c5,cZ,da,db,dc⟩|⟨c1,rfl,c2,c3,c4⟩|bh
 .rw[c1]at d1;have aI:=y' (show GJ (b+1) (AZ 182 I J H P' (skR H G r lv z mo) ar lf) from⟨b+1,I,J,H,G,r,lv,z,mo,ao,U',ar,lf,z16 _,by rw[c3,<-c1];rfl,d' ax⟩);have az:=y' ((d' ab).same (d' aI) (wv:=En) (by rw[c2];exact AR (B:=0) (z20 _ _ 9 _)) (d' aY) (by omega));clear c1 c2 c3 bl ab aI aY bd ax aX;unfold C' at az;go_upto_region 22 with fail;go_wp2_with (go_at_call 148;refine Cm az ?_;rintro dd aN ⟨rfl,ba⟩);go_ret;exact⟨rfl,ba⟩
 .have R:=d' bd;rw[IR c5]at R;unfold LR at R;simp only[Value.agg.injEq,Array.mk.injEq,List.cons.injEq,Value.int.injEq,Value.string.injEq,true_and,and_true]at R;obtain⟨ah,aO,aP,aQ,aR⟩:=R;have aJ:=c5;unfold Qb.reads at aJ;rw[z56]at aJ;have de:=BZ aJ.2;rw[ah,aO,aP,aQ,aR]at de;obtain⟨sn,rfl⟩:∃sn:Nat,s1=sn:=⟨s1.toNat,by omega⟩;obtain⟨qn,rfl⟩:∃qn:Nat,aV=qn:=⟨aV.toNat,by omega⟩;have df:sn < 3:=by omega
  rw[c1]at d1;rw[c2]at bD;have dg:=y' (λbo mv=>Ex (d' ax).Vr (d' ax).lm c5 ah aO aP aQ aR df ⟨da,db⟩ bo mv);have aZ:=y' dc;have dh:=y' c4;have bp:Hid (Yl w a (q+4) Q (bC.setCell ⟨I,2,none⟩ (.bool false)) ac y u Y Z ai (AZ 182 I J H P' (skR H G r lv z mo) false lf) f k1 M sn qn V aB.heap.size fv aq aC U'):=by have cd:=T' bC I 2 (.bool false);have hb:=AA (j:=2) (v:=.bool false) (d' ab).am.is.blk;exact y' ((d' ab).Yd ((d' ab).am.ref (R':=skR H G r lv z mo) (ar':=false) (lf':=lf) (cd.mono (λF _ h=>.inl h)) (by simpa using hb) ((skR H G r lv z mo).far (d' ab).am.is.r cd (λF z e=>(d' ab).am.is.qR (e ▸ z))) (λF z=>.inl z)) cd (λF z=>.inl z))
  clear c1 c2 c4 da db dc ah aO aP aQ aR aJ de bl bd aX d0;rw[c5];clear c5;go_upto_region 17 with fail;refine G' (λx=>Yl w a (q+4) Q x ac y u Y Z ai (AZ 182 I J H P' (skR H G r lv z mo) false lf) f k1 M sn qn V aB.heap.size fv aq aC U') (d' bp) ?_;clear bp ab ak bD cY d1;intro aN bi;have ak:=Bi 1 bi.am.is.blk;simp[C']at ak;have ay:=z12 bi.am.is.blk;have aa:=bi.fl;obtain⟨aD,aE,b2,aF,aG⟩:=bi.fr;have bp:=y' bi;clear bi;refine Z'
   [Ep I 0,Ep I 0,Ep I 1,Ep H 0,Ev (.agg #[Ej k1,Ej M,Ej sn,Ej qn,.string V]),Et]
   [[1],[1117],[2118],[3119],[10],[4120,5121]] [118,119,120,121,122,123] [117,6,24]
   5 _ rfl rfl ?_ ?_
  .refine⟨?_,?_,?_,?_,?_,trivial⟩;all_goals
    intro bA x hb av;have bS:=Bc hb ay ak;have z0:=Bc hb aa aD;have di:=Bc hb aa aE;have dj:=Bc hb aa b2;have z3:=Bc hb aa aF;have z4:=Bc hb aa aG;clear hb;simp[J']at av;try go_simp
    try exact z11 _ _
   all_goals first
    |exact⟨rfl,z11 _ _⟩
    |exact⟨_,rfl,z11 _ _,rfl⟩
    |skip
  intro f10 dl hb aj;simp only[AJ,List.take]at aj;have h3:=aj.2.2.2.1;have h4:=aj.2.2.2.2.1;have ce:=y' ((d' bp).below hb);have dm:=y' (eE (d' ce).am.is.r.at_ k1 M sn qn V df);clear aj hb ak aD aE b2 aF aG ay aa bp;simp only[V',h3,h4];go_simp;refine Cm dm ?_;rintro ev cf ⟨rfl,bo,mv,dU,bq,cg,ch,hF⟩;have dV:dU=(G.Qg k1 M sn qn V).length:=by have:=cg.1;simp[AF]at this;omega
  subst dV;have dn:Hid (Xv GJ w a (q+4) (b+1) Q cf ac y u Y Z ai/\∃t',GJ (b+1) t'/\Yl w a (q+4) Q cf ac y u Y Z ai t' f k1 M sn qn V aB.heap.size fv aq aC U'):=by have T:=d' ce;have hl:=T.am.is.r.at_.lt;have bE:=T.am.ref (R':=skR H G ⟨true,bo,sn,mv⟩ lv z (G.Qg k1 M sn qn V)) (ar':=false) (lf':=lf) (hF.mono (λF _ h=>.inr (.inl (.inl h)))) (hF.blk T.am.is.blk (λe=>T.am.is.qR (.inl (.inl e)))) ⟨bq,cg,λF z h=>by have:=ch F z;have:=hl F h;omega⟩ (λF z=>z.elim (λh=>.inl (.inl h)) (λh=>.inr (ch F h)));have dq:=bE.is.p;rw[d' aZ]at dq;have dr:=bE.as (P':=skP (b+1) false lf true J G (OK G s.data.toList cZ) U') (SkL.dead dq) (by rw[d' aZ];exactλF z=>z);have bb:GJ (b+1) (AZ 182 I J H (skP (b+1) false lf true J G (OK G s.data.toList cZ) U') (skR H G ⟨true,bo,sn,mv⟩ lv z (G.Qg k1 M sn qn V)) false lf):=⟨b+1,I,J,H,G,_,lv,z,_,_,U',false,lf,z16 _,rfl,(d' dg) bo mv⟩;exact y' ⟨⟨_,_,bb,dr⟩,_,bb,T.Yd dr hF (λF z=>.inr (.inl (.inl (.inl z))))⟩
  clear bq cg ch hF dm ce dg aZ h3 h4;obtain⟨_,t',bb,aK⟩:=d' dn;have az:=y' (aK.same bb (wv:=En) (by rw[d' dh];exact AR (B:=0) (z20 _ _ 9 _)) (d' aY) (by omega));clear bb aK dn dh aY ax;unfold C' at az;go_upto_region 22 with fail;go_wp2_with (go_at_call 148;refine Cm az ?_;rintro dd aN ⟨rfl,ba⟩);go_ret;exact⟨rfl,ba⟩
 .rw[c1]at d1;have aI:=y' (show GJ (b+1) (AZ 182 I J H P' (skR H G r lv z mo) ar lf) from⟨b+1,I,J,H,G,r,lv,z,mo,ao,U',ar,lf,z16 _,by rw[c4,<-c1];rfl,d' ax⟩);have az:=y' ((d' ab).same (d' aI) (wv:=En) (by rw[c2];exact AR (B:=0) (z20 _ _ 9 _)) (d' aY) (by omega));rw[c3];clear c1 c2 c3 c4 bl ab aI aY bd ax aX;unfold C' at az;go_upto_region 22 with fail;go_wp2_with (go_at_call 148;refine Cm az ?_;rintro dd aN ⟨rfl,ba⟩);go_ret;exact⟨rfl,ba⟩
 have c1:r.dead=false:=by rcases bh with h|h <;> exact h.1
 have dW:dP=0:=by rcases bh with h|h <;> exact h.2.1
 have ci:aC=(BN G s.data.toList).2.2:=by rcases bh with h|h <;> exact h.2.2.1
 have c5:Qb.reads s.data.toList=true:=by rcases bh with h|h <;> exact h.2.2.2.1
 have cj:(skW G s.data.toList=0/\P'=skP (b+1) ar lf false J (BN G s.data.toList).2.1 ao U')\/(0 < skW G s.data.toList/\(ar=true->2<=lf)/\P'=Hw (b+1) ar lf J (BN G s.data.toList).2.1 ao U'):=by rcases bh with h|h;exact .inl h.2.2.2.2;exact .inr h.2.2.2.2
 subst dW;clear bh;rw[c1]at d1;have R:=d' bd;rw[IR c5]at R;unfold LR at R;simp only[Value.agg.injEq,Array.mk.injEq,List.cons.injEq,Value.int.injEq,Value.string.injEq,true_and,and_true]at R;obtain⟨ah,aO,aP,aQ,aR⟩:=R;have aJ:=c5;unfold Qb.reads at aJ;rw[z56]at aJ;have ck:=BZ aJ.2;rw[ah,aO,aP,aQ,aR]at ck;clear aJ;obtain⟨sn,rfl⟩:∃sn:Nat,s1=sn:=⟨s1.toNat,by omega⟩;obtain⟨qn,rfl⟩:∃qn:Nat,aV=qn:=⟨aV.toNat,by omega⟩;have bq:BN G s.data.toList=(0,CK G k1 M sn qn V):=by unfold BN;rw[c5,ah,aO,aP,aQ,aR];rfl
 rw[bq]at cj ci;have bF:=y' (Hx (a:=G) c5 ah aO aP aQ aR);have bc:=y' ck;have cl:=y' cj;have dX:=y' ci;have ds:=y' ((d' ax).live c1);have dt:=y' c1;rw[c5];clear bq ah aO aP aQ aR bd c5 ck cj ci c1 bl aX;have dY:=y' (RB (d' ax).Vr k1 M sn qn V (by have:=(d' bc).2.2.1;omega) (d' bc).2.1.2);have ay:=z12 (d' ab).am.is.blk;have aa:=(d' ab).fl;obtain⟨aD,aE,b2,aF,aG⟩:=(d' ab).fr;unfold C' at *;obtain⟨au,cm⟩:=exq ((G.Qg k1 M sn qn V).length);rw[<-cm]at bF;have du:∀x,El bC x->Hid (Cp 193 #[Er H 0,.agg #[Ej k1,Ej M,Ej sn,Ej qn,.string V]] x λe cn=>(∃v,e=.returned v/\∃aA cap,v=.slice aA au cap)/\El x cn):=λx hb=>by refine y' ((NO ((d' ab).below hb).am.is.r.at_ k1 M sn qn V (by have:=(d' bc).2.2.1;omega)).mono ?_);rintro e cn ⟨v,q,rfl,h,cp⟩;obtain⟨aA,cap,R,_⟩:=AR h;rw[AO,<-cm]at R;exact⟨⟨v,rfl,aA,cap,R⟩,cp⟩
 clear cm;go_upto_region 8 with fail;refine AI
  [Ep I 0,Ep I 0,Ep I 1,Ep H 0,Ev (.agg #[Ej k1,Ej M,Ej sn,Ej qn,.string V]),λv _=>∃aA cap,v=.slice aA au cap,λv _=>∃aA cap,v=.slice aA au cap]
  [[1],[1049],[2050],[3051],[10],[4052,5053],[6054]] [50,51,52,53,54,55,16] [15,1,33,6,92] ?_ ?_ (hst:=by repeat' (first|exact Y' _|exact aa'|exact(λ_ _ _ h _=>h)|exact trivial|apply z13))
 .refine⟨?_,?_,?_,?_,?_,?_,?_,trivial⟩;all_goals
   intro bA x hb av;have bS:=Bc hb ay ak;have z0:=Bc hb aa aD;have di:=Bc hb aa aE;have dj:=Bc hb aa b2;have z3:=Bc hb aa aF;have z4:=Bc hb aa aG;have dZ:=du x hb;clear hb;simp[J']at av;try (obtain⟨ew,ey,av⟩:∃aA cap,_=Value.slice aA au cap:=av)
   try go_simp
   try exact z11 _ _
  all_goals first
   |exact⟨_,rfl,z11 _ _,_,_,rfl⟩
   |exact⟨rfl,z11 _ _⟩
   |(refine Cm dZ ?_;rintro e cn ⟨⟨v,rfl,aA,cap,rfl⟩,cp⟩;exact⟨_,rfl,cp,aA,cap,rfl⟩)
   |skip
 intro f8 aN hb aj;simp only[AJ]at aj;have bG:=aj.2.2.2.2.2.2.1;have aS:=y' ((d' ab).below hb);clear aj hb ab du ak bD cY d1 d0 aD aE b2 aF aG ay aa;have ak:=Bi 1 (d' aS).am.is.blk;have d1:=Bi 1 (d' aS).am.is.r.at_.blk;have d0:=Bi 0 (d' aS).am.is.r.at_.blk;simp[AK,C']at ak d1 d0;rw[d' dt]at d1;obtain⟨aD,aE,b2,aF,aG⟩:=(d' aS).fr;obtain⟨ez,eA,bG⟩:=bG;simp only[V',bG];go_simp;have cq:=y' (d' ax).lm;have br:Hid (Eh aN I #[C' J,C' H,.bool ar,Ej lf] 182):=(d' aS).am.is.blk;have bj:Hid (¬ (0 < au\/(k1=1/\(G.Qa:Int) < M))->∀aH,El aN aH->∃lf',lf'<=9223372036854775807/\Yl w a (q+4) Q aH ac y u Y Z ai (AZ 182 I J H (skP (b+1) ar lf' false J (CK G k1 M sn qn V).1 ao U') (skR H G r lv z mo) ar lf') f k1 M sn qn V aB.heap.size fv aq aC U'):=y' λbg aH hb=>by rcases d' cl with h|h;have T:=(d' aS).below hb;rw[h.2]at T;exact⟨lf,d' cq,T⟩;exact absurd ((d' bF).1 h.1) bg
 have bk:Hid ((0 < au\/(k1=1/\(G.Qa:Int) < M))->(ar=true->2<=lf)/\∀aH lf',El aN aH->(ar=true->lf'=lf - 1)->lf'<=9223372036854775807->Yl w a (q+4) Q (aH.setCell ⟨I,3,none⟩ (Ej lf')) ac y u Y Z ai (AZ 182 I J H (skP (b+1) ar lf' false J (CK G k1 M sn qn V).1 ao U') (skR H G r lv z mo) ar lf') f k1 M sn qn V aB.heap.size fv aq aC U'):=y' λea=>by rcases d' cl with h|h;have:=(d' bF).2 ea;omega;refine⟨h.2.1,λaH lf' hb hl eB=>?_⟩;have T:=(d' aS).below hb;rw[h.2.2]at T;exact T.Yd (T.am.wroteS hl) (T' aH I 3 _) (λF z=>.inl z)
 clear aS cl bF;rcases(by omega:0 < au\/¬0 < au/\k1=1/\(G.Qa:Int) < M\/¬0 < au/\k1=1/\¬ (G.Qa:Int) < M\/¬0 < au/\¬k1=1)with aM|⟨aM,ah,bH⟩|⟨aM,ah,bH⟩|⟨aM,ah⟩
 case' inl=>
  have bI:(0:Int) < au:=by omega
  obtain⟨bt,bu⟩:=(d' bk) (.inl aM);have aT:=y' bu;have bJ:=y' bt;clear bu bt bj bk;go_upto_region 9 with fail;go_quiet (fail);go_upto_region 11 with (go_at_call 186;refine(MV _ I (C' J) (C' H) ar lf (by first|exact d' br|simpa using (d' br)) (d' bJ) (d' cq)).mono ?_;rintro eb dl ⟨rfl,lf',cr,bw,rfl⟩)
 case' inr.inl=>
  have bI:¬ (0:Int) < au:=by omega
  have cs:(k1==1)=true:=by simp[ah]
  obtain⟨bt,bu⟩:=(d' bk) (.inr ⟨ah,bH⟩);have aT:=y' bu;have bJ:=y' bt;clear bu bt bj bk;go_upto_region 9 with fail;go_quiet (fail);go_upto_region 11 with (go_at_call 186;refine(MV _ I (C' J) (C' H) ar lf (by first|exact d' br|simpa using (d' br)) (d' bJ) (d' cq)).mono ?_;rintro eb dl ⟨rfl,lf',cr,bw,rfl⟩)
 case' inr.inr.inl=>
  have bI:¬ (0:Int) < au:=by omega
  have cs:(k1==1)=true:=by simp[ah]
  have aT:=y' ((d' bj) (λh=>h.elim (λh=>by omega) (λh=>bH h.2)));clear bj bk;go_upto_region 9 with fail;go_quiet (fail)
 case' inr.inr.inr=>
  have bI:¬ (0:Int) < au:=by omega
  have cs:(k1==1)=false:=by simp[ah]
  have aT:=y' ((d' bj) (λh=>h.elim (λh=>by omega) (λh=>ah h.1)));clear bj bk;go_upto_region 9 with fail;go_quiet (fail)
 all_goals
  go_upto_region 12 with fail
  refine G' (λx=>∃lf',lf'<=9223372036854775807/\Yl w a (q+4) Q x ac y u Y Z ai (AZ 182 I J H (skP (b+1) ar lf' false J (CK G k1 M sn qn V).1 ao U') (skR H G r lv z mo) ar lf') f k1 M sn qn V aB.heap.size fv aq aC U') (by first|exact⟨lf',bw,(d' aT) _ lf' (z36 (z11 _ _) _) cr bw⟩|exact⟨lf',bw,(d' aT) _ lf' (z11 _ _) cr bw⟩|exact(d' aT) _ (z36 (z11 _ _) _)|exact(d' aT) _ (z11 _ _)) ?_;try clear bJ
  clear aT br ak d1 d0 aD aE b2 aF aG bG aM;try clear bH
  try clear cs
  try clear ah
  try clear bI
  rintro cf ⟨lf',dv,aK⟩;have ay:=z12 aK.am.is.blk;have aa:=aK.fl;have ak:=Bi 1 aK.am.is.blk;simp[C']at ak;obtain⟨aD,aE,b2,aF,aG⟩:=aK.fr;have dw:=y' aK;have dx:=y' dv;clear aK dv;refine CO
   [Ep I 0,Ep I 0,Ep I 1,Ep H 0,Ev (.agg #[Ej k1,Ej M,Ej sn,Ej qn,.string V]),Et,Et]
   [[1],[1083],[2084],[3085],[10],[4086,5087],[6088]] [84,85,86,87,88,89,14] [13,1,69,6,58]
   5 _ rfl ?_ ?_ ?_
  .refine⟨?_,?_,?_,?_,?_,trivial⟩;all_goals
    intro bA x hb av;have bS:=Bc hb ay ak;have z0:=Bc hb aa aD;have di:=Bc hb aa aE;have dj:=Bc hb aa b2;have z3:=Bc hb aa aF;have z4:=Bc hb aa aG;clear hb;simp[J']at av;try go_simp
    try exact z11 _ _
   all_goals first|exact⟨rfl,z11 _ _⟩|skip
  intro f9 aN aj;rfl
  .intro f9 eC hb aj;simp only[AJ,List.take]at aj;obtain⟨_,_,_,ec,ed,_⟩:=aj;have cu:=y' ((d' dw).below hb);clear hb dw ak aD aE b2 aF aG ay aa;simp only[V',ec,ed];go_simp;refine(eZ (d' cu).am.is.r.at_ (d' ax).Vr k1 M sn qn V (d' bc).2.1.1 (d' bc).2.1.2 (by have:=(d' bc).2.2.1;omega) (by have:=(d' bc).2.2.2.1;omega)).mono ?_;rintro eD ee ⟨wv,rfl,dy,cv,cw,dz,hF,dA⟩;have az:Hid (Cp 148 #[C' ac,fv,wv] ee λe aH=>Rr e (.bool true)/\Xv GJ w a (q+56) (b+1) Q aH ac y u Y Z ai):=by have T:=d' cu;obtain⟨bK,dB⟩:=d' ds;have hd:=d' dt;have bE:=T.am.ref (R':=skR H (CK G k1 M sn qn V).1 r cv cw mo) (ar':=ar) (lf':=lf') (hF.mono (λF _ h=>.inr (.inl h))) (hF.blk T.am.is.blk (λe=>T.am.is.qR (.inl e))) ⟨dz,by rw[bK,dB];exact z20 _ _ _ _,λF z=>by rw[bK]at z;cases z⟩ (λF z=>z.elim (λh=>(dA F h).imp .inl id) (λh=>by rw[bK]at h;cases h));have bb:GJ (b+1) (AZ 182 I J H (skP (b+1) ar lf' false J (CK G k1 M sn qn V).1 ao U') (skR H (CK G k1 M sn qn V).1 r cv cw mo) ar lf'):=⟨b+1,I,J,H,_,r,cv,cw,mo,ao,U',ar,lf',z16 _,by unfold skT;rw[hd],d' dx,d' dY,λ_=>⟨bK,dB⟩,λh=>by rw[hd]at h;cases h⟩;refine y' ((T.Yd bE hF (λF z=>.inr (.inl (.inl z)))).same bb (by rw[d' dX];exact AR dy) (d' aY) (by omega))
   clear cu dy dz hF dA ds dx;intro bm dQ;obtain⟨eF,rfl⟩:∃b,bm=b+1:=⟨bm - 1,by omega⟩;refine BP (i:=6) (by kernel_rfl) rfl rfl ?_;go_simp;refine DP (by kernel_rfl) ?_;unfold C' at az;go_upto_region 22 with fail;go_wp2_with (go_at_call 148;refine Cm az ?_;rintro eG eH ⟨rfl,ba⟩);go_ret;exact⟨rfl,ba⟩
theorem am' (xs:List Value):CL (λv z=>Jr z v xs):=λ_ _ _ h hb=>h.below hb
theorem uW (R:Qi p w c P m I) (i:Int):(JI P.dead c i).length<=900:=by
 unfold JI DT;split;simp;split;have:=R.kl i.toNat (by omega);simp[Ag.Xn];omega;simp
section
variable {B D n m:Nat} {A:Nat->Nat->Prop} {asv ssv hv:Value} {hs:List Nat} {la ls:List AD} (w:World) (wb ix:Nat) (nn i:Int) (s:z10) (kp fk fe fst fq:Int) (fb:z10) (q sv rp:Nat) (a:Ag) (r:AY) (kv hk:Nat->Value) (U:Nat->Prop) (ar:Bool) (lf:Int)
theorem eF (S:Qr B n A w wb asv ssv hv hs la ls) (aD:JG D wb asv ssv hv (la++ls)) (hi:(la++ls)[ix]? =some (agT m q sv rp a r kv hk U ar lf)) (O:gO m lf a r) (aT:n+4<=17592186044416):
  Cp 96 #[C' wb,C' q,AL 7 nn i s kp fk fe fst fq fb] w λx w'=>Rr x (.bool true)/\Xv IG B D (n+4) m w w' wb asv ssv la ls ix:=by
 have aU:=y' ((z11 w.heap.size w).alloc (z16 _) (.cells #[Ej 7,Ej nn,Ej i,.string s,.int .u64 kp,Ej fk,Ej fe,Ej fst,Ej fq,.string fb] 94));have J:=(Qm.start S aD hi).below (M':=λk=>k=w.heap.size) (d' aU) (λk hk=>.inr ⟨rE hk.symm,by rw[hk];simp⟩);have aE:=Bi 0 J.is.blk;have aF:=y' (AgL.Qa J.is.p);have aG:=y' J;have aV:=y' O;have aH:=λ(x:World) (I:AgL m ar lf r.dead x sv a U)=>y' (AgL.Xn i I);have ad:=λ(x:World) (I:Qi x rp a r kv hk)=>y' (PI I i);have ah:Hid ((JI r.dead a i).length<=900):=y' (uW J.is.r i);clear S aD hi O J;simp at aE;unfold C' AL at *;go_enter func96,ntmps96;go_upto_region 11 with fail;go_upto_region 12 with (go_at_call 24;refine Cm aF ?_;rintro aY aZ ⟨rfl,Y⟩;have b2:=DA Y 2;have z:=z21 (show w.heap.size < (w.alloc (.cells #[Ej 7,Ej nn,Ej i,.string s,.int .u64 kp,Ej fk,Ej fe,Ej fst,Ej fq,.string fb] 94)).heap.size by simp) Y.size;have aI:=y' ((d' aG).below (M':=λk=>k=w.heap.size) Y (λ_ h=>.inl h));clear Y);clear aF aG aE;simp at b2;refine G' (λx=>x.cell? (Ea w.heap.size 2)=some (Ej i)/\w.heap.size < x.heap.size/\Qm B D n (λk=>k=w.heap.size) w x wb asv ssv la ls ix (agT m q sv rp a r kv hk U ar lf)) ⟨b2,z,d' aI⟩ ?_;clear b2 z aI;rintro Z ⟨b2,z,M⟩;have ai:=Bi 0 M.is.blk;simp[C']at ai;have Q:=z12 M.is.blk;have aJ:=λ(x:World) (hb:El Z x)=>aH x ((M.below (M':=λ_=>False) hb (λ_ h=>h.elim)).is.p);have aK:=y' M;clear M aH;obtain⟨L,aj⟩:=exq (JI r.dead a i);rw[<-aj]at ad ah;have ak:∀x:World,El Z x->Hid (Cp 18 #[C' sv,Ej i] x λe aa=>∃v,e=.returned v/\aa.ownsRow x.heap.size 9 1 v L.length (AF L)/\El x aa):=λx hb=>by rw[aj];exact aJ x hb
 clear aJ aj;unfold C' at ak;refine AI
  [Ep q 0,Ep q 0,Ep q 0,Ep sv 0,Ep w.heap.size 2,Ei i,λv F=>F.ownsRow Z.heap.size 9 1 v L.length (AF L),λv F=>F.ownsRow Z.heap.size 9 1 v L.length (AF L)]
  [[1],[1049],[2050],[3051],[5],[5053],[4052,6054],[7055]] [50,51,52,53,54,55,56,11] [10,1,38,7,63] ?_ ?_ (hst:=by repeat' (first|exact Y' _|exact ae' _ _ _ _|exact trivial|apply z13))
 .refine⟨?_,?_,?_,?_,?_,?_,?_,?_,trivial⟩;all_goals
   intro b x hb G;have z0:=Bc hb Q ai;have aW:=Bc hb z b2;have ao:=ak x hb;have aX:=hb.size;clear hb;simp only[J',List.getD_cons_zero,List.getD_cons_succ,Array.getD_eq_getD_getElem?]at G;try simp only[and_true,Nat.reduceLT,Nat.reduceDiv,Nat.reduceMod,Nat.reduceSub,if_true,if_false,List.getD_cons_zero]at G
   try go_simp
   try exact z11 _ _
  all_goals first
   |exact⟨rfl,z11 _ _⟩
   |(refine Cm ao ?_;rintro e aa ⟨v,rfl,aq,au⟩;exact⟨_,rfl,au,DI aq aX⟩)
   |exact⟨_,rfl,z11 _ _,G⟩
   |skip
 intro f aL ab H;simp only[AJ]at H;have ac:=H.2.2.2.2.2.2.2.1;obtain⟨aM,av⟩:=exq (f 10);rw[<-av]at ac;have aN:=y' ac;have V:Hid (Qm B D n (λk=>k=w.heap.size\/aM.ownBlock=some k) w aL wb asv ssv la ls ix (agT m q sv rp a r kv hk U ar lf)):=y' ((d' aK).below ab (λk hk=>hk.imp id (λe=>z14 ac k e)));have c2:=Bc ab z b2;have aO:=z21 z ab.size;clear H ac ab b2 ai z Q aK ak;simp only[V',<-av];clear av;have ax:=Bi 1 (d' V).is.blk;simp[C']at ax;have Q:=z12 (d' V).is.blk;have aP:=λ(x:World) (hb:El aL x)=>ad x (((d' V).below (M':=λ_=>False) hb (λ_ h=>h.elim)).is.r);go_upto_region 13 with fail;refine AI
  [Ep q 0,Ep q 0,Ep q 1,Ep rp 0,Ep w.heap.size 2,Ei i,λv F=>Jr F v (AF L),λv F=>Jr F v (AF L)]
  [[1],[1056],[2057],[3058],[5],[5060],[4059,6061],[7062]] [57,58,59,60,61,62,63,12] [11,1,44,7,56] ?_ ?_ (hst:=by repeat' (first|exact Y' _|exact am' _|exact trivial|apply z13))
 .refine⟨?_,?_,?_,?_,?_,?_,?_,?_,trivial⟩;all_goals
   intro b x hb G;have z0:=Bc hb Q ax;have aW:=Bc hb aO c2;have ao:=aP x hb;clear hb;simp only[J',List.getD_cons_zero,List.getD_cons_succ,Array.getD_eq_getD_getElem?]at G;try simp only[and_true,Nat.reduceLT,Nat.reduceDiv,Nat.reduceMod,Nat.reduceSub,if_true,if_false,List.getD_cons_zero]at G
   try go_simp
   try exact z11 _ _
  all_goals first
   |exact⟨rfl,z11 _ _⟩
   |(refine Cm ao ?_;rintro e aa ⟨v,rfl,aq,au⟩;exact⟨_,rfl,au,AR aq⟩)
   |exact⟨_,rfl,z11 _ _,G⟩
   |skip
 intro f2 ba ay H;simp only[AJ]at H;obtain⟨bb,az⟩:=exq (f2 11);have aA:=H.2.2.2.2.2.2.2.1;rw[<-az]at aA;have aQ:=y' aA;have aR:=y' ((d' V).below (M':=λk=>k=w.heap.size\/aM.ownBlock=some k) ay (λk hk=>.inl hk));have aS:=y' (ae' _ _ _ _ _ _ _ (d' aN) ay);clear H aA ay c2 ax aO Q V aN aP ad;simp only[V',<-az];clear az;have aB:=y' ((d' aR).told (KC (d' aS)) (λk hk=>.inr hk) (d' aQ) (d' ah) aT);clear aR aS aQ ah;unfold C' at aB;go_upto_region 14 with fail;go_upto_region 15 with (go_at_call 151;refine Cm aB ?_;rintro bc bd ⟨rfl,I⟩;have aC:=y' I;clear I);have c1:=Bi 1 (d' aC).is.blk;have d0:=Bi 0 (id (d' aC).is.r).blk;simp[AE,C']at c1 d0;clear aB;go_wp2;go_ret;exact⟨rfl,_,_,⟨m,q,sv,rp,a,r,kv,hk,U,ar,lf,z16 _,rfl,d' aV⟩,d' aC⟩
theorem mG (S:Qr B n A w wb asv ssv hv hs la ls) (az:JG D wb asv ssv hv (la++ls)) (hi:(la++ls)[ix]? =some (agT m q sv rp a r kv hk U ar lf)) (O:gO m lf a r) (ac: -9223372036854775808<=i/\i<=9223372036854775807):
  Cp 96 #[C' wb,C' q,AL 13 nn i s kp fk fe fst fq fb] w λx w'=>Rr x (.bool true)/\Xv IG B D n m w w' wb asv ssv la ls ix:=by
 have aA:=y' ((z11 w.heap.size w).alloc (z16 _) (.cells #[Ej 13,Ej nn,Ej i,.string s,.int .u64 kp,Ej fk,Ej fe,Ej fst,Ej fq,.string fb] 94));have aB:=(Qm.start S az hi).below (M':=λk=>k=w.heap.size) (d' aA) (λk hk=>.inr ⟨rE hk.symm,by rw[hk];simp⟩);have aC:=y' aB;have ad:=y' O;have aD:=λ(x:World) (aU:AgL m ar lf r.dead x sv a U)=>y' (AgL.arm i aU ac.2);have aV:=y' ac;clear S az hi O aB ac;unfold C' AL at *;go_enter func96,ntmps96;go_upto_region 18 with fail;refine G' (λx=>Eh x w.heap.size #[Ej 13,Ej nn,Ej i,.string s,.int .u64 kp,Ej fk,Ej fe,Ej fst,Ej fq,.string fb] 94/\Qm B D n (λk=>k=w.heap.size) w x wb asv ssv la ls ix (agT m q sv rp a r kv hk U ar lf)) ⟨z19 w _,d' aC⟩ ?_;clear aC aA;rintro bd ⟨V,Y⟩;have b2:=Bi 2 V;have J:=z12 V;have ah:=Bi 0 Y.is.blk;simp[C']at ah b2;have G:=z12 Y.is.blk;have aE:=y' Y;have aF:=y' V;clear Y V;refine Z'
  [Ep q 0,Ep q 0,Ep q 0,Ep sv 0,Ep w.heap.size 2,Ei i,Et]
  [[1],[1093],[2094],[3095],[5],[5097],[4096,6098]] [94,95,96,97,98,99,100] [93,7,19]
  6 _ rfl rfl ?_ ?_
 .refine⟨?_,?_,?_,?_,?_,?_,trivial⟩;all_goals
   intro b x hb I;have z0:=Bc hb G ah;have aW:=Bc hb J b2;clear hb;simp[J']at I;try go_simp
   try exact z11 _ _
  all_goals first|exact⟨rfl,z11 _ _⟩|skip
 intro f aX ai H;simp only[AJ,List.take]at H;have aG:=H.2.2.2.1;have aH:=H.2.2.2.2.2.1;have Z:=y' ((d' aE).below (M':=λk=>k=w.heap.size) ai (λ_ h=>.inl h));have aI:=y' ((ai.block _ J).trans (d' aF));clear H ai b2 ah J G aE aF;simp only[V',aG,aH];clear aG aH;go_simp;refine Cm (aD aX (d' Z).is.p) ?_;rintro be aY ⟨rfl,hA4,aj⟩;obtain⟨d,hd⟩:=exq (r.dead);obtain⟨z,aa⟩:=exq (decide (0 < i));obtain⟨ag,M⟩:=exq ((z&& !d));have bf:=y' M;have F:=y' ((d' Z).prgm (P':=agP m ag i r.dead sv a U) aj (by rw[M,aa,hd];exact hA4) (λ_ h=>.inl h));have ak:=y' (((d' Z).held aj (λk hk=>.inr (.inr hk)) _ rfl).trans (d' aI));have aJ:=y' hd;clear hA4 aj Z aI aD hd;go_upto_region 19 with fail;have b2:=Bi 2 (d' ak);have J:=z12 (d' ak);have ao:=Bi 1 (d' F).is.blk;have aq:=Bi 2 (d' F).is.blk;have au:=Bi 3 (d' F).is.blk;have f2:=H' (i:=2) (d' F).is.blk;have f3:=H' (i:=3) (d' F).is.blk;have ab:=Bi 4 (id (d' F).is.r).blk;simp[AE,C']at b2 ao aq au ab;rw[<-d' aJ]at ab;have G:=z12 (d' F).is.blk;have aK:=z12 (id (d' F).is.r).blk;have aL:∀x,El aY x->x.there q 2 2:=λx hb j hj=>by
  have h2:=Bc hb G aq;have h3:=Bc hb G au;have g2:=(hb.frozen (p:=⟨q,2,none⟩) G).trans f2;have aZ:=(hb.frozen (p:=⟨q,3,none⟩) G).trans f3;obtain rfl|rfl:j=0\/j=1:=by omega
  exact⟨by rw[h2];rfl,g2⟩;exact⟨by rw[h3];rfl,aZ⟩
 have aM:=y' aL;clear aq au f2 f3 aL ak;have ba:∀x:Nat,decide (0 < i)=z:=λ_=>aa.symm;have aN:=y' aa;clear aa ba;cases z
 case' false=>
  have bb:¬0 < i:=by have:=d' aN;simpa using this.symm
  have aO:ag=false:=by rw[M];rfl
 case' true=>
  have bb:0 < i:=by have:=d' aN;simpa using this.symm
  have aO:ag= !d:=by rw[M];rfl
 case' false=>let z:Bool:=false
 case' true=>let z:Bool:=true
 all_goals
  clear M;subst aO;refine Z'
   [Ep q 0,Ep w.heap.size 2,Ei i,Eb z,Eb z,
    λv _=>z=true->v=Er q 0,λv _=>z=true->v=Er q 0,λv _=>z=true->v=Er q 1,λv _=>z=true->v=Er rp 0,λv _=>z=true->v=Er rp 0,λv _=>z=true->v=Er rp 4,λv _=>z=true->v=.bool d,λv _=>z=true->v=.bool (!d),
    Eb (z&& !d),Ep w.heap.size 2,Ei i,Ev (.agg #[.bool (z&& !d),Ej i]),Ep q 0,Ep q 2,Et]
   [[1],[5],[2101],[3102],[4103],[1,5104],[6105,5104],[7106,5104],[8107,5104],[9108,5104],[10109,5104],[11110,5104],[12111,5104],[5104,13112],[5],[15114],[14113,16115],[1100],[18117],[19118,17116]] [101,102,103,104,105,106,107,108,109,110,111,112,113,114,115,116,117,118,119,0] [100,19]
   19 _ rfl rfl ?_ ?_ (hst:=by repeat' (first|exact Y' _|exact aa'|exact(λ_ _ _ h _=>h)|exact trivial|apply z13))
  .refine⟨?_,?_,?_,?_,?_,?_,?_,?_,?_,?_,?_,?_,?_,?_,?_,?_,?_,?_,?_,trivial⟩;all_goals
    intro b x hb I;have z0:=Bc hb G ao;have aW:=Bc hb J b2;have bg:=Bc hb aK ab;clear hb;simp[J',z]at I;try (have aP:b.tmps[104]? =some (.bool z):=SC (by first|exact I|exact I.1|exact I.2|exact I.2.2))
    try simp only[z]at aP
    try go_simp
    try simp only[aP,if_true]
    try go_simp
    try exact z11 _ _
   all_goals first
    |exact⟨rfl,z11 _ _⟩
    |exact⟨_,rfl,z11 _ _,λ_=>rfl⟩
    |exact⟨_,rfl,z11 _ _,rfl⟩
    |exactλh=>by cases h
    |skip
  .intro f5 av ax H;simp only[AJ,List.take]at H;have hv:=H.2.2.2.2.2.2.2.2.2.2.2.2.2.2.2.2.1;have aQ:=H.2.2.2.2.2.2.2.2.2.2.2.2.2.2.2.2.2.2.1;clear H;simp only[V',hv,aQ];clear hv aQ;refine wp_store_mid 173 (.tmp 118) (.tmp 116) rfl q 2 #[.bool (z&& !d),Ej i] rfl rfl ((d' aM) av ax) (by kernel_rfl) (by rw[z43];intro u hu;simp at hu;rcases hu with rfl|rfl <;> rfl) ?_;have Q:=(d' F).below (M':=λ_=>False) ax (λ_ h=>h.elim);have aR:=T' av q 2 (.bool (z&& !d));have aS:=T' (av.setCell ⟨q,2,none⟩ (.bool (z&& !d))) q 3 (Ej i);have aT:=AA (j:=3) (v:=Ej i) (AA (j:=2) (v:=.bool (z&& !d)) Q.is.blk);have ay:=aR.trans aS Ih;have bc:=y' (Q.ref (R':=agR rp a r kv hk) (ar':=z&& !d) (lf':=i) (ay.mono (λk _ h=>.inl h)) (by simpa using aT) ((agR rp a r kv hk).far Q.is.r ay (λk hk e=>Q.is.qR (e ▸ hk))) (λk hk=>.inl hk));clear Q aR aS aT ay ax aM F b2 J ao ab G aK;go_simp;go_wp2;go_ret;exact⟨rfl,_,_,⟨m,q,sv,rp,a,r,kv,hk,U,_,i,z16 _,by rw[d' aJ];rfl,(d' ad).ex,(d' aV).2,(d' ad).Vr,(d' ad).ep⟩,d' bc⟩
end
theorem Ey (z:Jd x) (d:Bool) (i:Int):(mA d x i).length<=900:=by
 unfold mA;split;simp;have:=tA z i;omega
theorem SkL.epochB {K:Nat} (h:SkL K aD o aV p w x F N):Cp 27 #[C' w] p λr w'=>Rr r (Ej x.Qa)/\El p w':=
 h.Qa.mono λ_ _ ⟨e,z⟩=>⟨e,by rw[z];exact z11 _ _⟩
section
variable {B D n m:Nat} {A:Nat->Nat->Prop} {asv ssv hv:Value} {hs:List Nat} {la ls:List AD} (w:World) (wb ix:Nat) (nn i:Int) (s:z10) (kp fk fe fst fq:Int) (fb:z10) (q sv rp:Nat) (a:Mq.Sk) (r:AU) (lv:Nat->Value) (hk:Value) (mo:List z10) (lg:Nat->List z10) (U:Nat->Prop) (ar:Bool) (lf:Int)
theorem mH (S:Qr B n A w wb asv ssv hv hs la ls) (z:JG D wb asv ssv hv (la++ls)) (hi:(la++ls)[ix]? =some (skT m q sv rp a r lv hk mo lg U ar lf)) (O:uU lf a r lg mo) (G:m < 1000000000) (H:s.size<=140737488353980) (I:n+56<=17592186044416):
  Cp 98 #[C' wb,C' q,AL 9 nn i s kp fk fe fst fq fb] w λx w'=>Rr x (.bool true)/\Xv GJ B D (n+56) (m+1) w w' wb asv ssv la ls ix:=by
 have F:=y' ((z11 w.heap.size w).alloc (z16 _) (.cells #[Ej 9,Ej nn,Ej i,.string s,.int .u64 kp,Ej fk,Ej fe,Ej fst,Ej fq,.string fb] 94));have J:=y' (uV _ wb ix 9 nn i s kp fk fe fst fq fb q sv rp a r lv hk mo lg U ar lf (S.below (d' F)) z hi O G H I);clear S z hi O;unfold C' AL at *;go_enter func98,ntmps98;go_wp2_with (go_at_call 153;refine Cm J ?_;rintro Q V ⟨rfl,M⟩);go_ret;exact⟨rfl,M.base (d' F)⟩
theorem gQ (S:Qr B n A w wb asv ssv hv hs la ls) (aB:JG D wb asv ssv hv (la++ls)) (hi:(la++ls)[ix]? =some (skT m q sv rp a r lv hk mo lg U ar lf)) (O:uU lf a r lg mo) (aR:n+4<=17592186044416):
  Cp 98 #[C' wb,C' q,AL 10 nn i s kp fk fe fst fq fb] w λx w'=>Rr x (.bool true)/\Xv GJ B D (n+4) m w w' wb asv ssv la ls ix:=by
 have aS:=y' ((z11 w.heap.size w).alloc (z16 _) (.cells #[Ej 10,Ej nn,Ej i,.string s,.int .u64 kp,Ej fk,Ej fe,Ej fst,Ej fq,.string fb] 94));have V:=(Qm.start S aB hi).below (M':=λk=>k=w.heap.size) (d' aS) (λk hk=>.inr ⟨rE hk.symm,by rw[hk];simp⟩);have aC:=Bi 0 V.is.blk;have aD:=y' (SkL.epochB V.is.p);have aE:=y' V;have aT:=y' O;have aF:=λ(x:World) (I:SkL m ar lf r.dead x sv a lg U)=>y' (SkL.log i I);have ad:=λ(x:World) (I:QI x rp a r lv hk mo)=>y' (uT I.at_ i);have ah:Hid ((mA r.dead a i).length<=900):=y' (Ey O.Vr r.dead i);clear S aB hi O V;simp at aC;unfold C' AL at *;go_enter func98,ntmps98;go_upto_region 5 with fail;go_upto_region 6 with (go_at_call 27;refine Cm aD ?_;rintro aY aZ ⟨rfl,Y⟩;have b2:=DA Y 2;have z:=z21 (show w.heap.size < (w.alloc (.cells #[Ej 10,Ej nn,Ej i,.string s,.int .u64 kp,Ej fk,Ej fe,Ej fst,Ej fq,.string fb] 94)).heap.size by simp) Y.size;have aG:=y' ((d' aE).below (M':=λk=>k=w.heap.size) Y (λ_ h=>.inl h));clear Y);clear aD aE aC;simp at b2;refine G' (λx=>x.cell? (Ea w.heap.size 2)=some (Ej i)/\w.heap.size < x.heap.size/\Qm B D n (λk=>k=w.heap.size) w x wb asv ssv la ls ix (skT m q sv rp a r lv hk mo lg U ar lf)) ⟨b2,z,d' aG⟩ ?_;clear b2 z aG;rintro Z ⟨b2,z,J⟩;have ai:=Bi 0 J.is.blk;simp[C']at ai;have M:=z12 J.is.blk;have aH:=λ(x:World) (hb:El Z x)=>aF x ((J.below (M':=λ_=>False) hb (λ_ h=>h.elim)).is.p);have aI:=y' J;clear J aF;obtain⟨L,aj⟩:=exq (mA r.dead a i);rw[<-aj]at ad ah;have ak:∀x:World,El Z x->Hid (Cp 17 #[C' sv,Ej i] x λe aa=>∃v,e=.returned v/\aa.ownsRow x.heap.size 9 1 v L.length (AF L)/\El x aa):=λx hb=>by rw[aj];exact aH x hb
 clear aH aj;unfold C' at ak;refine AI
  [Ep q 0,Ep q 0,Ep q 0,Ep sv 0,Ep w.heap.size 2,Ei i,λv F=>F.ownsRow Z.heap.size 9 1 v L.length (AF L),λv F=>F.ownsRow Z.heap.size 9 1 v L.length (AF L)]
  [[1],[1026],[2027],[3028],[5],[5030],[4029,6031],[7032]] [27,28,29,30,31,32,33,9] [8,1,17,7,63] ?_ ?_ (hst:=by repeat' (first|exact Y' _|exact ae' _ _ _ _|exact trivial|apply z13))
 .refine⟨?_,?_,?_,?_,?_,?_,?_,?_,trivial⟩;all_goals
   intro b x hb G;have z0:=Bc hb M ai;have aU:=Bc hb z b2;have ao:=ak x hb;have aV:=hb.size;clear hb;simp only[J',List.getD_cons_zero,List.getD_cons_succ,Array.getD_eq_getD_getElem?]at G;try simp only[and_true,Nat.reduceLT,Nat.reduceDiv,Nat.reduceMod,Nat.reduceSub,if_true,if_false,List.getD_cons_zero]at G
   try go_simp
   try exact z11 _ _
  all_goals first
   |exact⟨rfl,z11 _ _⟩
   |(refine Cm ao ?_;rintro e aa ⟨v,rfl,aW,aX⟩;exact⟨_,rfl,aX,DI aW aV⟩)
   |exact⟨_,rfl,z11 _ _,G⟩
   |skip
 intro f aJ ab H;simp only[AJ]at H;have ac:=H.2.2.2.2.2.2.2.1;obtain⟨aK,aq⟩:=exq (f 8);rw[<-aq]at ac;have aL:=y' ac;have Q:Hid (Qm B D n (λk=>k=w.heap.size\/aK.ownBlock=some k) w aJ wb asv ssv la ls ix (skT m q sv rp a r lv hk mo lg U ar lf)):=y' ((d' aI).below ab (λk hk=>hk.imp id (λe=>z14 ac k e)));have c2:=Bc ab z b2;have aM:=z21 z ab.size;clear H ac ab b2 ai z M aI ak;simp only[V',<-aq];clear aq;have au:=Bi 1 (d' Q).is.blk;simp[C']at au;have M:=z12 (d' Q).is.blk;have aN:=λ(x:World) (hb:El aJ x)=>ad x (((d' Q).below (M':=λ_=>False) hb (λ_ h=>h.elim)).is.r);go_upto_region 7 with fail;refine AI
  [Ep q 0,Ep q 0,Ep q 1,Ep rp 0,Ep w.heap.size 2,Ei i,λv F=>Jr F v (AF L),λv F=>Jr F v (AF L)]
  [[1],[1033],[2034],[3035],[5],[5037],[4036,6038],[7039]] [34,35,36,37,38,39,40,10] [9,1,23,7,56] ?_ ?_ (hst:=by repeat' (first|exact Y' _|exact am' _|exact trivial|apply z13))
 .refine⟨?_,?_,?_,?_,?_,?_,?_,?_,trivial⟩;all_goals
   intro b x hb G;have z0:=Bc hb M au;have aU:=Bc hb aM c2;have ao:=aN x hb;clear hb;simp only[J',List.getD_cons_zero,List.getD_cons_succ,Array.getD_eq_getD_getElem?]at G;try simp only[and_true,Nat.reduceLT,Nat.reduceDiv,Nat.reduceMod,Nat.reduceSub,if_true,if_false,List.getD_cons_zero]at G
   try go_simp
   try exact z11 _ _
  all_goals first
   |exact⟨rfl,z11 _ _⟩
   |(refine Cm ao ?_;rintro e aa ⟨rfl,v,rfl,hl⟩;exact⟨_,rfl,z11 _ _,hl⟩)
   |exact⟨_,rfl,z11 _ _,G⟩
   |skip
 intro f2 ba av H;simp only[AJ]at H;obtain⟨bb,ax⟩:=exq (f2 9);have ay:=H.2.2.2.2.2.2.2.1;rw[<-ax]at ay;have aO:=y' ay;have aP:=y' ((d' Q).below (M':=λk=>k=w.heap.size\/aK.ownBlock=some k) av (λk hk=>.inl hk));have aQ:=y' (ae' _ _ _ _ _ _ _ (d' aL) av);clear H ay av c2 au aM M Q aL aN ad;simp only[V',<-ax];clear ax;have az:=y' ((d' aP).told (KC (d' aQ)) (λk hk=>.inr hk) (d' aO) (d' ah) aR);clear aP aQ aO ah;unfold C' at az;go_upto_region 8 with fail;go_upto_region 9 with (go_at_call 151;refine Cm az ?_;rintro bc bd ⟨rfl,I⟩;have aA:=y' I;clear I);have c1:=Bi 1 (d' aA).is.blk;have d0:=Bi 0 (QI.at_ (d' aA).is.r).blk;simp[AK,C']at c1 d0;clear az;go_wp2;go_ret;exact⟨rfl,_,_,⟨m,q,sv,rp,a,r,lv,hk,mo,lg,U,ar,lf,z16 _,rfl,d' aT⟩,d' aA⟩
theorem rL (S:Qr B n A w wb asv ssv hv hs la ls) (az:JG D wb asv ssv hv (la++ls)) (hi:(la++ls)[ix]? =some (skT m q sv rp a r lv hk mo lg U ar lf)) (O:uU lf a r lg mo) (ac: -9223372036854775808<=i/\i<=9223372036854775807):
  Cp 98 #[C' wb,C' q,AL 14 nn i s kp fk fe fst fq fb] w λx w'=>Rr x (.bool true)/\Xv GJ B D n m w w' wb asv ssv la ls ix:=by
 have aA:=y' ((z11 w.heap.size w).alloc (z16 _) (.cells #[Ej 14,Ej nn,Ej i,.string s,.int .u64 kp,Ej fk,Ej fe,Ej fst,Ej fq,.string fb] 94));have aB:=(Qm.start S az hi).below (M':=λk=>k=w.heap.size) (d' aA) (λk hk=>.inr ⟨rE hk.symm,by rw[hk];simp⟩);have aC:=y' aB;have ad:=y' O;have aD:=λ(x:World) (aU:SkL m ar lf r.dead x sv a lg U)=>y' (SkL.arm i aU ac.2);have aV:=y' ac;clear S az hi O aB ac;unfold C' AL at *;go_enter func98,ntmps98;go_upto_region 12 with fail;refine G' (λx=>Eh x w.heap.size #[Ej 14,Ej nn,Ej i,.string s,.int .u64 kp,Ej fk,Ej fe,Ej fst,Ej fq,.string fb] 94/\Qm B D n (λk=>k=w.heap.size) w x wb asv ssv la ls ix (skT m q sv rp a r lv hk mo lg U ar lf)) ⟨z19 w _,d' aC⟩ ?_;clear aC aA;rintro bd ⟨V,Y⟩;have b2:=Bi 2 V;have J:=z12 V;have ah:=Bi 0 Y.is.blk;simp[C']at ah b2;have G:=z12 Y.is.blk;have aE:=y' Y;have aF:=y' V;clear Y V;refine Z'
  [Ep q 0,Ep q 0,Ep q 0,Ep sv 0,Ep w.heap.size 2,Ei i,Et]
  [[1],[1070],[2071],[3072],[5],[5074],[4073,6075]] [71,72,73,74,75,76,77] [70,7,19]
  6 _ rfl rfl ?_ ?_
 .refine⟨?_,?_,?_,?_,?_,?_,trivial⟩;all_goals
   intro b x hb I;have z0:=Bc hb G ah;have aW:=Bc hb J b2;clear hb;simp[J']at I;try go_simp
   try exact z11 _ _
  all_goals first|exact⟨rfl,z11 _ _⟩|skip
 intro f aX ai H;simp only[AJ,List.take]at H;have aG:=H.2.2.2.1;have aH:=H.2.2.2.2.2.1;have Z:=y' ((d' aE).below (M':=λk=>k=w.heap.size) ai (λ_ h=>.inl h));have aI:=y' ((ai.block _ J).trans (d' aF));clear H ai b2 ah J G aE aF;simp only[V',aG,aH];clear aG aH;go_simp;refine Cm (aD aX (d' Z).is.p) ?_;rintro be aY ⟨rfl,hA4,aj⟩;obtain⟨d,hd⟩:=exq (r.dead);obtain⟨z,aa⟩:=exq (decide (0 < i));obtain⟨ag,M⟩:=exq ((z&& !d));have bf:=y' M;have F:=y' ((d' Z).prgm (P':=skP m ag i r.dead sv a lg U) aj (by rw[M,aa,hd];exact hA4) (λ_ h=>.inl h));have ak:=y' (((d' Z).held aj (λk hk=>.inr (.inr hk)) _ rfl).trans (d' aI));have aJ:=y' hd;clear hA4 aj Z aI aD hd;go_upto_region 13 with fail;have b2:=Bi 2 (d' ak);have J:=z12 (d' ak);have ao:=Bi 1 (d' F).is.blk;have aq:=Bi 2 (d' F).is.blk;have au:=Bi 3 (d' F).is.blk;have f2:=H' (i:=2) (d' F).is.blk;have f3:=H' (i:=3) (d' F).is.blk;have ab:=Bi 1 (QI.at_ (d' F).is.r).blk;simp[AK,C']at b2 ao aq au ab;rw[<-d' aJ]at ab;have G:=z12 (d' F).is.blk;have aK:=z12 (QI.at_ (d' F).is.r).blk;have aL:∀x,El aY x->x.there q 2 2:=λx hb j hj=>by
  have h2:=Bc hb G aq;have h3:=Bc hb G au;have g2:=(hb.frozen (p:=⟨q,2,none⟩) G).trans f2;have aZ:=(hb.frozen (p:=⟨q,3,none⟩) G).trans f3;obtain rfl|rfl:j=0\/j=1:=by omega
  exact⟨by rw[h2];rfl,g2⟩;exact⟨by rw[h3];rfl,aZ⟩
 have aM:=y' aL;clear aq au f2 f3 aL ak;have ba:∀x:Nat,decide (0 < i)=z:=λ_=>aa.symm;have aN:=y' aa;clear aa ba;cases z
 case' false=>
  have bb:¬0 < i:=by have:=d' aN;simpa using this.symm
  have aO:ag=false:=by rw[M];rfl
 case' true=>
  have bb:0 < i:=by have:=d' aN;simpa using this.symm
  have aO:ag= !d:=by rw[M];rfl
 case' false=>let z:Bool:=false
 case' true=>let z:Bool:=true
 all_goals
  clear M;subst aO;refine Z'
   [Ep q 0,Ep w.heap.size 2,Ei i,Eb z,Eb z,
    λv _=>z=true->v=Er q 0,λv _=>z=true->v=Er q 0,λv _=>z=true->v=Er q 1,λv _=>z=true->v=Er rp 0,λv _=>z=true->v=Er rp 0,λv _=>z=true->v=Er rp 1,λv _=>z=true->v=.bool d,λv _=>z=true->v=.bool (!d),
    Eb (z&& !d),Ep w.heap.size 2,Ei i,Ev (.agg #[.bool (z&& !d),Ej i]),Ep q 0,Ep q 2,Et]
   [[1],[5],[2078],[3079],[4080],[1,5081],[6082,5081],[7083,5081],[8084,5081],[9085,5081],[10086,5081],[11087,5081],[12088,5081],[5081,13089],[5],[15091],[14090,16092],[1077],[18094],[19095,17093]] [78,79,80,81,82,83,84,85,86,87,88,89,90,91,92,93,94,95,96,0] [77,19]
   19 _ rfl rfl ?_ ?_ (hst:=by repeat' (first|exact Y' _|exact aa'|exact(λ_ _ _ h _=>h)|exact trivial|apply z13))
  .refine⟨?_,?_,?_,?_,?_,?_,?_,?_,?_,?_,?_,?_,?_,?_,?_,?_,?_,?_,?_,trivial⟩;all_goals
    intro b x hb I;have z0:=Bc hb G ao;have aW:=Bc hb J b2;have bg:=Bc hb aK ab;clear hb;simp[J',z]at I;try (have aP:b.tmps[81]? =some (.bool z):=SC (by first|exact I|exact I.1|exact I.2|exact I.2.2))
    try simp only[z]at aP
    try go_simp
    try simp only[aP,if_true]
    try go_simp
    try exact z11 _ _
   all_goals first
    |exact⟨rfl,z11 _ _⟩
    |exact⟨_,rfl,z11 _ _,λ_=>rfl⟩
    |exact⟨_,rfl,z11 _ _,rfl⟩
    |exactλh=>by cases h
    |skip
  .intro f5 av ax H;simp only[AJ,List.take]at H;have hv:=H.2.2.2.2.2.2.2.2.2.2.2.2.2.2.2.2.1;have aQ:=H.2.2.2.2.2.2.2.2.2.2.2.2.2.2.2.2.2.2.1;clear H;simp only[V',hv,aQ];clear hv aQ;refine wp_store_mid 173 (.tmp 95) (.tmp 93) rfl q 2 #[.bool (z&& !d),Ej i] rfl rfl ((d' aM) av ax) (by kernel_rfl) (by rw[z43];intro u hu;simp at hu;rcases hu with rfl|rfl <;> rfl) ?_;have Q:=(d' F).below (M':=λ_=>False) ax (λ_ h=>h.elim);have aR:=T' av q 2 (.bool (z&& !d));have aS:=T' (av.setCell ⟨q,2,none⟩ (.bool (z&& !d))) q 3 (Ej i);have aT:=AA (j:=3) (v:=Ej i) (AA (j:=2) (v:=.bool (z&& !d)) Q.is.blk);have ay:=aR.trans aS Ih;have bc:=y' (Q.ref (R':=skR rp a r lv hk mo) (ar':=z&& !d) (lf':=i) (ay.mono (λk _ h=>.inl h)) (by simpa using aT) ((skR rp a r lv hk mo).far Q.is.r ay (λk hk e=>Q.is.qR (e ▸ hk))) (λk hk=>.inl hk));clear Q aR aS aT ay ax aM F b2 J ao ab G aK;go_simp;go_wp2;go_ret;exact⟨rfl,_,_,⟨m,q,sv,rp,a,r,lv,hk,mo,lg,U,_,i,z16 _,by rw[d' aJ];rfl,(d' aV).2,(d' ad).Vr,(d' ad).live,(d' ad).dead⟩,d' bc⟩
end
def Hy:Value->Option Addr
 | .slice a _ _=>a
 | _=>none
def wI:Value->Nat
 | .slice _ _ c=>c
 | _=>0
theorem Jr.form {w:World} {v:Value} {L:List z10} (h:Jr w v (AF L)):v=.slice (Hy v) L.length (wI v):=by
 obtain⟨z,cap,rfl,_⟩:=h;rw[AO];rfl
theorem Ez (ls:Nat->Value) (hs:w < 3): #[ls 0,ls 1,ls 2][w]? =some (ls w):=by
 obtain rfl|rfl|rfl:w=0\/w=1\/w=2:=by omega
 all_goals rfl
theorem VW {L:List z10} (V:Jr p y (AF L)) (hb:Jr p u (AF L)) (ai:L.length<=9223372036854775807):
  Cp 213 #[y,u] p λe w'=>Rr e (.bool true)/\∃n,w'=p.drewN n:=by
 obtain⟨aj,ak,I,Y,ao,z⟩:=V;obtain⟨aq,au,J,Z,av,F⟩:=hb;rw[AO]at I Y z J Z F;subst I J;have aa:=y' z;have ab:=y' F;clear z F;go_enter func213,ntmps213;go_wp2;go_loopw[5] (λi wr=>∃k:Nat,k<=L.length/\i=.int .i64 k/\∃q,wr=p.drewN q) (λi _=>L.length - (intOf i).toNat)
 case atStart=>exact⟨0,by omega,rfl,0,rfl⟩
 case round=>
  obtain⟨k,ac,rfl,q,rfl⟩:=hrel;by_cases G:k < L.length
  .obtain⟨g,o,rfl,_,M⟩:=(d' aa) (by omega);obtain⟨g2,ax,rfl,_,Q⟩:=(d' ab) (by omega);have H:(AF L)[k]? =some (.string L[k]):=(by simp[AF,G]);have ad:=(M k G).trans H;have ah:=(Q k G).trans H;clear M Q H;generalize L[k]=ay at ad ah;go_wp2;go_quiet (fail);go_wp2;go_roundw
   case rel=>exact⟨k+1,by omega,by go_num,q+nq,by simp⟩
   case measure=>simp[intOf];omega
  clear ac;go_wp2;go_ret;exact⟨rfl,q,rfl⟩
section
variable {w:World} {p:Nat} {a:Ag} {r:AY} {kv hv:Nat->Value}
theorem zJ (R:Qi w p a r kv hv) (hd:r.dead=false) {ls:Nat->Value} (h:∀s,s < 3->Jr w (ls s) (AF (a.Xn s))):
  Cp 209 #[.pointer (some ⟨p,0,none⟩),.agg #[ls 0,ls 1,ls 2]] w λx w'=>Rr x (.bool true)/\Below w.heap.size w w':=by
 have Y:∀x:World,Below w.heap.size w x->∀s:Nat,s < 3->Hid (Cp 150 #[.pointer (some ⟨p,0,none⟩),Ej s] x λe w'=>∃v,e=.returned v/\Jr w' v (AF (a.Xn s))/\Below x.heap.size x w'):=λx hb s hs=>by
  refine y' ((PI (R.far (fbF hb) Ih) s).mono ?_);rintro e w' ⟨v,rfl,M,G⟩;rw[hd]at M;have aq:JI false a s=a.Xn s:=by unfold JI DT;rw[if_neg (by decide),if_pos (by omega)];rfl
  rw[aq]at M;exact⟨v,rfl,AR M,G⟩
 have Z:∀s,s < 3->(a.Xn s).length<=24:=λs hs=>by have:=R.kl s hs;simpa[Ag.Xn]using this
 have au:=y' Z;have aa:=y' h;clear R hd Z h;go_enter func209,ntmps209;go_wp2;go_loopw[5,6,7] (λi _ _ wr=>∃s:Nat,s<=3/\i=.int .i64 s/\Below w.heap.size w wr/\w.heap.size < wr.heap.size/\wr.heap[w.heap.size]? =some (.cells #[ls 0,ls 1,ls 2] 34 (0,0))) (λi _ _ _=>3 - (intOf i).toNat)
 case atStart=>exact⟨0,by omega,rfl,bna,by simp,z19 w _⟩
 case round=>
  obtain⟨s,hs,rfl,hb,Q,I⟩:=hrel;by_cases H:s < 3
  .have az:(s:Int) < 3:=(by omega);have z:=Bi s (I.trans rfl);rw[Ez ls H]at z;have ab:=Y wr hb s H;have ac:=((d' aa) s H).form;have J:=y' ((d' aa) s H);have aA:=(d' au) s H;rw[ac]at z J;have F:=y' hb;have av:=y' I;clear hb I ac Y;generalize Hy (ls s)=aB at z J;generalize wI (ls s)=aC at z J;go_upto_region 5 with (go_at_call 150;refine Cm ab ?_;rintro aD y ⟨v,rfl,hl,G⟩;have ad:=y' hl;have aE:=Bc G Q z;have ah:=y' G;clear hl G);obtain⟨ai,aj,ak,rfl⟩:∃ai aj ak,v=.slice ai aj ak:=⟨_,_,_,(d' ad).form⟩;have ax:=y' (VW (d' ad) (((d' J).below ((d' F).mono (z16 _) |>.trans ((d' ah).mono (d' F).size)))) (by omega));clear z ab;go_wp2_with (go_at_call 213;refine Cm ax ?_;rintro ao aF ⟨rfl,ay,rfl⟩);go_roundw
   case rel=>have V:=z36 (d' ah) ay;exact⟨s+1,by omega,by go_num,(d' F).trans (V.mono (d' F).size),z21 Q V.size,(V.block _ Q).trans (d' av)⟩
   case measure=>simp[intOf];omega
  have ao:s=3:=by omega
  subst ao;have F:=y' hb;clear hb I;go_wp2;go_ret;exact⟨rfl,d' F⟩
theorem Qi.rest {y:World} {r':AY} (R:Qi w p a r kv hv) (F:Far (λk=>k=p) w y) (hb:Eh y p (AE a r' kv hv) 171):Qi y p a r' kv hv:=
 ⟨hb,λs hs=>(R.kept s hs).far F (λg z e=>(R.kept s hs).ne R.blk (by decide) (e ▸ z)),λs hs=>(R.held s hs).far F (λg z e=>(R.held s hs).ne R.blk (by decide) (e ▸ z)),R.apk,R.aph,R.ep,R.tk,R.bs,R.kl,R.hl⟩
theorem rM (R:Qi w p a r kv hv) (hd:r.dead=false) {ls:Nat->Value} (h:∀s,s < 3->Jr w (ls s) (AF (a.Xn s))):
  Cp 191 #[Er p 0,.agg #[ls 0,ls 1,ls 2]] w λx w'=>Rr x (.bool true)/\Qi w' p a ⟨r.dead,0,0,0,r.st,En⟩ kv hv/\Far (λk=>k=p) w w':=by
 have F:El w (w.alloc (.cells #[ls 0,ls 1,ls 2] 34)):=bna;have G:=R.far (fbF F) Ih;have J:=y' (zJ G hd (ls:=ls) (λs hs=>(h s hs).below F));have V:=Bi 0 (z19 w (.cells #[ls 0,ls 1,ls 2] 34));have M:=y' G;have H:=y' F;clear R G h F V;go_enter func191,ntmps191;go_upto_region 2 with (go_at_call 209;refine Cm J ?_;rintro ah y ⟨rfl,I⟩;have z:=y' ((d' M).far (fbF I) Ih);have Y:=y' ((d' H).trans (I.mono (d' H).size));clear I);clear J M H;have f14:=H' (i:=14) (d' z).blk;have f15:=H' (i:=15) (d' z).blk;have f16:=H' (i:=16) (d' z).blk;have f18:=H' (i:=18) (d' z).blk;have Z:=Bi 14 (d' z).blk;have aa:=Bi 15 (d' z).blk;have ab:=Bi 16 (d' z).blk;have ac:=Bi 18 (d' z).blk;simp[AE]at Z aa ab ac;go_wp2;go_ret;have ad:=AA (j:=18) (v:=En) (AA (j:=16) (v:=Ej 0) (AA (j:=15) (v:=Ej 0) (AA (j:=14) (v:=Ej 0) (d' z).blk)));have Q:=((((T' y p 14 (Ej 0)).trans (T' _ p 15 (Ej 0)) Ih).trans (T' _ p 16 (Ej 0)) Ih).trans (T' _ p 18 En) Ih);exact⟨rfl,(d' z).rest Q (by simpa[AE]using ad),((I' (E:=λk=>k=p) (d' Y))).trans Q Ih⟩
end
theorem pI.same (S:pI Y Z w aK bD bI) (hi:(Y++Z)[w]? =some aK):bD=Y/\bI=Z:=by
 have h:bD++bI=Y++Z:=by
  apply z93;intro j;by_cases hj:j=w;subst hj;rw[S.here,hi];cases z:(bD++bI)[j]? with
  |some u=>exact(S.rest j u hj z).symm
  |none=>rw[Km,z29,S.lenA,S.lenS]at z;exact(Km.2 (by rw[z29];exact z)).symm
 exact List.append_inj h S.lenA
theorem Qr.wrote {B n:Nat} {A:Nat->Nat->Prop} {E:Nat->Prop} {x y:World} {H:Nat} {I J M:Value} {hs:List Nat} {Q ls:List AD} (S:Qr B n A x H I J M hs Q ls) (F:Far E x y) (G:∀k,E k->UE A H I J M (Q++ls) k):Qr B n A y H I J M hs Q ls:=
 ⟨S.hn,S.wat.far F (λk hu z=>(G k z).1.1 hu) (λb o h=>⟨(S.a2 b o h).1,λz=>(G b z).2 o h⟩),F.own S.Yj (λg V z=>(G g z).1.2.1 V),F.own S.Vu (λg V z=>(G g z).1.2.2.1 V),S.sixA,S.sixS,λi u hu=>u.far (S.each i u hu) F (λk Y z=>(G k z).1.2.2.2 i u hu Y),S.apart,S.us,S.asu,S.ssu,S.usB,z26 S.bx F.size,λb o h=>⟨z21 (S.a2 b o h).1 F.size,(S.a2 b o h).2⟩⟩
section
variable {B D N:Nat} {M:Nat->Prop} {w x y:World} {wb:Nat} {asv ssv:Value} {la ls:List AD} {i:Nat} {t:AD}
theorem Qm.wrote {E:Nat->Prop} (I:Qm B D N M w x wb asv ssv la ls i t) (G:Far E x y) (H:∀k,E k->M k):Qm B D N M w y wb asv ssv la ls i t:=by
 obtain⟨A,J,hs,Q,V,L,S,Y,O,F⟩:=I;exact⟨A,J,hs,Q,V,L,S.wrote G (λk z=>(F k (H k z)).1),Y.trans G (λk z Z=>by have:=(F k (H k Z)).2.2;omega),O,λk z=>⟨(F k z).1,z21 (F k z).2.1 G.size,(F k z).2.2⟩⟩
theorem Qm.open_ (F:Qm B D N M w x wb asv ssv la ls i t) (hi:(la++ls)[i]? =some t):∃A z hs,Qr B N A x wb asv ssv z hs la ls/\Far (λk=>B<=k/\k < D) w x/\(∀k,(Us wb z k\/asv.ownBlock=some k\/ssv.ownBlock=some k\/∃ (i:Nat) (u:AD),(la++ls)[i]? =some u/\u.In k)->k < D\/w.heap.size<=k)/\
  ∀k,M k->UE A wb asv ssv z (la++ls) k/\k < x.heap.size/\w.heap.size<=k:=by
 obtain⟨A,z,hs,I,J,L,S,G,O,H⟩:=F;obtain⟨rfl,rfl⟩:=L.same hi;exact⟨A,z,hs,S,G,O,H⟩
theorem UM {X w1:World} {v v1:Value} (F:App X w1 v v1):∀g,v1.ownBlock=some g->v.ownBlock=some g\/X.heap.size<=g:=by
 intro g z;rcases F.where_ with h|⟨_,g',h,G⟩;exact .inl (h ▸ z);rw[h]at z;injection z with z;exact .inr (by omega)
theorem Qm.pushA {X w1:World} {v1:Value} (ab:Qm B D N M w x wb asv ssv la ls i t) (hi:(la++ls)[i]? =some t) (ac:B<=w.heap.size) (ad:la.length < 6) (hb:El x X) (J:App X w1 asv v1) (z:AD)
  (ah:w1.ownsRow 0 164 1 v1 (la.map (λz=>C' z.q)++[C' z.q]).length (la.map (λz=>C' z.q)++[C' z.q])) (ai:z.Is X) (Q:∀k,z.In k->M k\/x.heap.size<=k):
  Qm B D N (λ_=>False) w (w1.setCell ⟨wb,0,none⟩ v1) wb v1 ssv (la++[z]) ls la.length z/\Far (λk=>k=wb\/asv.ownBlock=some k) x (w1.setCell ⟨wb,0,none⟩ v1):=by
 obtain⟨A,V,hs,S,Y,O,G⟩:=ab.open_ hi;have aq:=Y.size;have aj:∀k,z.In k->B<=k/\UE A wb asv ssv V (la++ls) k:=λk F=>(Q k F).elim (λh=>⟨z26 ac (G k h).2.2,(G k h).1⟩) (λh=>S.mine h);have ak:∀k,z.In k->w.heap.size<=k:=λk F=>(Q k F).elim (λh=>(G k h).2.2) (λh=>by omega);obtain⟨ao,_,Z⟩:=S.pushA S.bnd ad hb J z ah ai aj;have au:=hb.size;refine⟨⟨A,V,hs,la++[z],ls,⟨rfl,rfl,rfl,rfl,?_,λ_ _ _ h=>h⟩,ao,Y.trans Z ?_,?_,λ_ h=>h.elim⟩,Z⟩;rw[z44 (by simp),z27 (by omega)];simp;rintro k F (rfl|h);exact⟨S.usB _ (.inl rfl),(O _ (.inl (.inl rfl))).elim id (λh=>by omega)⟩;exact⟨(S.asu k h).1,(O k (.inr (.inl h))).elim id (λh=>by omega)⟩;rintro k (h|h|h|⟨j,u,hu,F⟩);exact O k (.inl h);rcases UM J k h with h|h;exact O k (.inr (.inl h));exact .inr (by omega);exact O k (.inr (.inr (.inl h)));have aa:=z65 hu;rw[z55,z55,z51]at aa;rcases aa with (h|rfl)|h;obtain⟨H,I⟩:=yM.1 (z55.2 (Or.inl h):u∈la++ls);exact O k (.inr (.inr (.inr ⟨H,u,I,F⟩)));exact .inr (ak k F);obtain⟨H,I⟩:=yM.1 (z55.2 (Or.inr h):u∈la++ls);exact O k (.inr (.inr (.inr ⟨H,u,I,F⟩)))
theorem Qm.pushS {X w1:World} {v1:Value} (ab:Qm B D N M w x wb asv ssv la ls i t) (hi:(la++ls)[i]? =some t) (ac:B<=w.heap.size) (ad:ls.length < 6) (hb:El x X) (J:App X w1 ssv v1) (z:AD)
  (ah:w1.ownsRow 0 176 1 v1 (ls.map (λz=>C' z.q)++[C' z.q]).length (ls.map (λz=>C' z.q)++[C' z.q])) (ai:z.Is X) (Q:∀k,z.In k->M k\/x.heap.size<=k):
  Qm B D N (λ_=>False) w (w1.setCell ⟨wb,1,none⟩ v1) wb asv v1 la (ls++[z]) (la.length+ls.length) z/\Far (λk=>k=wb\/ssv.ownBlock=some k) x (w1.setCell ⟨wb,1,none⟩ v1):=by
 obtain⟨A,V,hs,S,Y,O,G⟩:=ab.open_ hi;have aq:=Y.size;have aj:∀k,z.In k->B<=k/\UE A wb asv ssv V (la++ls) k:=λk F=>(Q k F).elim (λh=>⟨z26 ac (G k h).2.2,(G k h).1⟩) (λh=>S.mine h);have ak:∀k,z.In k->w.heap.size<=k:=λk F=>(Q k F).elim (λh=>(G k h).2.2) (λh=>by omega);obtain⟨ao,_,Z⟩:=S.pushS S.bnd ad hb J z ah ai aj;have au:=hb.size;refine⟨⟨A,V,hs,la,ls++[z],⟨rfl,rfl,rfl,rfl,?_,λ_ _ _ h=>h⟩,ao,Y.trans Z ?_,?_,λ_ h=>h.elim⟩,Z⟩;rw[z27 (by omega),z27 (by omega)];simp;rintro k F (rfl|h);exact⟨S.usB _ (.inl rfl),(O _ (.inl (.inl rfl))).elim id (λh=>by omega)⟩;exact⟨(S.ssu k h).1,(O k (.inr (.inr (.inl h)))).elim id (λh=>by omega)⟩;rintro k (h|h|h|⟨j,u,hu,F⟩);exact O k (.inl h);exact O k (.inr (.inl h));rcases UM J k h with h|h;exact O k (.inr (.inr (.inl h)));exact .inr (by omega);have aa:=z65 hu;rw[z55,z55,z51]at aa;rcases aa with h|h|rfl;obtain⟨H,I⟩:=yM.1 (z55.2 (Or.inl h):u∈la++ls);exact O k (.inr (.inr (.inr ⟨H,u,I,F⟩)));obtain⟨H,I⟩:=yM.1 (z55.2 (Or.inr h):u∈la++ls);exact O k (.inr (.inr (.inr ⟨H,u,I,F⟩)));exact .inr (ak k F)
end
theorem OL {H:Array Oper} {rest:List Oper} {o:Oper} {a:Act} {I:Exit->Act->World->Prop} {w:World} (J:o.guard=none) (s x:Operand) (M:o.op=.call {callee:=.builtin .append,args:= #[s,x],argTypes:= #[33,33]})
  (hs:a.eval s=En) {v:Value} (G:a.eval x=v) {L:List z10} (hl:Jr w v (AF L)) (ac:L.length<=900)
  (h:∀v' w',Ql w' 9 1 v' L.length (AF L)->El w w'->(∀g,v'.ownBlock=some g->w.heap.size<=g/\g < w'.heap.size)->wpList prog H I rest (a.put o.dst v') w'):wpList prog H I (o::rest) a w:=by
 obtain⟨z,cap,rfl,h1,h2,h3⟩:=hl;rw[AO]at G h1 h3;by_cases h0:L.length=0;have e:L=[]:=z68 h0;subst e;refine jK J λK hK=>?_;obtain⟨i0,hi,ad,ah,ai⟩:=AT CW;have V:(Builtin.append_ #[33,33] o.type #[En,.slice z 0 cap]).run prog w=.ok En w:=by
  cases z with
  |none=>simp[Builtin.append_,run_underlying underlying33,sizeOf,typeInfo,hi,Builtin.lenOf,Builtin.firstCells]
  |some z=>have Y:=Kd (P:=prog) w i0.size 0 z 0 cap [] (by simp) (λj u h=>by simp at h);simp[Builtin.append_,run_underlying underlying33,sizeOf,typeInfo,hi,Builtin.lenOf,Y]
 have Z:a.eval x=.slice z 0 cap:=G;unfold Oper.wp;simp[execOp,M,resolve,invoke,builtin,hs,Z,V,Result.andThen];exact hK _ _ (h _ w (BW _ _ _) (z11 _ _) (λg F=>by cases F));obtain⟨g,aa,rfl,F,ab⟩:=h3 (by omega);refine DZ J s x _ M 9 _ 1 16 underlying33 CW rfl En 0 [] (BW _ _ _) hs ⟨g,aa,none⟩ L.length cap (AF L) G (by rw[AO];omega) (λj u hj=>?_) (XQ L) (by omega) (by omega) (by omega) ?_;rw[MI];have Q:=(z25.1 hj).1;rw[AO]at Q;exact(ab j Q).trans hj;intro v' w' k1 k2;simp only[Nat.zero_add,List.nil_append]at k1;refine h v' w' k1 ((BU k2.grown).below (z16 _) (λk _ h=>by cases h)) (λg F=>⟨?_,k1.lt g F⟩);rcases UM k2 g F with h|h;cases h;exact h
theorem AgL.imgs (h:AgL w aD o aV p a c N):∃ (L:List UInt8) (c2 hd:Nat) (free:List Nat) (z:Nat->List Nat),Xu L c.Qa c2 hd c free z/\Xl c free z/\SU L p a N:=by
 rcases h with ⟨rfl,n,_,h⟩|⟨rfl,t,_,h⟩;exact Ec h;obtain⟨_,L,c2,hd,free,z,G,F,H⟩:=Ed h;exact⟨L,c2,hd,free,z,G.same (λi _=>⟨rfl,rfl⟩),⟨F.pn,F.nd,F.lt,F.sum⟩,H⟩
theorem Fa (h:gK w p q a F N):∃ (L:List UInt8) (c2 hd:Nat),Zb L w c2 hd a F/\SV L p q N:=by
 obtain⟨z,sh,st,c,hb,G,hs,rfl⟩:=h;obtain⟨c2,hd,H⟩:=hs.dk;exact⟨st.dk.bytes,c2,hd,by rw[<-hs.op];exact H,z,_,_,sh,st,c,hb,G,rfl,λ_ h=>h⟩
theorem SkL.imgs {K:Nat} (h:SkL K aD o aV p w x F N):∃ (L:List UInt8) (op c2 hd:Nat),op<=K+1/\Zb L op c2 hd x.Qa (wG aV x F)/\SV L p w N:=by
 rcases h with ⟨rfl,op,ct,n,h1,h2,_,h⟩|⟨rfl,op,h1,h⟩;obtain⟨L,c2,hd,k1,k2⟩:=Ee h;exact⟨L,op,c2,hd,h1,k1,k2⟩;obtain⟨L,c2,hd,k1,k2⟩:=Fa h;exact⟨L,op,c2,hd,h1,k1,k2⟩
theorem Ql.listAt {x:World} {v:Value} {n:Nat} {L:List z10} (z:Ql x 9 1 v n (AF L)) (hn:n=L.length):Jr x v (AF L):=by
 subst hn;have hl:=z.lt;obtain⟨F,cap,e,h1,h2,h3⟩:=z.shape;refine⟨F,cap,by rw[AO];exact e,by rw[AO];exact h1,h2,λh0=>?_⟩;rw[AO]at h0 ⊢;obtain⟨g,o,rfl,G⟩:=h3 h0;exact⟨g,o,rfl,hl g (by rw[e];rfl),λj hj=>G j (by omega)⟩
structure Yh (B D N:Nat) (w x:World) (wb:Nat) (asv ssv:Value) (la ls:List AD) (i:Nat) (t:AD) (lb j:Nat) (vs:Nat->Value) (Ls:Nat->List z10):Prop where
 am:Qm B D N (λk=>k=lb\/∃u,u < 3/\(vs u).ownBlock=some k) w x wb asv ssv la ls i t
 box:x.heap[lb]? =some (.cells #[vs 0,vs 1,vs 2] 34 (0,0))
 row:∀u,u < j->u < 3->Ql x 9 1 (vs u) (Ls u).length (AF (Ls u))
 none_:∀u,j<=u->vs u=En
section
variable {B D N:Nat} {M:Nat->Prop} {w x y:World} {wb:Nat} {asv ssv:Value} {la ls:List AD} {i:Nat} {t:AD} {lb j:Nat} {vs:Nat->Value} {Ls:Nat->List z10}
theorem Yh.start (z:Qm B D N M w y wb asv ssv la ls i t):Yh B D N w (y.alloc (.cells #[En,En,En] 34)) wb asv ssv la ls i t y.heap.size 0 (λ_=>En) Ls:=
 ⟨z.below bna (λk F=>by
  rcases F with rfl|⟨_,_,h⟩
  .exact .inr (by simp)
  .cases h),z19 y _,λu h=>(by omega),λ_ _=>rfl⟩
theorem Yh.list (h:Yh B D N w x wb asv ssv la ls i t lb 3 vs Ls):∀u,u < 3->Jr x (vs u) (AF (Ls u)):=λu hu=>(h.row u hu hu).listAt rfl
theorem Yh.lt (h:Yh B D N w x wb asv ssv la ls i t lb j vs Ls) (u:Nat) (hu:u < 3):∀g,(vs u).ownBlock=some g->g < x.heap.size:=λ_ z=>h.am.mlt (.inr ⟨u,hu,z⟩)
theorem Yh.below (h:Yh B D N w x wb asv ssv la ls i t lb j vs Ls) (hb:El x y):Yh B D N w y wb asv ssv la ls i t lb j vs Ls:=
 ⟨h.am.below hb (λ_ h=>.inl h),(hb.block _ (z12 h.box)).trans h.box,λu h1 h2=>(h.row u h1 h2).keep (λg z=>hb.block g (h.lt u h2 g z)),h.none_⟩
theorem Yh.round (h:Yh B D N w x wb asv ssv la ls i t lb j vs Ls) (hj:j < 3) {H G:World} {lv v':Value} (Q:El x H) (aa:H.ownsRow x.heap.size 9 1 lv (Ls j).length (AF (Ls j))) (ah:(Ls j).length<=900) (V:El H G) (ai:Ql G 9 1 v' (Ls j).length (AF (Ls j))) (hn:∀g,v'.ownBlock=some g->H.heap.size<=g/\g < G.heap.size) (aj:N+4<=17592186044416):
  Cp 91 #[C' wb,C' G.heap.size] ((G.setCell ⟨lb,j,none⟩ v').alloc (.cells #[lv,En,En,Ej 0,.string ⟨#[]⟩,.string ⟨#[]⟩] 160)) λr y=>Rr r (.tuple #[])/\
   Yh B D (N+4) w y wb asv ssv la ls i t lb (j+1) (λu=>if u=j then v' else vs u) Ls:=by
 have hb:=Q.trans (V.mono Q.size);have I:=z14 aa;have ak:=z12 h.box;have aA:=Q.size;have aB:=V.size;have ao:=h.am.below (M':=λk=>(k=lb\/∃u,u < 3/\(vs u).ownBlock=some k)\/(lv.ownBlock=some k\/v'.ownBlock=some k)) hb (λk z=>z.imp id (λe=>e.elim (λe=>by have:=I k e;omega) (λe=>by have:=hn k e;omega)));have J:=T' G lb j v';have aq:=ao.wrote J (λk e=>.inl (.inl e));have au:(G.setCell ⟨lb,j,none⟩ v').heap.size=G.heap.size:=by simp
 have av:(G.setCell ⟨lb,j,none⟩ v').ownsRow 0 9 1 lv (AF (Ls j)).length (AF (Ls j)):=by rw[AO];exact J.own (KC (Q' aa (λg F=>V.block g (I g F).2))) (λg F e=>by have:=I g F;omega)
 have ab:=AA (j:=j) (v:=v') ((hb.block _ ak).trans h.box);have ax:(#[vs 0,vs 1,vs 2]:Array Value).setIfInBounds j v'= #[if 0=j then v' else vs 0,if 1=j then v' else vs 1,if 2=j then v' else vs 2]:=by
  obtain rfl|rfl|rfl:j=0\/j=1\/j=2:=by omega
  all_goals rfl
 rw[ax]at ab;have hK:=aq.keep lv En En (AF (Ls j)) [] [] av (z20 _ _ _ _) (z20 _ _ _ _) (λg F=>by rcases F with e|e|e;exact .inr (.inl e);cases e;cases e) aj (by simp) (by rw[AO];exact ah) (by simp);rw[au]at hK;refine hK.mono ?_;rintro r aC ⟨rfl,ay,ac⟩;have Y:∀k,(k=lb\/∃u,u < 3/\((if u=j then v' else vs u):Value).ownBlock=some k)->¬GM lv En En k:=by rintro k z (e|e|e);have h1:=I k e;rcases z with rfl|⟨u,hu,z⟩;omega;split at z;have:=hn k z;omega;have:=h.lt u hu k z;omega;cases e;cases e
 have Z:∀k,(k=lb\/∃u,u < 3/\((if u=j then v' else vs u):Value).ownBlock=some k)->(k=lb\/∃u,u < 3/\(vs u).ownBlock=some k)\/(lv.ownBlock=some k\/v'.ownBlock=some k):=by rintro k (rfl|⟨u,hu,z⟩);exact .inl (.inl rfl);split at z;exact .inr (.inr z);exact .inl (.inr ⟨u,hu,z⟩)
 refine⟨rfl,ay.below (z11 _ _) (λk z=>.inl ⟨Z k z,Y k z⟩),(ac lb (Z lb (.inl rfl)) (Y lb (.inl rfl))).trans ab,λu hu h3=>?_,λu hu=>?_⟩;have key:Ql (G.setCell ⟨lb,j,none⟩ v') 9 1 (if u=j then v' else vs u) (Ls u).length (AF (Ls u)):=by by_cases e:u=j;subst e;rw[if_pos rfl];exact ai.far J (λg F e=>by have:=hn g F;omega);rw[if_neg e];have ad:=h.row u (by omega) h3;exact(ad.keep (λg F=>hb.block g (h.lt u h3 g F))).far J (λg F az=>ad.ne h.box (by decide) (az ▸ F))
 exact key.keep (λg F=>ac g (Z g (.inr ⟨u,h3,F⟩)) (Y g (.inr ⟨u,h3,F⟩)));rw[if_neg (by omega)];exact h.none_ u (by omega)
end
def uX (N:Nat) (ar:Bool) (lf:Int) (d:Bool) (z:Nat) (a:Ag) (U:Nat->Prop) (L:List UInt8):Sit:=⟨U,λw=>AgL N ar lf d w z a U/\SU L w z U,λh=>h.1.lt,λh F G=>⟨h.1.far F G,h.2.far F G⟩⟩
theorem zK {A:Nat->Nat->Prop} (H:World) (ab av:Nat) (eq er es:Int) (s:z10) (kp et eu ev ew:Int) (ey:z10) (aa Q ac:Nat) (G:Ag) (r:AY) (aD F:Nat->Value) (U:Nat->Prop) (ar:Bool) (lf:Int)
  (S:Qr w q A H ab y u R k Y Z) (cS:JG a ab y u R (Y++Z)) (hi:(Y++Z)[av]? =some (agT b aa Q ac G r aD F U ar lf)) (O:gO b lf G r) (cT:b<=q) (ez:Y.length < 6) (eX:q+24<=1000000000):
  Cp 152 #[C' ab,C' aa,AL eq er es s kp et eu ev ew ey] H λx aJ=>Rr x (.bool true)/\∃v1 t0,IG (q+1) t0/\Xv IG w a (q+20) (q+1) H aJ ab v1 u (Y++[t0]) Z Y.length:=by
 have ca:=S.each av _ hi;obtain⟨L,c2,hd,free,eY,cb,cU,cV⟩:=AgL.imgs ca.p;have cc:L.length=1664:=cb.ok.len;have cW:G.Qa<=1073741824:=by have:=O.ep;omega
 have cX:∀i,i < 3->(G.fl i).base+(G.fl i).kept.length<=1073741824:=λi hi=>by have:=O.Vr.sum i hi;omega
 have cY:G.Qa+1<=2147483647:=by omega
 have cZ:=y' (rI O.Vr cY);have cd:=y' cT;have da:=λ(x:World) (bs:Value) (eA:Qk x bs L)=>y' (Ef bs L eA cb cU cW cX);have bj:=y' O;have eB:=S.bx;obtain⟨ai,bF⟩:=exq (⟨L.toArray⟩:z10);have db:ai.size=1664:=by rw[bF];simp[ByteArray.size,cc]
 obtain⟨J,ce⟩:∃J:Nat,ai.size+8=J:=⟨_,rfl⟩;have aV:=y' (z13 ce db);have eZ:ai.size<=J:=by omega
 have fa:(ai.size:Int)<=J:=by omega
 have fb:¬J=0:=by omega
 have dc:=λx=>y' (SR ai x J ce (by omega));have dd:ai.data.toList=L:=by rw[bF]
 have cf:=y' (z13 bF dd);have bk:=y' cc;have ax:=y' hi;have de:=λO=>y' (((Qm.start S cS hi).as (P':=uX b ar lf r.dead Q G U L) ⟨ca.p,cV⟩ (λ_ h=>h)).below (M':=λz=>z=H.heap.size) ((z11 _ _).alloc (z16 _) (.cells O 94)) (λz F=>.inr ⟨rE F.symm,by rw[F];simp⟩));clear S cS hi ca cb cV O bF dd ce db cc cU cW cX cY cT;unfold AL;unfold C' at *;go_enter func152,ntmps152;go_upto_region 1 with fail;refine G' (λx=>∃aE:Array Value,aE[4]? =some (.int .u64 kp)/\x.heap[H.heap.size]? =some (.cells aE 94 (0,0))/\Qm w a q (λz=>z=H.heap.size) H x ab y u Y Z av (AZ 175 aa Q ac (uX b ar lf r.dead Q G U L) (agR ac G r aD F) ar lf)) ⟨_,rfl,z19 H _,d' (de _)⟩ ?_;clear de;rintro cg ⟨aE,ch,bG,bH⟩;have c4:=Bi 4 bG;rw[ch]at c4;have c0:=Bi 0 bH.is.blk;simp[C']at c0;have aK:=z12 bG;have aF:=z12 bH.is.blk;have ci:=y' bH;have df:=y' bG;have eC:=y' ch;clear bH bG ch;refine AI
  [Ep aa 0,Ep aa 0,Ep aa 0,Ep Q 0,Ep H.heap.size 4,Ev (.int .u64 kp),λv aL=>Qw cg.heap.size aL v L,λv aL=>Qw cg.heap.size aL v L]
  [[1],[1019],[2020],[3021],[5],[5023],[4022,6024],[7025]] [20,21,22,23,24,25,26,8] [7,1,11,7,103] ?_ ?_ (hst:=by repeat' (first|exact Y' _|exact ae' _ _ _ _|exact trivial|apply z13))
 .refine⟨?_,?_,?_,?_,?_,?_,?_,?_,trivial⟩;all_goals
   intro dg x hb ay;have z0:=Bc hb aF c0;have z4:=Bc hb aK c4;have ax:=y' (((d' ci).below (M':=λ_=>False) hb (λ_ h=>h.elim)).is.p.2.call kp);have cj:=hb.size;unfold C' at ax;clear hb;simp only[J',List.getD_cons_zero,List.getD_cons_succ,Array.getD_eq_getD_getElem?]at ay;try simp only[and_true,Nat.reduceLT,Nat.reduceDiv,Nat.reduceMod,Nat.reduceSub,if_true,if_false,List.getD_cons_zero]at ay
   try go_simp
   try exact z11 _ _
  all_goals first
   |exact⟨rfl,z11 _ _⟩
   |(refine Cm ax ?_;rintro e eD ⟨v,rfl,ck,aM⟩;exact⟨_,rfl,aM,DI ck cj⟩)
   |exact⟨_,rfl,z11 _ _,ay⟩
   |skip
 intro f bI aM ak;simp only[AJ]at ak;have ao:=ak.2.2.2.2.2.2.2.1;obtain⟨cl,cm⟩:=exq (f 7);rw[<-cm]at ao;simp only[V',<-cm,Nat.zero_add,Nat.reduceAdd];clear cm ak;have aN:Qw cg.heap.size bI cl L:=ao;obtain⟨ah,bl,dh⟩:∃ah bl,cl=Es ah 0 1664 bl:=by have h:=aN;unfold Qw at h;obtain⟨g,c,e⟩:=BS (DI h (z54 _)) (by have:=d' bk;omega);rw[d' bk]at e;exact⟨g,c,e⟩
 have aq:=z14 aN ah (by rw[dh];rfl);have cn:bI.ownsRow 0 5 1 cl L.length (bv L):=DI aN (z54 _);have di:=(d' ci).below (M':=λz=>z=H.heap.size\/z=ah) aM (λz F=>F.imp id (λe=>by rw[e];exact aq));have bm:H.heap.size < ah:=z21 aK aq.1;have dj:=(aM.block _ aK).trans (d' df);subst dh;have bn:=(CM (A:=λ_ _=>True) (by rw[AC];exact cn) (λ_ _ _ _=>trivial)).str;rw[<-(d' cf).1]at bn;have cp:=y' (z13 di (z13 cn (z13 dj bm)));clear ao aN cn aq bm di dj aM ci df c0 c4 aK aF;go_upto_region 5 with fail;refine G' (λx=>Qm w a q (λz=>z=H.heap.size\/z=ah) H x ab y u Y Z av (AZ 175 aa Q ac (uX b ar lf r.dead Q G U L) (agR ac G r aD F) ar lf)/\x.ownsRow 0 5 1 (Es ah 0 1664 bl) L.length (bv L)/\x.heap[H.heap.size]? =some (.cells aE 94 (0,0)))
  (by
   obtain⟨bJ,aW,aX,_⟩:=d' cp;first
    |exact⟨bJ,aW,aX⟩
    |(have aG:=z36 (z11 bI.heap.size bI) 1;exact⟨bJ.below aG (λ_ h=>.inl h),Q' aW (λg ad=>aG.block g (z14 aW g ad).2),(aG.block _ (z12 aX)).trans aX⟩)) ?_
 clear bn;rintro fc ⟨bo,i3,aO⟩;have bm:=(d' cp).2.2.2;clear cp;have dl:=y' (z13 bo (z13 i3 (z13 aO bm)));clear bo i3 aO bm;go_upto_region 6 with (go_at_call 92;refine Cm (dc _) ?_;rintro dm fd ⟨V,rfl,aq,bp,aP,dn⟩;have dq:=y' (z13 aq (z13 bp (z13 aP dn)));clear aq bp aP dn);clear dc;obtain⟨bo,i3,aO,cq⟩:=d' dl;obtain⟨aq,bp,aP,bK⟩:=d' dq;have dr:=bo.below (M':=λz=>(z=H.heap.size\/z=ah)\/z=V) aP (λz F=>F.imp id (λe=>by rw[e];exact⟨aq,bp⟩));have i4:=Q' i3 (λg ad=>aP.block g (z14 i3 g ad).2);have bL:=(aP.block _ (z12 aO)).trans aO;have bq:V≠ah:=by have:=(z14 i3 ah rfl).2;omega
 have au:H.heap.size < V:=z21 (z12 aO) aq;have aQ:=y' (dr.keep En (Es ah 0 1664 bl) En [] [] L (z20 _ _ _ _) i4 (z20 _ _ _ _) (λg ad=>by rcases ad with h|h|h;cases h;injection h with h;exact .inl (.inr h.symm);cases h) (by omega) (by have:=d' bk;omega) (by simp) (by simp));unfold C' at aQ;have ds:=y' (z13 bK (z13 bL (z13 bq (z13 au cq))));clear bo i3 aO cq aq bp aP bK dr i4 bL bq au dl dq;go_upto_region 7 with (go_at_call 91;refine Cm aQ ?_;rintro fe br ⟨rfl,aY,bt⟩;have dt:=y' (z13 aY bt);clear aY bt);clear aQ;have cr:Hid (Qm w a (q+4) (λz=>z=H.heap.size\/z=V) H br ab y u Y Z av (AZ 175 aa Q ac (uX b ar lf r.dead Q G U L) (agR ac G r aD F) ar lf)/\br.ownsRow 0 5 1 (Es V 0 J J) J (bv (DC ai))/\br.heap[H.heap.size]? =some (.cells aE 94 (0,0))/\H.heap.size < V):=by
  obtain⟨bK,bL,bq,au,cq⟩:=d' ds;obtain⟨aY,bt⟩:=d' dt;have az:∀z,z≠ah->¬GM En (Es ah 0 1664 bl) En z:=by rintro z F (e|e|e);cases e;injection e with e;exact F e.symm;cases e
  refine y' ⟨aY.below (z11 _ _) (λz F=>.inl ?_),Q' bK (λg ad=>?_),(bt _ (.inl (.inl rfl)) (az _ (by omega))).trans bL,au⟩;rcases F with rfl|rfl;exact⟨.inl (.inl rfl),az _ (by omega)⟩;exact⟨.inr rfl,az _ bq⟩;injection ad with ad;subst ad;exact bt _ (.inr rfl) (az _ bq)
 clear ds dt;have du:Hid (Qk br (Es V 0 ai.size J) L):=by have:=WV (d' cr).2.1 (d' aV).1 (by have:=(d' aV).2;omega);rw[(d' cf).2]at this;exact this
 go_upto_region 8 with (go_at_call 21;refine Cm (da br _ (d' du)) ?_;rintro ff aR ⟨aj,M,rfl,hA2,aZ,bu⟩;have dv:=y' (z13 hA2 (z13 aZ bu));clear hA2 aZ bu)
 clear du da;have bM:Hid (Qm w a (q+4) (λz=>(z=H.heap.size\/z=V)\/M z) H aR ab y u Y Z av (AZ 175 aa Q ac (uX b ar lf r.dead Q G U L) (agR ac G r aD F) ar lf)/\aR.ownsRow 0 5 1 (Es V 0 J J) J (bv (DC ai))/\aR.heap[H.heap.size]? =some (.cells aE 94 (0,0))/\(∀N lf,AgL N false lf false aR aj (Zq G) M)/\(∀z,M z->V < z)/\H.heap.size < V):=by obtain⟨aY,cs,dw,au⟩:=d' cr;obtain⟨hA2,aZ,bu⟩:=d' dv;have eE:=(hA2 0 0).lt;have fg:=(z14 cs V rfl).2;exact y' ⟨aY.below aZ (λz F=>F.imp id (λh=>⟨bu z h,eE z h⟩)),Q' cs (λg ad=>aZ.block g (z14 cs g ad).2),(aZ.block _ (z12 dw)).trans dw,hA2,λz h=>by have:=bu z h;omega,au⟩
 clear cr dv;have dx:=y' (SQ (d' bM).2.1 (d' aV).1);go_upto_region 9 with (go_at_call 94;refine(LU _ _ ai aR (d' dx) (by have:=(d' aV).2;omega)).mono ?_;rintro fh fi ⟨rfl,nq,rfl⟩);refine G' (λx=>Qm w a (q+4) (λz=>(z=H.heap.size\/z=V)\/M z) H x ab y u Y Z av (AZ 175 aa Q ac (uX b ar lf r.dead Q G U L) (agR ac G r aD F) ar lf)/\x.ownsRow 0 5 1 (Es V 0 J J) J (bv (DC ai))/\x.heap[H.heap.size]? =some (.cells aE 94 (0,0))/\(∀N lf,AgL N false lf false x aj (Zq G) M))
  (by obtain⟨bJ,aW,aX,dm,_⟩:=d' bM;have aG:=z36 (z11 aR.heap.size aR) nq;exact⟨bJ.below aG (λ_ h=>.inl h),Q' aW (λg ad=>aG.block g (z14 aW g ad).2),(aG.block _ (z12 aX)).trans aX,λN lf=>(dm N lf).far (fbF aG) Ih⟩) ?_
 rintro fj ⟨dy,dz,bN,hA7⟩;obtain⟨bw,au⟩:=(d' bM).2.2.2.2;clear bM dx;have aQ:=y' (dy.keepF En (Es V 0 J J) En [] [] (DC ai) (z20 _ _ _ _) (rH dz (d' aV).1) (z20 _ _ _ _) (λg ad=>by rcases ad with h|h|h;cases h;injection h with h;exact .inl (.inr h.symm);cases h) (by omega) (by rw[BM];have:=(d' aV).2;omega) (by simp) (by simp));unfold C' at aQ;have dA:=y' (z13 hA7 (z13 bN (z13 bw au)));clear dy dz bN hA7 bw au;go_upto_region 10 with (go_at_call 91;refine Cm aQ ?_;rintro fk ba ⟨rfl,bO,bP,bQ⟩;have dB:=y' (z13 bO (z13 bP bQ));clear bO bP bQ);clear aQ;have aA:Hid (Qm w a (q+8) (λz=>z=H.heap.size\/M z) H ba ab y u Y Z av (AZ 175 aa Q ac (uX b ar lf r.dead Q G U L) (agR ac G r aD F) ar lf)/\ba.heap[H.heap.size]? =some (.cells aE 94 (0,0))/\(∀N lf,AgL N false lf false ba aj (Zq G) M)):=by
  obtain⟨hA7,bN,bw,au⟩:=d' dA;obtain⟨bO,bP,bQ⟩:=d' dB;have az:∀z,z≠V->¬GM En (Es V 0 J J) En z:=by rintro z F (e|e|e);cases e;injection e with e;exact F e.symm;cases e
  refine y' ⟨bO.below (z11 _ _) (λz F=>.inl ?_),(bP _ (.inl (.inl rfl)) (az _ (by omega))).trans bN,λN lf=>(hA7 N lf).far bQ (λz F e=>e.elim (λe=>e (.inr F)) (az z (by have:=bw z F;omega)))⟩;rcases F with rfl|F;exact⟨.inl (.inl rfl),az _ (by omega)⟩;exact⟨.inr F,az _ (by have:=bw z F;omega)⟩
 clear dA dB;have c4:=Bi 4 (d' aA).2.1;rw[d' eC]at c4;have c0:=Bi 0 (d' aA).1.is.blk;simp[C']at c0;have aK:=z12 (d' aA).2.1;have aF:=z12 (d' aA).1.is.blk;refine AI
  [Ep aa 0,Ep aa 0,Ep aa 0,Ep Q 0,Ep H.heap.size 4,Ev (.int .u64 kp),λv aL=>Qw ba.heap.size aL v L,λv aL=>Qw ba.heap.size aL v L]
  [[1],[1054],[2055],[3056],[5],[5058],[4057,6059],[7060]] [55,56,57,58,59,60,61,14] [13,1,40,7,68] ?_ ?_ (hst:=by repeat' (first|exact Y' _|exact ae' _ _ _ _|exact trivial|apply z13))
 .refine⟨?_,?_,?_,?_,?_,?_,?_,?_,trivial⟩;all_goals
   intro dg x hb ay;have z0:=Bc hb aF c0;have z4:=Bc hb aK c4;have ax:=y' (((d' aA).1.below (M':=λ_=>False) hb (λ_ h=>h.elim)).is.p.2.call kp);have cj:=hb.size;unfold C' at ax;clear hb;simp only[J',List.getD_cons_zero,List.getD_cons_succ,Array.getD_eq_getD_getElem?]at ay;try simp only[and_true,Nat.reduceLT,Nat.reduceDiv,Nat.reduceMod,Nat.reduceSub,if_true,if_false,List.getD_cons_zero]at ay
   try go_simp
   try exact z11 _ _
  all_goals first
   |exact⟨rfl,z11 _ _⟩
   |(refine Cm ax ?_;rintro e eD ⟨v,rfl,ck,aM⟩;exact⟨_,rfl,aM,DI ck cj⟩)
   |exact⟨_,rfl,z11 _ _,ay⟩
   |skip
 intro f2 bb bR ak;simp only[AJ]at ak;have ao:=ak.2.2.2.2.2.2.2.1;obtain⟨dC,cu⟩:=exq (f2 13);rw[<-cu]at ao;simp only[V',<-cu,Nat.zero_add,Nat.reduceAdd];clear cu ak;obtain⟨cv,cw,eF⟩:∃cv cw,dC=Es cv 0 1664 cw:=by have h:Qw ba.heap.size bb dC L:=ao;unfold Qw at h;obtain⟨g,c,e⟩:=BS (DI h (z54 _)) (by have:=d' bk;omega);rw[d' bk]at e;exact⟨g,c,e⟩
 subst eF;have aN:bb.ownsRow 0 5 1 (Es cv 0 1664 cw) L.length (bv L):=DI ao (z54 _);have bn:=(CM (A:=λ_ _=>True) (by rw[AC];exact aN) (λ_ _ _ _=>trivial)).str;rw[<-(d' cf).1]at bn;have aS:=((d' aA).1.below (M':=M) bR (λz F=>.inl (.inr F))).as (P':=agP b ar lf r.dead Q G U) ((d' aA).1.below (M':=M) bR (λz F=>.inl (.inr F))).is.p.1 (λ_ h=>h);have hA9:(∀N lf,AgL N false lf false bb aj (Zq G) M):=λN lf=>((d' aA).2.2 N lf).far (fbF bR) Ih;have dD:=y' (λ(x:World) (eG:El bb x)=>gH ((aS.below (M':=λ_=>False) eG (λ_ h=>h.elim)).is.r) (by have:=(d' bj).ep;have:=d' cd;omega) (d' bj).ex);have c1:=Bi 1 aS.is.blk;simp[C']at c1;have dE:=y' (z13 aS hA9);clear ao aN aS bR aA c4 c0 aK aF hA9;try unfold C'
 go_upto_region 14 with (go_at_call 190;refine((d' dD) _ (z11 _ _)).mono ?_;rintro fm I ⟨rb,aH,aI,rfl,bc,aT,bd⟩;have dF:=y' (z13 bc (z13 aT bd));clear bc aT bd)
 clear dD bn c1;obtain⟨aS,hA9⟩:=d' dE;obtain⟨bc,aT,bd⟩:=d' dF;have cx:=bc.lt;have hA10:(∀N lf,AgL N false lf false I aj (Zq G) M):=λN lf=>(hA9 N lf).far (fbF aT) Ih;have cy:∀z,M z->z < bb.heap.size:=(hA9 0 0).lt;have bz:=aS.below (M':=λz=>M z\/CP rb aH aI z) aT (λz F=>F.imp id (λh=>⟨bd z h,cx z h⟩));obtain⟨X,bA⟩:=exq ((I.alloc (.cells #[Er aj 0,Er rb 0,.bool false,Ej 0] 175)).alloc (.cells #[Er I.heap.size 0] 164));have be:El I X:=by rw[bA];exact bna.alloc (by simp) _
 have dG:X.heap[I.heap.size]? =some (.cells #[C' aj,C' rb,.bool false,Ej 0] 175 (0,0)):=by rw[bA,z35 _ _ _ (by simp)];exact z19 I _
 obtain⟨t2,bf⟩:=exq (agT (b+1) I.heap.size aj rb (Zq G) {r with dead:=false} aH aI M false 0:AD);have dH:t2.q=I.heap.size:=by rw[bf];rfl
 have dI:IG (q+1) t2:=⟨b+1,I.heap.size,aj,rb,Zq G,_,aH,aI,M,false,0,by have:=d' cd;omega,bf,(d' bj).ex,by omega,(d' cZ).mono (SE _),by have:=(d' bj).ep;show G.Qa+1<=b+1+1;omega⟩;have dJ:t2.Is X:=by rw[bf];exact⟨dG,(hA10 (b+1) 0).far (fbF be) Ih,bc.far (fbF be) Ih,λh=>by have:=cy _ h;have:=aT.size;omega,λh=>by have:=cx _ h;omega,λz h h2=>by have:=cy _ h;have:=bd _ h2;omega⟩
 have dK:∀z,t2.In z->(M z\/CP rb aH aI z)\/I.heap.size<=z:=by intro z F;rw[bf]at F;rcases F with e|e|e;exact .inr (by omega);exact .inl (.inr e);exact .inl (.inl e)
 have cz:=y' (λw1 v1 eH eI=>bz.pushA (X:=X) (w1:=w1) (v1:=v1) (d' ax) eB ez be eH t2 eI dJ dK);rw[dH]at cz;obtain⟨fo,fq,fs,bB,_,_,_⟩:=bz.open_ (d' ax);have dL:=y' (bB.below be).Yj;have bC:=bB.wat.blk;have c0:=Bi 0 bC;have f0:=H' (i:=0) bC;simp at c0;have cA:=y' be;have dM:=y' bC;have dN:=y' (λ(e:y.ownBlock=some ab)=>(bB.asu ab e).2.1 (.inl rfl));have cB:=bB.us av _ (d' ax);have dO:=y' (z13 bz.is.blk (z13 bz.is.r (z13 (cB aa (.inl rfl)) (λz F=>cB z (.inr (.inl F))))));have cC:=y' dI;have dP:=y' bf;have eJ:=z12 bC;have eK:=y' bA;have dQ:Hid (X.cell? ⟨I.heap.size+1,0,none⟩=some (C' I.heap.size)):=by show _= _;rw[bA];simp[C']
 clear hA9 bd bc aT hA10 cy cx be dG dJ dI dK bC dH dE dF bB cB bf aS;subst bA;try unfold C' at *
 go_upto_region 15 with (at_builtin;(refine DV rfl (.tmp 89) (.tmp 91) 87 rfl 164 (.pointer none) 8 underlying87 Cw rfl y (Y.map λcD=>Er cD.q 0) (by rw[z42];exact d' dL) rfl ⟨I.heap.size+1,0,none⟩ (Er I.heap.size 0) rfl (d' dQ) rfl (by rw[z42];omega) (by rw[z42];omega) ?_;intro v1 w1 cE eL cF;have dR:=y' (d' cz w1 v1 cF cE);obtain⟨g1,ft,dS⟩:=BS cE (by simp);rw[show(Y.map (λcD=>Value.pointer (some ⟨cD.q,0,none⟩))++[Value.pointer (some ⟨I.heap.size,0,none⟩)]).length=Y.length+1 by simp]at dS;have cG:=EW cF (λz F=>(d' cA).block z F) (d' cA).size (d' dM) (d' dN);subst dS;have eM:=Bi 0 cG;have f11:=H' (i:=0) cG;clear cG cE eL cF))
 refine G' (λaJ=>∃bg,Qm w a (q+8) (λ_=>False) H aJ ab bg u (Y++[t2]) Z Y.length t2/\aJ.heap[aa]? =some (.cells #[Er Q 0,Er ac 0,.bool ar,Ej lf] 175 (0,0))/\Qi aJ ac G r aD F)
  (by obtain⟨h1,h2⟩:=d' dR;obtain⟨eN,eO,dT,dU⟩:=d' dO;exact⟨_,h1,h2.blk eN (λe=>e.elim (λe=>dT.2.1 (.inl e)) dT.2.2.1),eO.far h2 (λz F e=>e.elim (λe=>(dU z F).2.1 (.inl e)) (dU z F).2.2.1)⟩) ?_
 rintro aJ ⟨bg,dV,dW,cH⟩;have c1:=Bi 1 dW;have d4:=Bi 4 cH.blk;simp[AE]at c1 d4;have bD:=y' dV;clear dW dR eM f11 c0 f0 eJ eK bz dV dO cz dQ dN dL dM cA;cases bS:r.dead with
 |false=>rw[bS]at d4;clear cH bS;go_wp2;go_ret;exact⟨rfl,bg,t2,d' cC,_,t2,d' cC,(d' bD).mono (by omega)⟩
 |true=>
  rw[bS]at d4;rw[d' dP]at bD;skip;go_upto_region 18 with fail;obtain⟨lb,dX⟩:=exq (aJ.heap.size);have bT:=y' (Yh.start (Ls:=(Zq G).Xn) (d' bD));rw[<-dX]at bT ⊢;have cI:=y' (show ∀j:Nat,j < 3->JI false (Zq G) (j:Int)=(Zq G).Xn j fromλj hj=>by unfold JI DT;rw[if_neg (by decide),if_pos (by omega)];rfl);have bU:=y' (show ∀j,j < 3->((Zq G).Xn j).length<=900 fromλj hj=>by have:=(d' bD).is.r.kl j hj;simp[Ag.Xn];omega);obtain⟨Ls,bV⟩:=exq ((Zq G).Xn);rw[<-bV]at bT bU;simp only[<-bV]at cI;have eP:=y' bV;clear bV dX c1 d4 bS bD cH;go_wp2;go_loopw[16,17] (λi _ wr=>∃ (j:Nat) (aU:Nat->Value),j<=3/\i=.int .i64 j/\Yh w a (q+8+4 * j) H wr ab bg u (Y++[agT (b+1) I.heap.size aj rb (Zq G) {r with dead:=false} aH aI M false 0]) Z Y.length (agT (b+1) I.heap.size aj rb (Zq G) {r with dead:=false} aH aI M false 0) lb j aU Ls) (λi _ _=>3 - (intOf i).toNat)
  case atStart=>exact⟨0,_,by omega,rfl,d' bT⟩
  case round=>
   obtain⟨j,aU,hj,rfl,aB⟩:=hrel;clear bT;by_cases bh:j < 3
   .have fu:(j:Int) < 3:=(by omega);have bW:=y' (AgL.Xn j aB.am.is.p);rw[(d' cI) j bh]at bW;have cJ:=Bi j (aB.box.trans rfl);rw[Ez aU bh,aB.none_ j (z16 _)]at cJ;have dY:=H' (i:=j) aB.box;have aC:=z12 aB.box;have dZ:=y' aB;unfold C' at bW;clear aB;go_upto_region 22 with (go_at_call 18;refine Cm bW ?_;rintro fx fy ⟨lv,rfl,ao,bE⟩;have bX:=y' ao;have ea:=Bc bE aC cJ;have eb:=(bE.frozen (p:=⟨lb,j,none⟩) aC).trans dY;have cK:=z21 aC bE.size;have ec:=y' bE;clear ao bE);clear cJ dY aC bW;obtain⟨ed,ee,ef,rfl⟩:∃ed ee ef,lv=.slice ed ee ef:=⟨_,_,_,(AR (d' bX)).form⟩;go_upto_region 23 with (at_builtin;(refine OL rfl (.tmp 113) (.tmp 114) rfl rfl rfl (AR (d' bX)) ((d' bU) j bh) ?_;intro v' fz cL bY eg;obtain⟨eh,un,ei,rfl⟩:∃eh un ei,v'=.slice eh un ei:=⟨_,_,_,(cL.listAt rfl).form⟩;have eQ:=Bc bY cK ea;have eR:=(bY.frozen (p:=⟨lb,j,none⟩) cK).trans eb;have cM:=y' (Yh.round (d' dZ) bh (d' ec) (d' bX) ((d' bU) j bh) bY cL eg (by omega));clear cL bY eg));clear ea eb cK bX ec dZ;unfold C' at cM;go_upto_region 20 with (go_at_call 91;refine Cm cM ?_;rintro fA fB ⟨rfl,ej⟩;have eS:=y' ej;clear ej);clear cM eQ eR;go_wp2;go_roundw
    case rel=>exact⟨j+1,_,by omega,by go_num,d' eS⟩
    case measure=>simp[intOf];omega
   have eT:j=3:=(by omega);subst eT;have bi:=y' aB;clear aB hj bh bU cI;go_upto_region 24 with fail;have cN:=Bi 1 (d' bi).am.is.blk;have aF:=z12 (d' bi).am.is.blk;have aC:=z12 (d' bi).box;obtain⟨cO,cP,cQ⟩:=DQ (d' bi).box;simp[C']at cN cO cP cQ;refine CO
    [Ep I.heap.size 0,Ep I.heap.size 0,Ep I.heap.size 1,Ep rb 0,Ev (.agg #[aU 0,aU 1,aU 2]),Et,Et]
    [[14],[1122],[2123],[3124],[15],[4125,5126],[6127]] [123,124,125,126,127,128,19] [18,1,103,6,1]
    5 _ rfl ?_ ?_ ?_
   .refine⟨?_,?_,?_,?_,?_,trivial⟩;all_goals
     intro dg x hb ay;have fC:=Bc hb aF cN;have u0:=Bc hb aC cO;have u1:=Bc hb aC cP;have u2:=Bc hb aC cQ;clear hb;simp[J']at ay;try go_simp
     try exact z11 _ _
    all_goals first|exact⟨rfl,z11 _ _⟩|skip
   intro f9 bb ak;rfl;intro f9 fD hb ak;simp only[AJ,List.take]at ak;obtain⟨_,_,_,ek,em,_⟩:=ak;have bZ:=y' ((d' bi).below hb);clear hb bi cN cO cP cQ aF aC;simp only[V',ek,em];clear ek em;go_simp;have cR:=(d' bZ).list;rw[d' eP]at cR;refine(rM (d' bZ).am.is.r rfl (ls:=aU) cR).mono ?_;rintro fE eU ⟨rfl,en,hF⟩;have eV:Hid (Xv IG w a (q+20) (q+1) H eU ab bg u (Y++[t2]) Z Y.length):=by have T:=(d' bZ).am;have eW:=T.ref (R':=agR rb (Zq G) ⟨false,0,0,0,r.st,En⟩ aH aI) (ar':=false) (lf':=0) (hF.mono (λz _ h=>.inr (.inl h))) (hF.blk T.is.blk (λe=>T.is.qR (.inl e))) en (λz F=>.inl F);rw[d' dP];exact y' ⟨_,_,⟨b+1,I.heap.size,aj,rb,Zq G,⟨false,0,0,0,r.st,En⟩,aH,aI,M,false,0,by have:=d' cd;omega,rfl,⟨_,_,_,rfl⟩,by show(0:Int)<= _;omega,(d' cZ).mono (SE _),by have:=(d' bj).ep;show G.Qa+1<=b+1+1;omega⟩,eW.mono (by omega)⟩
   clear en hF bZ cR;intro eo fF;obtain⟨fG,rfl⟩:∃b,eo=b+1:=⟨eo - 1,by omega⟩;refine BP (i:=6) (by kernel_rfl) rfl rfl ?_;go_simp;refine DP (by kernel_rfl) ?_;go_wp2;go_ret;exact⟨rfl,bg,t2,d' cC,d' eV⟩
