/-
  Part 4 of a proof.
-/
import Derived.Test.YtamafdcnbcoegabGreatOa3
set_option maxRecDepth 100000
set_option maxHeartbeats 40000000
namespace Go.Proofs.YtamafdcnbcoegabGreat
attribute [local simp, local go_sem] Ev Ep Ei Eb Et Ej Ea En Er Es
open Qb Mq
abbrev z105:= @List.length_nil
abbrev fB:= @Option.some.inj
abbrev Ga:= @List.drop_eq_getElem_cons
abbrev Km:= @List.getElem?_eq_none_iff
abbrev Ax:= @Nat.le_succ_of_le
abbrev Kn:= @List.mem_or_eq_of_mem_set
abbrev z166:= @decide_false
abbrev z180:= @decide_true
abbrev Ko:= @List.mem_of_mem_drop
open Go.RowKit Go.Proofs.Tryz
theorem fC (a:Ag) (r:AY) (z F:Nat->Value) (s:Nat) (hs:s < 3) (v:Value) (x:List Nat):
  (AE a r z F).setIfInBounds (5+s * 3+2) v=AE {a with fl:=upd a.fl s {a.fl s with held:=x}} r z (TF F s v):=by
 obtain rfl|rfl|rfl:s=0\/s=1\/s=2:=by omega
 all_goals rfl
theorem Qi.Zw {w w1:World} {p:Nat} {a:Ag} {r:AY} {J H:Nat->Value} (R:Qi w p a r J H) (s:Nat) (hs:s < 3) {v':Value} {x:List Nat} (Q:Far (λk=>(H s).ownBlock=some k) w w1)
  (hl:∀g,v'.ownBlock=some g->(H s).ownBlock=some g\/w.heap.size<=g) (aj:Ql w1 3 1 v' x.length (O' x)) (ak:x.length<=3):
  (∃C,Eh w1 p C 171/\C[5+s * 3+2]? =some (H s))/\
  CC w (w1.setCell ⟨p,5+s * 3+2,none⟩ v') p {a with fl:=upd a.fl s {a.fl s with held:=x}} r J H:=by
 have ad:(H s).ownBlock≠some p:=(R.held s hs).ne R.blk (by decide);have ah:=Q.blk R.blk ad;have ao:∀t,t < 3->(J t).ownBlock≠some p:=λt z=>(R.kept t z).ne R.blk (by decide);have aq:∀t,t < 3->(H t).ownBlock≠some p:=λt z=>(R.held t z).ne R.blk (by decide);have aa:∀k,k < w.heap.size->v'.ownBlock=some k->(H s).ownBlock=some k:=λk I e=>(hl k e).elim id (λh=>by omega);have V:=T' w1 p (5+s * 3+2) v';have ab:∀t,upd a.fl s {a.fl s with held:=x} t=if t=s then {a.fl s with held:=x}else a.fl t:=λt=>rfl
 refine⟨⟨_,ah,?_⟩,J,TF H s v',⟨?_,?_,?_,R.apk,?_,R.ep,R.tk,?_,?_,?_⟩,?_,?_⟩
 .obtain rfl|rfl|rfl:s=0\/s=1\/s=2:=by omega
  all_goals rfl
 rw[<-fC a r J H s hs];exact AA ah;intro t z;have:(upd a.fl s {a.fl s with held:=x} t).kept=(a.fl t).kept:=by rw[ab];split <;> simp_all
 simp only[this];exact((R.kept t z).far Q (λg F ac=>(R.kept t z).ty (R.held s hs) (by decide) F ac)).far V (λg F M=>ao t z (by rw[F,M]));intro t z;by_cases G:t=s;subst G;rw[CG];simp only[Mq.Qn];refine aj.far V (λg F M=>?_);rw[M]at F;exact ad (aa p (z12 R.blk) F);rw[BE _ _ G];simp only[Va _ _ G];exact((R.held t z).far Q (λg F ac=>R.aph t s z hs G g F ac)).far V (λg F M=>aq t z (by rw[F,M]));intro t u z hu Y g F;by_cases G:t=s;subst G;rw[CG]at F;rw[BE _ _ (λe=>Y e.symm)];intro Z;have au:=(R.held u hu).lt g Z;exact R.aph t u z hu Y g (aa g au F) Z;rw[BE _ _ G]at F;by_cases ai:u=s;subst ai;rw[CG];intro Z;exact R.aph t u z hu Y g F (aa g ((R.held t z).lt g F) Z);rw[BE _ _ ai];exact R.aph t u z hu Y g F;intro t z;have:(upd a.fl s {a.fl s with held:=x} t).base=(a.fl t).base:=by rw[ab];split <;> simp_all
 simp only[this];exact R.bs t z;intro t z;have:(upd a.fl s {a.fl s with held:=x} t).kept=(a.fl t).kept:=by rw[ab];split <;> simp_all
 simp only[this];exact R.kl t z;intro t z;by_cases G:t=s;subst G;simp only[Mq.Qn];exact ak;simp only[Va _ _ G];exact R.hl t z;exact(Q.mono (E':=CP p J H) (λk _ h=>.inr ⟨s,hs,.inr h⟩)).trans V (λk _ h=>.inl h);rintro k (rfl|⟨t,z,I|I⟩);exact .inl (.inl rfl);exact .inl (.inr ⟨t,z,.inl I⟩);by_cases G:t=s;subst G;rw[CG]at I;rcases hl k I with h|h;exact .inl (.inr ⟨t,z,.inr h⟩);exact .inr h;rw[BE _ _ G]at I;exact .inl (.inr ⟨t,z,.inr I⟩)
theorem RD:∀ (l:List (z10×Nat)) (i:Nat) (h:i < l.length) (n:Nat),(BO l).set (i * 2+1) (Ej n)=BO (l.set i (l[i].1,n))
 |x::l,0,_,n=>rfl
 |x::l,i+1,h,n=>by have:=RD l i (by simpa using h) n;rw[show(i+1) * 2+1=i * 2+1+2 by omega];simpa[BO]using this
variable{p f B cX:World}{w a q b:Nat}{c:Ag}{P:AY}{m I:Nat -> Value}{bC:List (z10×Nat)}{o V aF:Int}{z:z10}{aX:Js}{bZ:z10×Nat}{C aO bB:List Value}{j:TypeId}{l aN:Array Value}{y u R aI aM aP aJ cO bM bN bV bS bO cA dD:Value}{r aR:List UInt8}{aW:Nat -> Nat -> Prop}{N:Nat -> Prop}{k:List Nat}{aG:UInt8}
theorem Qi.sentStep (R:Qi p w c P m I) (s:Nat) (hs:s < 3) {g o cap i:Nat} (Q:m s=.slice (some ⟨g,o,none⟩) (c.fl s).kept.length cap) (hi:i < (c.fl s).kept.length) (n:Nat):
  Qi (p.setCell ⟨g,o+(i * 2+1),none⟩ (Ej n)) w {c with fl:=upd c.fl s {c.fl s with kept:=(c.fl s).kept.set i ((c.fl s).kept[i].1,n)}} P m I/\p.frozen? ⟨g,o+(i * 2+1),none⟩=false:=by
 have J:=R.kept s hs;rw[Q]at J;have Y:=T' p g (o+(i * 2+1)) (Ej n);have Z:(m s).ownBlock=some g:=by rw[Q];rfl
 have M:∀t,upd c.fl s {c.fl s with kept:=(c.fl s).kept.set i ((c.fl s).kept[i].1,n)} t=if t=s then {c.fl s with kept:=(c.fl s).kept.set i ((c.fl s).kept[i].1,n)}else c.fl t:=λt=>rfl
 refine⟨⟨?_,?_,?_,R.apk,R.aph,R.ep,R.tk,?_,?_,?_⟩,?_⟩;rw[AG (λe=>J.ne R.blk (by decide) (by rw[<-e];rfl)),R.blk];have F:∀t,(upd c.fl s {c.fl s with kept:=(c.fl s).kept.set i ((c.fl s).kept[i].1,n)} t).base=(c.fl t).base:=by intro t;rw[M];split <;> simp_all
 simp only[AE,F];intro t z;by_cases H:t=s;subst H;simp only[Mq.Qn];rw[Q,Fw,<-RD _ _ hi];exact J.set (by omega) _;simp only[Va _ _ H];exact(R.kept t z).far Y (λg' V e=>R.apk t s z hs H g' V (by rw[Z,e]));intro t z;have F:(upd c.fl s {c.fl s with kept:=(c.fl s).kept.set i ((c.fl s).kept[i].1,n)} t).held=(c.fl t).held:=by rw[M];split <;> simp_all
 simp only[F];exact(R.held t z).far Y (λg' V e=>(R.held t z).ty (R.kept s hs) (by decide) V (by rw[Z,e]));intro t z;have F:(upd c.fl s {c.fl s with kept:=(c.fl s).kept.set i ((c.fl s).kept[i].1,n)} t).base=(c.fl t).base:=by rw[M];split <;> simp_all
 simp only[F];exact R.bs t z;intro t z;by_cases H:t=s;subst H;simp only[Mq.Qn];rw[Fw];exact R.kl t z;simp only[Va _ _ H];exact R.kl t z;intro t z;have F:(upd c.fl s {c.fl s with kept:=(c.fl s).kept.set i ((c.fl s).kept[i].1,n)} t).held=(c.fl t).held:=by rw[M];split <;> simp_all
 simp only[F];exact R.hl t z;obtain⟨_,h2⟩:=J;rcases h2 with ⟨h2,_⟩|⟨g',ab,ac,ad,G,aa,_⟩;cases h2;injection G with G;injection G with G;injection G with G;subst G;exact H' aa
theorem MK (a:Ag) (k e st q:Int) (b:z10) (s:Nat):a.Jb k e st q b s<=(a.fl s).kept.length:=by
 unfold Ag.Jb;split;omega;split;unfold Ag.gone;omega;split;unfold Ag.gone;omega;omega
theorem sP (f:Nat->Js):Mq.fresh f 0=f:=by funext t;simp[Mq.fresh]
theorem sQ (f:Nat->Js) (s:Nat):Mq.fresh f s s=f s:=by simp[Mq.fresh]
theorem sR (f:Nat->Js) (s:Nat):Mq.fresh f (s+1)=upd (Mq.fresh f s) s {f s with kept:=(f s).kept.map λr=>(r.1,0),held:=[]}:=by
 funext t;unfold Mq.fresh upd;by_cases h:t=s;subst h;simp;by_cases h2:t < s;simp[h,h2,show t < s+1 by omega];simp[h,h2,show ¬t < s+1 by omega]
def GC (i:Nat) (l:List (z10×Nat)):List (z10×Nat):=((l.take i).map λr=>(r.1,0))++l.drop i
theorem DB (i:Nat) (l:List (z10×Nat)):(GC i l).length=l.length:=by simp[GC];omega
theorem nU (l:List (z10×Nat)):GC 0 l=l:=by simp[GC]
theorem sS (l:List (z10×Nat)):GC l.length l=l.map λr=>(r.1,0):=by simp[GC]
theorem sT (h:w < bC.length):(GC w bC)[w]'(by rw[DB];exact h)=bC[w]:=by
 unfold GC;rw[List.getElem_append_right (by simp;omega)];simp;congr 1;omega
theorem sU (h:w < bC.length):(GC w bC).set w (bC[w].1,0)=GC (w+1) bC:=by
 unfold GC;rw[Kb _ _ (by simp;omega),z84 h,z96,z39];congr 1;have:w - ((bC.take w).map λr=>(r.1,0)).length=0:=by simp;omega
 rw[this,Ga h];rfl
theorem PO (R:Qi p w c P m I) (k e st q:Int) (b:z10) (z:k=2) (av:e=c.Qa) (hb:b.size=12) (ax:∀s,s < 3->(c.fl s).base+(c.fl s).kept.length<=1000000000000000):
  Cp 189 #[Er w 0,.agg #[Ej k,Ej e,Ej st,Ej q,.string b]] p λx w'=>Rr x (.tuple #[])/\CC p w' w {c.drop (c.Jb k e st q b)with Qd:=true,fl:=Mq.fresh (c.drop (c.Jb k e st q b)).fl 3} P m I:=by
 have k5:(k==5)=false:=by subst z;rfl
 have k2:(k==2)=true:=by subst z;rfl
 have h2:Hid (k=2->b.size=12):=λ_=>hb;have h4:Hid (k=4->0<=q/\q<=2147483647):=λh=>by omega
 have bq:(e != (c.Qa:Int))=false:=by simpa using av
 have bb:=y' ax;clear z av hb ax;have ay:=y' (GB R k e st q b);have br:=z12 R.blk;generalize az:(c.Qa:Int)=ep at *;go_enter func189,ntmps189;go_upto_region 1 with fail;refine G' (λx=>We p x w c P m I k e st q b) (d' ay) ?_;clear ay R;intro x L;obtain⟨M,Q⟩:=GK L.box;have c0:=Bi 0 L.ref.blk;have c2:=Bi 2 L.ref.blk;have f2:=H' (i:=2) L.ref.blk;have c3:=Bi 3 L.ref.blk;have f3:=H' (i:=3) L.ref.blk;simp[AE]at M Q c0 c2 c3;rw[az]at c0;have F:=y' L;clear L az;go_quiet (fail);go_wp2;go_quiet (fail);go_upto_region 8 with fail;refine G' (λx=>We p x w c P m I k e st q b) (by first|exact((d' F).drew _).drew _|exact(d' F).drew _) ?_;clear F M Q c0 c2 f2 c3 f3;intro bt L;obtain⟨M,Q,aA,aB,aC⟩:=GL L.box;simp at M Q aA aB aC;have F:=y' L;clear L;have aD:=y' (KR (d' F).ref k e st q b (d' h2) (d' h4));go_upto_region 9 with (first|(go_at_call 188;refine Cm aD ?_;rintro y w1 ⟨rfl,ad⟩;have ah:=y' ad;have aE:=y' (UX ((d' F).ref.far (fbF ad) Ih) (c.Jb k e st q b) (λs _=>MK c k e st q b s) (λs hs=>by have:=(d' bb) s hs;have:=MK c k e st q b s;omega));clear ad)|(go_at_call 208;refine Cm aE ?_;rintro y bc ⟨rfl,bd⟩));obtain⟨aF,aG,Z,aH,aI⟩:=bd;have aJ:=y' (((I' (E:=CP w m I) (d' F).bel).trans (I' (E:=CP w m I) (d' ah)) Ih).trans aH Ih);have aK:Hid (∀k,CP w aF aG k->CP w m I k\/p.heap.size<=k):=λk z=>(aI k z).elim .inl (λh=>.inr (by have:=(d' F).bel.size;have:=(d' ah).size;omega));have c2:=Bi 2 Z.blk;have f2:=H' (i:=2) Z.blk;simp[AE]at c2;have ai:=y' Z;clear Z aH aI aE aD F ah M Q aA aB aC;obtain⟨a1,hA1⟩:=exq (c.drop (c.Jb k e st q b));rw[<-hA1]at ai c2;have be:=y' hA1;clear hA1;go_wp2;go_loopw[4] (λi wr=>∃ (s:Nat) (aL aM:Nat->Value),s<=3/\i=.int .i64 s/\Qi wr w {a1 with Qd:=true,fl:=Mq.fresh a1.fl s} P aL aM/\Far (CP w m I) p wr/\(∀k,CP w aL aM k->CP w m I k\/p.heap.size<=k)) (λi _=>3 - (intOf i).toNat)
 case atStart=>refine⟨0,aF,aG,by omega,rfl,?_,(d' aJ).trans (T' bc w 2 (.bool true)) (λk _ h=>.inl h),d' aK⟩;rw[sP];exact(d' ai).Qd true
 case round=>
  obtain⟨s,bf,bg,hs,rfl,R,hF,aN⟩:=hrel;have G:=y' hF;have aa:=y' aN;clear hF aN ai aJ aK c2 f2;by_cases H:s < 3
  .obtain⟨_,_,d2⟩:=DR R s H;have bh:=H' (i:=5+s * 3+2) R.blk;have aO:(s:Int) < 3:=(by omega);have hst:=R.Zw s H (x:=[]) (Far.refl _ _) (v':=En) (λg bi=>by cases bi) (BW _ _ _) (by simp);obtain⟨_,V,Y,aj,aP,aQ⟩:=hst;simp only[sQ]at aj;have aR:=y' aj;have aS:=y' ((d' G).trans aP (λk z h=>((d' aa) k h).elim id (λh=>by omega)));have aT:Hid (∀k,CP w V Y k->CP w m I k\/p.heap.size<=k):=λk z=>(aQ k z).elim (λh=>(d' aa) k h) (λh=>.inr (z26 (d' G).size h));clear R aj aP aQ G aa;go_upto_region 14 with fail;refine G' (λx=>Qi x w {a1 with Qd:=true,fl:=upd (Mq.fresh a1.fl s) s {a1.fl s with held:=[]}} P V Y/\Far (CP w m I) p x) ⟨d' aR,d' aS⟩ ?_;clear aR aS d2 bh;rintro bu ⟨aU,aV⟩;have aW:=y' aU;have aX:=y' aV;clear aU aV;go_wp2;go_loopw[5] (λi wr=>∃j:Nat,j<=(a1.fl s).kept.length/\i=.int .i64 j/\Qi wr w {a1 with Qd:=true,fl:=upd (Mq.fresh a1.fl s) s {a1.fl s with kept:=GC j (a1.fl s).kept,held:=[]}} P V Y/\Far (CP w m I) p wr) (λi _=>(a1.fl s).kept.length - (intOf i).toNat)
   case atStart=>exact⟨0,z54 _,rfl,by rw[nU];exact d' aW,d' aX⟩
   case round=>
    obtain⟨j,hj,rfl,R,hF⟩:=hrel;obtain⟨_,d1,_⟩:=DR R s H;have ab:=R.kept s H;simp only[Mq.Qn,DB]at ab;obtain⟨bw,bj,ac,bz,aY,ak⟩:=ab.shape;have bk:=R.kl s H;simp only[Mq.Qn,DB]at bk;rw[ac]at d1;have G:=y' hF;clear hF aW aX;by_cases J:j < (a1.fl s).kept.length
    .obtain⟨g,o,rfl,aZ⟩:=ak (by omega);have bl:=R.sentStep s H (g:=g) (o:=o) (cap:=bj) (i:=j) (by simp only[Mq.Qn,DB];exact ac) (by simp only[Mq.Qn,DB];exact J) 0;obtain⟨ao,f6⟩:=bl;simp only[Mq.Qn,KQ,sT J,sU J]at ao;have aq:=aZ (j * 2+1) (by omega);rw[LI _ j (by rw[DB];exact J)]at aq;have bm:wr.cell? (Ea g (o+j * 2+1))=some (Ej (((GC j (a1.fl s).kept)[j]'(by rw[DB];exact J)).2:Nat)):=aq
     have f7:wr.frozen? ⟨g,o+j * 2+1,none⟩=false:=f6;have ba:CP w V Y g:=.inr ⟨s,H,.inl (by rw[ac];rfl)⟩;have bn:=y' ((d' G).trans (T' wr g (o+(j * 2+1)) (Ej 0)) (λk z e=>by rw[e];exact((d' aT) g ba).elim id (λh=>by rw[e]at z;omega)));have au:=y' ao;clear R ao ab ak aZ aq f6 ba G aY;generalize (((GC j (a1.fl s).kept)[j]'(by rw[DB];exact J)).2:Nat)=old at bm
     go_wp2;go_roundw
     case rel=>exact⟨j+1,by omega,by go_num,d' au,d' bn⟩
     case measure=>simp[intOf];omega
    have bo:j=(a1.fl s).kept.length:=(by omega);subst bo;rw[sS]at R;rw[<-sR]at R;have au:=y' R;clear R ab ak aY ac;go_wp2;go_roundw
    case rel=>exact⟨s+1,V,Y,by omega,by go_num,d' au,d' G,d' aT⟩
    case measure=>simp[intOf];omega
  have aO:s=3:=by omega
  subst aO;have bp:=y' R;clear R;go_wp2;refine z74 (z64 rfl _ _ _) rfl ?_;rw[<-d' be];exact⟨rfl,bf,bg,d' bp,d' G,d' aa⟩
theorem Me:∀n:Fin 256,(bits BinOp.and IntKind.u8 ((n.val:Nat):Int) 1==1)=decide (n.val % 2=1):=by decide+kernel
theorem Mf:∀n:Fin 256,(bits BinOp.and IntKind.u8 (((n.val:Nat):Int) / 2) 1==1)=decide (n.val / 2 % 2=1):=by decide+kernel
theorem Mg:∀n:Fin 256,(bits BinOp.and IntKind.u8 (((n.val:Nat):Int) / 4) 1==1)=decide (n.val / 4 % 2=1):=by decide+kernel
theorem ET (q c:Nat):∀i,(Mq.bitsOf q c i).length<=i
 |0=>by simp[Mq.bitsOf]
 |i+1=>by have:=ET q c i;simp only[Mq.bitsOf,List.length_append];split <;> simp <;> omega
theorem EH (l:List Nat) (n:Nat):O' (l++[n])=O' l++[Ej (n:Int)]:=by simp[O']
theorem WD (R:Qi p w c P m I) (k e:Int) (s qn:Nat) (b:z10) (z:k=4) (F:e=c.Qa) (G:c.Qd=true) (hs:s < 3) (ac:qn<=2147483647) (V:min qn ((c.fl s).base+(c.fl s).kept.length) < (c.fl s).base):
  Cp 189 #[Er w 0,.agg #[Ej k,Ej e,Ej s,Ej qn,.string b]] p λx w'=>Rr x (.tuple #[])/\CC p w' w c P m I:=by
 have k5:(k==5)=false:=by subst z;rfl
 have k2:(k==2)=false:=by subst z;rfl
 have k4:(k==4)=true:=by subst z;rfl
 have ad:(e != (c.Qa:Int))=false:=by simpa using F
 have ah:=y' z;have ai:(qn:Int) < (c.fl s).base:=by omega
 clear z F;have H:=y' (GB R k e s qn b);have aj:=z12 R.blk;generalize J:(c.Qa:Int)=ep at *;go_enter func189,ntmps189;go_upto_region 1 with fail;refine G' (λx=>We p x w c P m I k e s qn b) (d' H) ?_;clear H R;intro x L;obtain⟨Y,Z⟩:=GK L.box;have c0:=Bi 0 L.ref.blk;have c2:=Bi 2 L.ref.blk;have f2:=H' (i:=2) L.ref.blk;have c3:=Bi 3 L.ref.blk;have f3:=H' (i:=3) L.ref.blk;simp[AE]at Y Z c0 c2 c3;rw[J]at c0;rw[G]at c2;have aa:=Bi 2 L.box;have ab:=Bi 3 L.box;simp at aa ab;obtain⟨d0,d1,_⟩:=DR L.ref s hs;obtain⟨ak,ao,M,_⟩:=(L.ref.kept s hs).shape;have aq:=L.ref.kl s hs;have au:=L.ref.bs s hs;rw[M]at d1;clear M;have av:(s:Int) < 3:=by omega
 have ax:¬ (((c.fl s).base:Int)+(c.fl s).kept.length < qn):=by omega
 have Q:=y' L;clear L J G V;generalize (c.fl s).base=bs,(c.fl s).kept.length=len at *;go_quiet (fail);go_wp2;go_quiet (fail);go_wp2;go_quiet (fail);go_wp2;go_quiet (fail);go_wp2;refine z47 (z64 rfl _ _ _) rfl ?_;exact⟨rfl,DN (a':=c) ((d' Q).drew _).ref (I' ((d' Q).drew _).bel)⟩
theorem XU (R:Qi p w c P m I) (k e:Int) (s qn:Nat) (b:z10) (H:k=4) (bd:e=c.Qa) (be:c.Qd=true) (hs:s < 3) (aE:qn<=2147483647) (hb:0 < b.size) (bf:¬min qn ((c.fl s).base+(c.fl s).kept.length) < (c.fl s).base) (bg:∀s,s < 3->(c.fl s).base+(c.fl s).kept.length<=1000000000000000):
  Cp 189 #[Er w 0,.agg #[Ej k,Ej e,Ej s,Ej qn,.string b]] p λx w'=>Rr x (.tuple #[])/\CC p w' w {c.drop (c.Jb k e s qn b)with fl:=upd (c.drop (c.Jb k e s qn b)).fl s {(c.drop (c.Jb k e s qn b)).fl s with held:=Mq.bitsOf (min qn ((c.fl s).base+(c.fl s).kept.length)) b[0].toNat 3}} P m I:=by
 have k5:(k==5)=false:=by subst H;rfl
 have k2:(k==2)=false:=by subst H;rfl
 have k4:(k==4)=true:=by subst H;rfl
 have bX:(e != (c.Qa:Int))=false:=by simpa using bd
 have h2:Hid (k=2->b.size=12):=λh=>by omega
 have h4:Hid (k=4->(0:Int)<=qn/\(qn:Int)<=2147483647):=λ_=>by omega
 have bG:=y' bg;obtain⟨z,aW⟩:=exq (min qn ((c.fl s).base+(c.fl s).kept.length));rw[<-aW]at bf ⊢;have bH:¬ (z:Int) < (c.fl s).base:=by omega
 have bY:z<=2147483647:=by omega
 have bI:=y' aW;have aF:=y' R;clear H bd bg bf aW;have bh:=y' (GB R k e s qn b);have bZ:=z12 R.blk;generalize bi:(c.Qa:Int)=ep at *;go_enter func189,ntmps189;go_upto_region 1 with fail;refine G' (λx=>We p x w c P m I k e s qn b) (d' bh) ?_;clear bh R;intro x L;obtain⟨aH,ak⟩:=GK L.box;have c0:=Bi 0 L.ref.blk;have c2:=Bi 2 L.ref.blk;have f2:=H' (i:=2) L.ref.blk;have c3:=Bi 3 L.ref.blk;have f3:=H' (i:=3) L.ref.blk;simp[AE]at aH ak c0 c2 c3;rw[bi]at c0;rw[be]at c2;have aI:=Bi 2 L.box;have aJ:=Bi 3 L.box;simp at aI aJ;obtain⟨d0,d1,_⟩:=DR L.ref s hs;obtain⟨ca,cb,bj,_⟩:=(L.ref.kept s hs).shape;have bJ:=L.ref.kl s hs;have bK:=L.ref.bs s hs;rw[bj]at d1;clear bj;have cc:(s:Int) < 3:=by omega
 have ac:=y' L;clear L bi be;obtain⟨bs,aX⟩:=exq ((c.fl s).base);obtain⟨len,aY⟩:=exq ((c.fl s).kept.length);rw[<-aX]at d0 bK bH;rw[<-aY]at d1 bJ;have bk:Hid (z=min qn (bs+len)):=by rw[aX,aY];exact bI
 clear aX aY;go_quiet (fail);go_wp2;go_quiet (fail);go_wp2;go_quiet (fail);go_wp2;go_quiet (fail);have aZ:((bs:Int)+len)=((bs+len:Nat):Int):=by omega
 by_cases bL:((bs:Int)+len) < qn
 case' pos=>
  have aR:z=bs+len:=by have:=d' bk;omega
  rw[aZ,<-aR];have cd:(z:Int) < qn:=by omega
  clear bL aR aZ
 case' neg=>
  have aR:z=qn:=by have:=d' bk;omega
  subst aR;clear aZ;let qn:Nat:=z
 all_goals
  go_upto_region 26 with fail
  refine G' (λx=>We p x w c P m I k e s qn b) ((d' ac).drew _) ?_;clear ac aH ak c0 c2 f2 c3 f3 aI aJ d0 d1;intro ce L;obtain⟨aH,ak,aI,aJ,bl⟩:=GL L.box;simp at aH ak aI aJ bl;have ac:=y' L;clear L;have bm:=y' (KR (d' ac).ref k e s qn b (d' h2) (d' h4));go_upto_region 27 with (first|(go_at_call 188;refine Cm bm ?_;rintro y w1 ⟨rfl,G⟩;have aG:=y' G;have bn:=y' (UX ((d' ac).ref.far (fbF G) Ih) (c.Jb k e s qn b) (λaS _=>MK c k e s qn b aS) (λaS bM=>by have:=(d' bG) aS bM;have:=MK c k e s qn b aS;omega));clear G)|(go_at_call 208;refine Cm bn ?_;rintro y bo ⟨rfl,bN⟩));obtain⟨bO,bP,aT,aK,bp⟩:=bN;have bq:=y' (((I' (E:=CP w m I) (d' ac).bel).trans (I' (E:=CP w m I) (d' aG)) Ih).trans aK Ih);have ba:Hid (∀k,CP w bO bP k->CP w m I k\/p.heap.size < k):=λk H=>(bp k H).elim .inl (λh=>.inr (by have:=z12 (d' ac).box;have:=(d' aG).size;omega));have br:bo.cell? (Ea p.heap.size 4)=some (.string b):=by have h1:=((d' aG).block p.heap.size (z12 (d' ac).box)).trans (d' ac).box;have h2:=aK.blk h1 (λe=>by rcases e with e|⟨t,bt,e|e⟩;omega;have:=((d' aF).kept t bt).lt _ e;omega;have:=((d' aF).held t bt).lt _ e;omega);exact D' h2
  have bQ:=y' br;have bR:Hid (p.heap.size < bo.heap.size):=by have:=aK.size;have:=z12 (d' ac).box;have:=(d' aG).size;show _ < _;omega
  obtain⟨_,_,d2⟩:=DR aT s hs;have bb:=H' (i:=5+s * 3+2) aT.blk;have hst:=aT.Zw s hs (x:=[]) (Far.refl _ _) (v':=En) (λg aC=>by cases aC) (BW _ _ _) (by simp);obtain⟨_,bu,bw,bc,bz,bA⟩:=hst;obtain⟨a1,hA1⟩:=exq (c.drop (c.Jb k e s qn b));rw[<-hA1]at bc;have bS:=y' hA1;have bT:=y' bc;have bU:=y' ((d' bq).trans bz (λk H h=>((d' ba) k h).elim id (λh=>by omega)));have bV:Hid (∀k,CP w bu bw k->CP w m I k\/p.heap.size < k):=λk H=>(bA k H).elim (λh=>(d' ba) k h) (λh=>.inr (by have:=aK.size;have:=z12 (d' ac).box;have:=(d' aG).size;omega));clear aT aK bp bn bm ac aG aH ak aI aJ bl br bc bz bA bq ba hA1;have cf:Hid (Mq.bitsOf z b[0].toNat 0=[]):=rfl;go_wp2;go_loopw[9] (λi wr=>∃ (j:Nat) (bB bC:Nat->Value),j<=3/\i=.int .i64 j/\Qi wr w {a1 with fl:=upd a1.fl s {a1.fl s with held:=Mq.bitsOf z b[0].toNat j}} P bB bC/\Far (CP w m I) p wr/\(∀k,CP w bB bC k->CP w m I k\/p.heap.size < k)/\p.heap.size < wr.heap.size/\wr.cell? ⟨p.heap.size,4,none⟩=some (.string b)) (λi _=>3 - (intOf i).toNat)
  case atStart=>refine⟨0,bu,bw,by omega,rfl,d' bT,d' bU,d' bV,?_,(z46 (AG (by have:=(d' aF).lt w (.inl rfl);show p.heap.size≠w;omega))).trans (d' bQ)⟩;rw[z80];exact d' bR
  case round=>
   obtain⟨j,aU,aD,hj,rfl,R,hF,ao,aj,aV⟩:=hrel;by_cases cg:j < 3
   .obtain rfl|rfl|rfl:j=0\/j=1\/j=2:=by omega
    .have aL:=ET z b[0].toNat 0;have aq:(bits BinOp.and IntKind.u8 (((b[0].toNat:Nat):Int)) 1==1)=decide (b[0].toNat % 2=1):=Me ⟨b[0].toNat,b[0].toNat_lt⟩;obtain⟨_,_,d2⟩:=DR R s hs;have bb:=H' (i:=5+s * 3+2) R.blk;have F:=R.held s hs;simp only[Mq.Qn]at F;have M:=y' R;have ai:=y' hF;have V:=y' ao;have au:=y' aV;have ad:=y' F;clear R hF ao F;by_cases G:b[0].toNat % 2=1
     .have J:=y' (show Mq.bitsOf z b[0].toNat (0+1)=Mq.bitsOf z b[0].toNat 0++[z+2+0] by simp[Mq.bitsOf,G]);simp only[G,decide_true]at aq;clear G;generalize Mq.bitsOf z b[0].toNat 0=Q at aL J ad M;go_upto_region 30 with (at_builtin;refine DZ rfl (.tmp 139) (.tmp 144) 101 rfl 3 _ 1 8 underlying101 jY rfl (aD s) Q.length (O' Q) ((d' ad).keep (λg aC=>z35 wr _ g ((d' ad).lt g aC))) rfl ⟨wr.heap.size,0,none⟩ 1 1 [Ej ((z:Int)+2)] rfl rfl AW (by intro u hu;simp at hu;subst hu;rfl) (by omega) (by omega) (by omega) ?_;intro v' w1 F Y;rw[show O' Q++[Value.int .i64 ((z:Int)+2)]=O' (Q++[z+2+0]) by rw[EH];simp]at F;have aE:=(d' M).Zw s hs (IL bna Y) (MH bna Y) (x:=Q++[z+2+0]) (by simpa using F) (by simp;omega);obtain⟨⟨C,ah,av⟩,hst⟩:=aE;have ak:=(D' (i:=5+s * 3+2) ah).trans av;have f1:=H' (i:=5+s * 3+2) ah;obtain⟨bD,bE,aM,_⟩:=F.shape;have ax:=y' hst;have ay:=IL bna Y;have bF:=y' ay;clear Y hst ah av F ay;subst aM);obtain⟨az,aA,Z,aa,aB⟩:=d' ax;simp only[Mq.Qn,KQ]at Z;rw[<-d' J]at Z;have ab:=y' Z;have aN:=y' ((d' ai).trans aa (λk H h=>((d' V) k h).elim id (λh=>by omega)));have aO:Hid (∀k,CP w az aA k->CP w m I k\/p.heap.size < k):=λk H=>(aB k H).elim (λh=>(d' V) k h) (λh=>.inr (by omega));have aP:=z21 aj aa.size;have aQ:=y' ((z46 (aa.rest p.heap.size aj (λh=>((d' V) _ h).elim (λh=>by have:=(d' aF).lt _ h;omega) (λh=>by omega)))).trans (d' au));clear Z aa aB ax J M;go_wp2;go_roundw
      case rel=>exact⟨0+1,az,aA,by omega,by go_num,d' ab,d' aN,d' aO,aP,d' aQ⟩
      case measure=>simp[intOf]
     have J:=y' (show Mq.bitsOf z b[0].toNat (0+1)=Mq.bitsOf z b[0].toNat 0 by simp[Mq.bitsOf,G]);simp only[G,decide_false]at aq;clear G;have ab:=M;rw[<-d' J]at ab;clear J M;go_wp2;go_roundw
     case rel=>exact⟨0+1,aU,aD,by omega,by go_num,d' ab,d' ai,d' V,aj,d' au⟩
     case measure=>simp[intOf]
    .have aL:=ET z b[0].toNat 1;have aq:(bits BinOp.and IntKind.u8 (((b[0].toNat:Nat):Int) / 2) 1==1)=decide (b[0].toNat / 2 % 2=1):=Mf ⟨b[0].toNat,b[0].toNat_lt⟩;obtain⟨_,_,d2⟩:=DR R s hs;have bb:=H' (i:=5+s * 3+2) R.blk;have F:=R.held s hs;simp only[Mq.Qn]at F;have M:=y' R;have ai:=y' hF;have V:=y' ao;have au:=y' aV;have ad:=y' F;clear R hF ao F;by_cases G:b[0].toNat / 2 % 2=1
     .have J:=y' (show Mq.bitsOf z b[0].toNat (1+1)=Mq.bitsOf z b[0].toNat 1++[z+2+1] by simp[Mq.bitsOf,G]);simp only[G,decide_true]at aq;clear G;generalize Mq.bitsOf z b[0].toNat 1=Q at aL J ad M;go_upto_region 30 with (at_builtin;refine DZ rfl (.tmp 139) (.tmp 144) 101 rfl 3 _ 1 8 underlying101 jY rfl (aD s) Q.length (O' Q) ((d' ad).keep (λg aC=>z35 wr _ g ((d' ad).lt g aC))) rfl ⟨wr.heap.size,0,none⟩ 1 1 [Ej ((z:Int)+2+1)] rfl rfl AW (by intro u hu;simp at hu;subst hu;rfl) (by omega) (by omega) (by omega) ?_;intro v' w1 F Y;rw[show O' Q++[Value.int .i64 ((z:Int)+2+1)]=O' (Q++[z+2+1]) by rw[EH];simp]at F;have aE:=(d' M).Zw s hs (IL bna Y) (MH bna Y) (x:=Q++[z+2+1]) (by simpa using F) (by simp;omega);obtain⟨⟨C,ah,av⟩,hst⟩:=aE;have ak:=(D' (i:=5+s * 3+2) ah).trans av;have f1:=H' (i:=5+s * 3+2) ah;obtain⟨bD,bE,aM,_⟩:=F.shape;have ax:=y' hst;have ay:=IL bna Y;have bF:=y' ay;clear Y hst ah av F ay;subst aM);obtain⟨az,aA,Z,aa,aB⟩:=d' ax;simp only[Mq.Qn,KQ]at Z;rw[<-d' J]at Z;have ab:=y' Z;have aN:=y' ((d' ai).trans aa (λk H h=>((d' V) k h).elim id (λh=>by omega)));have aO:Hid (∀k,CP w az aA k->CP w m I k\/p.heap.size < k):=λk H=>(aB k H).elim (λh=>(d' V) k h) (λh=>.inr (by omega));have aP:=z21 aj aa.size;have aQ:=y' ((z46 (aa.rest p.heap.size aj (λh=>((d' V) _ h).elim (λh=>by have:=(d' aF).lt _ h;omega) (λh=>by omega)))).trans (d' au));clear Z aa aB ax J M;go_wp2;go_roundw
      case rel=>exact⟨1+1,az,aA,by omega,by go_num,d' ab,d' aN,d' aO,aP,d' aQ⟩
      case measure=>simp[intOf]
     have J:=y' (show Mq.bitsOf z b[0].toNat (1+1)=Mq.bitsOf z b[0].toNat 1 by simp[Mq.bitsOf,G]);simp only[G,decide_false]at aq;clear G;have ab:=M;rw[<-d' J]at ab;clear J M;go_wp2;go_roundw
     case rel=>exact⟨1+1,aU,aD,by omega,by go_num,d' ab,d' ai,d' V,aj,d' au⟩
     case measure=>simp[intOf]
    have aL:=ET z b[0].toNat 2;have aq:(bits BinOp.and IntKind.u8 (((b[0].toNat:Nat):Int) / 4) 1==1)=decide (b[0].toNat / 4 % 2=1):=Mg ⟨b[0].toNat,b[0].toNat_lt⟩;obtain⟨_,_,d2⟩:=DR R s hs;have bb:=H' (i:=5+s * 3+2) R.blk;have F:=R.held s hs;simp only[Mq.Qn]at F;have M:=y' R;have ai:=y' hF;have V:=y' ao;have au:=y' aV;have ad:=y' F;clear R hF ao F;by_cases G:b[0].toNat / 4 % 2=1
    .have J:=y' (show Mq.bitsOf z b[0].toNat (2+1)=Mq.bitsOf z b[0].toNat 2++[z+2+2] by simp[Mq.bitsOf,G]);simp only[G,decide_true]at aq;clear G;generalize Mq.bitsOf z b[0].toNat 2=Q at aL J ad M;go_upto_region 30 with (at_builtin;refine DZ rfl (.tmp 139) (.tmp 144) 101 rfl 3 _ 1 8 underlying101 jY rfl (aD s) Q.length (O' Q) ((d' ad).keep (λg aC=>z35 wr _ g ((d' ad).lt g aC))) rfl ⟨wr.heap.size,0,none⟩ 1 1 [Ej ((z:Int)+2+2)] rfl rfl AW (by intro u hu;simp at hu;subst hu;rfl) (by omega) (by omega) (by omega) ?_;intro v' w1 F Y;rw[show O' Q++[Value.int .i64 ((z:Int)+2+2)]=O' (Q++[z+2+2]) by rw[EH];simp]at F;have aE:=(d' M).Zw s hs (IL bna Y) (MH bna Y) (x:=Q++[z+2+2]) (by simpa using F) (by simp;omega);obtain⟨⟨C,ah,av⟩,hst⟩:=aE;have ak:=(D' (i:=5+s * 3+2) ah).trans av;have f1:=H' (i:=5+s * 3+2) ah;obtain⟨bD,bE,aM,_⟩:=F.shape;have ax:=y' hst;have ay:=IL bna Y;have bF:=y' ay;clear Y hst ah av F ay;subst aM);obtain⟨az,aA,Z,aa,aB⟩:=d' ax;simp only[Mq.Qn,KQ]at Z;rw[<-d' J]at Z;have ab:=y' Z;have aN:=y' ((d' ai).trans aa (λk H h=>((d' V) k h).elim id (λh=>by omega)));have aO:Hid (∀k,CP w az aA k->CP w m I k\/p.heap.size < k):=λk H=>(aB k H).elim (λh=>(d' V) k h) (λh=>.inr (by omega));have aP:=z21 aj aa.size;have aQ:=y' ((z46 (aa.rest p.heap.size aj (λh=>((d' V) _ h).elim (λh=>by have:=(d' aF).lt _ h;omega) (λh=>by omega)))).trans (d' au));clear Z aa aB ax J M;go_wp2;go_roundw
     case rel=>exact⟨2+1,az,aA,by omega,by go_num,d' ab,d' aN,d' aO,aP,d' aQ⟩
     case measure=>simp[intOf]
    have J:=y' (show Mq.bitsOf z b[0].toNat (2+1)=Mq.bitsOf z b[0].toNat 2 by simp[Mq.bitsOf,G]);simp only[G,decide_false]at aq;clear G;have ab:=M;rw[<-d' J]at ab;clear J M;go_wp2;go_roundw
    case rel=>exact⟨2+1,aU,aD,by omega,by go_num,d' ab,d' ai,d' V,aj,d' au⟩
    case measure=>simp[intOf]
   have bW:j=3:=(by omega);subst bW;have M:=y' R;have ai:=y' hF;have V:=y' ao;clear R hF ao aV;go_wp2;refine z74 (z64 rfl _ _ _) rfl ?_;rw[<-d' bS];exact⟨rfl,aU,aD,d' M,d' ai,λk H=>((d' V) k H).elim .inl (λh=>.inr (by omega))⟩
theorem RE (h:Qb.proper 2 o V aF z=true):z.size=12:=by
 simp[Qb.proper,Xi]at h;omega
theorem RF (h:Qb.proper 4 o V aF z=true):z.size=1/\(0<=V/\V < 3)/\0<=aF/\aF<=2147483647:=by
 simp[Qb.proper,Qb.isStr,Qb.isNum,Qb.Jn]at h;omega
theorem sV (b:z10) (h:0 < b.size):(b.data.toList.getD 0 0)=b[0]:=by
 have:(0:Nat) < b.data.toList.length:=by simpa using h
 rw[z15,z17 this];rfl
theorem XV (R:Qi p w c P m I) (k e st q:Int) (b:z10) (G:Qb.proper k e st q b=true) (H:∀s,s < 3->(c.fl s).base+(c.fl s).kept.length<=1000000000000000):
  Cp 189 #[Er w 0,.agg #[Ej k,Ej e,Ej st,Ej q,.string b]] p λx w'=>Rr x (.tuple #[])/\CC p w' w (c.Qv k e st q b) P m I:=by
 unfold Ag.Qv;by_cases h1:k=5/\(c.Qa:Int) < e;rw[if_pos h1];exact TI R k e st q b h1.1 h1.2;rw[if_neg h1];by_cases z:e=c.Qa;rw[if_neg (by simpa using z)];by_cases h5:k=5;rw[if_pos h5];exact TK R k e st q b h5 z;rw[if_neg h5];by_cases h2:k=2;rw[if_pos h2];exact PO R k e st q b h2 z (RE (h2 ▸ G)) H;rw[if_neg h2];by_cases h4:k=4;rw[if_pos h4];obtain⟨hb,⟨J,Q⟩,M,V⟩:=RF (h4 ▸ G);obtain⟨s,rfl⟩:=z62 J;obtain⟨qn,rfl⟩:=z62 M;by_cases F:c.Qd=false;rw[if_pos (.inl F)];exact TO R k e s qn b h4 z F;have hw':c.Qd=true:=by simpa using F
 by_cases hl:min qn ((c.fl s).base+(c.fl s).kept.length) < (c.fl s).base;rw[if_pos (Or.inr (show c.ackSeq (s:Int).toNat (qn:Int) < (c.fl (s:Int).toNat).base from hl))];exact WD R k e s qn b h4 z hw' (by omega) (by omega) hl;rw[if_neg (show ¬ (c.Qd=false\/c.ackSeq (s:Int).toNat (qn:Int) < (c.fl (s:Int).toNat).base) fromλh=>h.elim F hl),sV b (by omega)];exact XU R k e s qn b h4 z hw' (by omega) (by omega) (by omega) hl H;rw[if_neg h4];exact WC R k e st q b h5 h2 h4 z;rw[if_pos (by simpa using z)];by_cases h5:k=5;exact RC R k e st q b h5 (λh=>h1 ⟨h5,h⟩) z;exact TJ R k e st q b h5 z
theorem Qi.ticked (R:Qi p w c P m I) (n:Nat) (hn:n<=1000000000000000):Qi (p.setCell ⟨w,1,none⟩ (Ej n)) w {c with Qf:=n} P m I:=by
 have H:=T' p w 1 (Ej n);exact⟨by have:=AA (j:=1) (v:=Ej n) R.blk;rw[this];rfl,λt z=>(R.kept t z).far H (λg F G=>(R.kept t z).ne R.blk (by decide) (by rw[F,G])),λt z=>(R.held t z).far H (λg F G=>(R.held t z).ne R.blk (by decide) (by rw[F,G])),R.apk,R.aph,R.ep,hn,R.bs,R.kl,R.hl⟩
theorem kD (h:w<=2147483647):Qb.proper 1 w 0 0 ⟨#[]⟩=true:=by
 have h2:(w:Int)<=2147483647:=by omega
 have h3:(⟨#[]⟩:z10).size=0:=rfl;simp[Qb.proper,Qb.isNum,h2,h3]
def KN (l:List (List UInt8)):List Value:=l.map λx=>.string ⟨x.toArray⟩
theorem nV (l:List (List UInt8)):(KN l).length=l.length:=by simp[KN]
theorem XW (R:Qi p w c P m I) (hd:P.dead=false) (z:c.fenced=true) (G:c.Qf+1<=1000000000000000):
  Cp 147 #[Er w 0] p λx w'=>Rr x En/\CC p w' w {c with Qf:=c.Qf+1} P m I:=by
 have c1:=Bi 1 R.blk;have c3:=Bi 3 R.blk;have c4:=Bi 4 R.blk;have f1:=H' (i:=1) R.blk;simp[AE,hd,z]at c1 c3 c4;have H:=y' R;have J:=y' G;have F:(c.Qf:Int)+1=((c.Qf+1:Nat):Int):=by omega
 have M:=y' F;clear R hd z F;go_enter func147,ntmps147;go_wp2;go_ret;rw[d' M];exact⟨rfl,DN ((d' H).ticked _ (d' J)) ((T' p w 1 _).mono (λk _ h=>.inl h))⟩
theorem fD (R:Qi p w c P m I) (hd:P.dead=false) (G:c.fenced=false) (H:c.Qd=false) (ad:c.Qa<=2147483647) (ah:c.Qf+1<=1000000000000000):
  Cp 147 #[Er w 0] p λx w'=>∃v,x=.returned v/\w'.ownsRow p.heap.size 9 1 v 1 (KN [Qb.bytes 1 c.Qa 0 0 []])/\CC p w' w {c with Qf:=c.Qf+1} P m I:=by
 obtain⟨c0,c1,c2,c3,c4⟩:=GL R.blk;have f1:=H' (i:=1) R.blk;simp[AE,hd,G,H]at c0 c1 c2 c3 c4;have ai:=y' R;have aj:=y' ah;have J:(c.Qf:Int)+1=((c.Qf+1:Nat):Int):=by omega
 have ak:=y' J;have ao:=λp=>y' (DH 1 c.Qa 0 0 ⟨#[]⟩ p (kD ad));obtain⟨i0,hi,aq,au,av⟩:=AT CW;have ax:=y' G;have ay:=y' H;clear R hd G H J;go_enter func147,ntmps147;go_upto_region 5 with fail;refine G' (λx=>Qi x w {c with Qf:=c.Qf+1} P m I/\Far (CP w m I) p x) ⟨by rw[d' ak];exact(d' ai).ticked _ (d' aj),(T' p w 1 _).mono (λk _ h=>.inl h)⟩ ?_;clear c0 c1 c2 c3 c4 f1;rintro x ⟨z,M⟩;have c0:=Bi 0 z.blk;have c2:=Bi 2 z.blk;have c3:=Bi 3 z.blk;simp[AE,d' ax,d' ay]at c0 c2 c3;have az:=y' z;have Q:=y' M;clear z M;go_upto_region 9 with (go_at_call 61;refine Cm (ao _) ?_;rintro y F ⟨rfl,V⟩;have Y:=y' V;clear V);go_wp2_with (at_builtin;refine z67 _ rfl (.tmp 39) (.tmp 41) 33 rfl p.heap.size 9 i0 (.string ⟨#[]⟩) 1 16 underlying33 hi aq au av rfl (by decide) En 0 [] rfl (z20 _ _ _ _) ⟨F.heap.size,0,none⟩ 1 1 (KN [Qb.bytes 1 c.Qa 0 0 []]) rfl rfl AW (by intro u hu;simp[KN]at hu;subst hu;rfl) (by unfold maxLen;omega) (by omega) (by have:=(d' Q).size;have:=(d' Y).size;simp;omega) ?_;intro v' aA Z aa _;have ab:=(((z11 F.heap.size F).alloc (z16 _) (.cells (KN [Qb.bytes 1 c.Qa 0 0 []]).toArray 9)).trans (AB (B:=F.heap.size) aa (by simp) (λg aB=>by cases aB)));have aC:=y' Z;have aD:=y' ab;clear Z aa ab);go_ret;have ac:Far (λ_=>False) x aA:=(fbF (d' Y)).trans (fbF (d' aD)) Ih;exact⟨_,rfl,by simpa using d' aC,DN ((d' az).far ac Ih) ((d' Q).trans ac (λ_ _ h=>h.elim))⟩
theorem BL (e s:Nat) (f:Js) (t:Nat):∀i,(Mq.sendTo e s f t i).1.length=f.kept.length
 |0=>rfl
 |i+1=>by
  have:=BL e s f t i;simp only[Mq.sendTo];split
  .exact this
  .split
   .simp[this]
   .exact this
theorem PQ (e s:Nat) (f:Js) (t:Nat):∀i j,i<=j->(Mq.sendTo e s f t i).1[j]? =f.kept[j]?
 |0,_,_=>rfl
 |i+1,j,h=>by
  have:=PQ e s f t i j (by omega);simp only[Mq.sendTo];split
  .exact this
  .split
   .simp only
    rw[List.getElem?_set_ne (by omega)];exact this
   .exact this
theorem IT {e s:Nat} {t:Nat} (h:w < aX.kept.length) (hd:Mq.due aX t w aX.kept[w].2=false):Mq.sendTo e s aX t (w+1)=Mq.sendTo e s aX t w:=by
 simp only[Mq.sendTo,List.getElem?_eq_getElem h,hd];rfl
theorem IU {e s:Nat} {t:Nat} (h:w < aX.kept.length) (hd:Mq.due aX t w aX.kept[w].2=true):
  Mq.sendTo e s aX t (w+1)=((Mq.sendTo e s aX t w).1.set w (aX.kept[w].1,t),(Mq.sendTo e s aX t w).2++[Qb.bytes 3 e s (aX.base+1+w:Nat) aX.kept[w].1.data.toList]):=by
 simp only[Mq.sendTo,List.getElem?_eq_getElem h,hd];rfl
theorem CI {i:Nat} (h:aX.kept.length<=i):Mq.sendTo w a aX q (i+1)=Mq.sendTo w a aX q i:=by
 simp only[Mq.sendTo,List.getElem?_eq_none_iff.2 h]
theorem KU {e s:Nat} {f:Js} {t i:Nat} (h:f.kept.length<=i\/i=4) (h4:i<=4):Mq.sendTo e s f t 4=Mq.sendTo e s f t i:=by
 rcases h with h|h;obtain rfl|rfl|rfl|rfl|rfl:i=0\/i=1\/i=2\/i=3\/i=4:=by omega
 rw[CI (i:=3) (by omega),CI (i:=2) (by omega),CI (i:=1) (by omega),CI (i:=0) (by omega)];rw[CI (i:=3) (by omega),CI (i:=2) (by omega),CI (i:=1) (by omega)];rw[CI (i:=3) (by omega),CI (i:=2) (by omega)];rw[CI (i:=3) (by omega)];rfl;rw[h]
theorem nW (e t:Nat) (f:Nat->Js):Xf e t f 0=f:=by funext u;simp[Xf]
theorem nX (e t:Nat) (f:Nat->Js) (s:Nat):Xf e t f s s=f s:=by simp[Xf]
theorem VF (e t:Nat) (f:Nat->Js) (s:Nat):Xf e t f (s+1)=upd (Xf e t f s) s {f s with kept:=(Mq.sendTo e s (f s) t 4).1}:=by
 funext u;unfold Xf upd;by_cases h:u=s;subst h;simp;by_cases h2:u < s;simp[h,h2,show u < s+1 by omega];simp[h,h2,show ¬u < s+1 by omega]
theorem NR {i:Nat} (h:bC[i]? =some bZ):(BO bC)[i * 2]? =some (.string bZ.1):=by
 obtain⟨hi,rfl⟩:=z25.1 h;exact LH bC i hi
theorem NS {i:Nat} (h:bC[i]? =some bZ):(BO bC)[i * 2+1]? =some (Ej (bZ.2:Nat)):=by
 obtain⟨hi,rfl⟩:=z25.1 h;exact LI bC i hi
theorem xL (l:List (List UInt8)) (x:List UInt8):KN (l++[x])=KN l++[.string ⟨x.toArray⟩]:=by simp[KN]
theorem nY (J:w<=2147483647) (hs:a < 3) (h0:0 < q) (M:q<=2147483647) (hb:z.size<=20):Qb.proper 3 w a q z=true:=by
 have F:(w:Int)<=2147483647:=by omega
 have G:(a:Int) < 3:=by omega
 have H:(q:Int)<=2147483647:=by omega
 have I:¬q=0:=by omega
 simp[Qb.proper,Qb.isNum,Qb.isStr,F,G,H,I,hb]
structure Kp (x:World) (p s:Nat) (base:Nat) (kvs:Value) (len cap g o j:Nat) (b:z10) (n:Nat) (ep tk:Nat):Prop where
 d0:x.cell? (Ea p (5+s * 3))=some (Ej base)
 d1:x.cell? (Ea p (5+s * 3+1))=some (Es g o len cap)
 body:x.cell? (Ea g (o+j * 2))=some (.string b)
 sent:x.cell? (Ea g (o+j * 2+1))=some (Ej n)
 free:x.frozen? ⟨g,o+j * 2+1,none⟩=false
 c0:x.cell? (Ea p 0)=some (Ej ep)
 c1:x.cell? (Ea p 1)=some (Ej tk)
 glt:g < x.heap.size
 plt:p < x.heap.size
theorem Qi.keptAt (R:Qi p w c P m I) (s:Nat) (hs:s < 3) {g o cap j:Nat} (G:m s=.slice (some ⟨g,o,none⟩) (c.fl s).kept.length cap) {y:z10×Nat} (H:(c.fl s).kept[j]? =some y):
  Kp p w s (c.fl s).base (m s) (c.fl s).kept.length cap g o j y.1 y.2 c.Qa c.Qf:=by
 obtain⟨d0,d1,_⟩:=DR R s hs;have J:=R.kept s hs;have hj:=(z25.1 H).1;obtain⟨Z,aa,M,_,_,F⟩:=J.shape;obtain⟨g',ab,Q,F⟩:=F (by omega);rw[G]at M d1;injection M with z _ V;rw[Q]at z;injection z with z;injection z with z Y;subst z Y V;have hb:=F (j * 2) (by omega);have hn:=F (j * 2+1) (by omega);rw[NR H]at hb;rw[NS H]at hn;exact⟨d0,d1,hb,hn,(R.sentStep s hs (i:=j) G hj 0).2,D' R.blk,D' R.blk,J.lt _ (by rw[G];rfl),z12 R.blk⟩
theorem kE (R:Qi p w c P m I) (hd:P.dead=false) (ac:c.fenced=false) (aQ:c.Qd=true) (cb:c.Qa<=2147483647) (cc:c.Qf+1<=1000000000000000)
  (bf:∀s,s < 3->(c.fl s).base+(c.fl s).kept.length<=2147483647) (bg:∀s,s < 3->∀x∈ (c.fl s).kept,x.1.size<=20/\x.2<=1000000000000000):
  Cp 147 #[.pointer (some ⟨w,0,none⟩)] p λx w'=>∃v n,x=.returned v/\w'.ownsRow p.heap.size 9 1 v n (KN (Zl c.Qa (c.Qf+1) c.fl 3))/\CC p w' w {c with Qf:=c.Qf+1,fl:=Xf c.Qa (c.Qf+1) c.fl 3} P m I:=by
 obtain⟨c0,c1,c2,c3,c4⟩:=GL R.blk;have f1:=H' (i:=1) R.blk;simp[AE,hd,ac,aQ]at c0 c1 c2 c3 c4;have G:=y' R;have bh:=y' R;have bi:=y' cc;have bj:(c.Qf:Int)+1=((c.Qf+1:Nat):Int):=by omega
 have cd:=y' bj;obtain⟨i0,hi,ce,cf,cg⟩:=AT CW;have ch:=y' ac;have ci:=y' aQ;have bk:=y' bf;have cj:=y' bg;clear R hd ac aQ bj bf bg;go_enter func147,ntmps147;go_upto_region 5 with fail;refine G' (λx=>Qi x w {c with Qf:=c.Qf+1} P m I/\Far (CP w m I) p x) ⟨by rw[d' cd];exact(d' G).ticked _ (d' bi),(T' p w 1 _).mono (λk _ h=>.inl h)⟩ ?_;clear c0 c1 c2 c3 c4 f1;rintro x ⟨aE,bl⟩;have c2:=Bi 2 aE.blk;have c3:=Bi 3 aE.blk;simp[AE,d' ch,d' ci]at c2 c3;have aR:=y' aE;have bm:=y' bl;clear aE bl;obtain⟨tk,aS⟩:=exq (c.Qf+1);have bn:=y' aS;rw[<-aS]at aR;clear aS;have cI:tk<=1000000000000000:=by have:=d' bi;have:=d' bn;omega
 go_wp2;go_loopw[3,5] (λv i wr=>∃ (s n:Nat),s<=3/\i=.int .i64 s/\n<=4 * s/\wr.ownsRow p.heap.size 9 1 v n (KN (Zl c.Qa tk c.fl s))/\Qi wr w {c with Qf:=tk,fl:=Xf c.Qa tk c.fl s} P m I/\Far (CP w m I) p wr) (λ_ i _=>3 - (intOf i).toNat)
 case atStart=>exact⟨0,0,by omega,rfl,by omega,z20 _ _ _ _,by rw[nW];exact d' aR,d' bm⟩
 case round=>
  obtain⟨s,n,hs,rfl,hn,ad,R,hF⟩:=hrel;clear c2 c3 aR bm;by_cases z:s < 3
  .have bo:(s:Int) < 3:=(by omega);have aF:=y' R;have aG:=y' hF;have aH:=y' ad;clear R hF ad;go_wp2;go_loopw[3,7] (λv i wr=>∃ (j n2:Nat),j<=4/\j<=(c.fl s).kept.length/\i=.int .i64 j/\n2<=4 * s+j/\wr.ownsRow p.heap.size 9 1 v n2 (KN (Zl c.Qa tk c.fl s++(Mq.sendTo c.Qa s (c.fl s) tk j).2))/\Qi wr w {c with Qf:=tk,fl:=upd (Xf c.Qa tk c.fl s) s {c.fl s with kept:=(Mq.sendTo c.Qa s (c.fl s) tk j).1}} P m I/\Far (CP w m I) p wr) (λ_ i _=>4 - (intOf i).toNat)
   case atStart=>refine⟨0,n,by omega,by omega,rfl,by omega,?_,?_,d' aG⟩;simpa[Mq.sendTo]using d' aH;have:=d' aF;have e:upd (Xf c.Qa tk c.fl s) s {c.fl s with kept:=(Mq.sendTo c.Qa s (c.fl s) tk 0).1}=Xf c.Qa tk c.fl s:=(by funext u;unfold upd;split;rename_i h;subst h;rw[nX];rfl;rfl);rw[e];exact this
   case round=>
    obtain⟨j,n2,cJ,cK,rfl,cL,ad,R,hF⟩:=hrel;obtain⟨d0,d1,d2⟩:=DR R s z;simp only[Mq.Qn]at d0;have au:=R.kept s z;simp only[Mq.Qn,BL]at au;obtain⟨cM,ak,aT,cN,ck,aI⟩:=au.shape;have cl:=R.kl s z;simp only[Mq.Qn,BL]at cl;rw[aT]at d1;have av:=y' aT;clear aF aG aH aT;have Q:=y' hF;have V:=y' ad;have aU:=R.held s z;simp only[Mq.Qn]at aU;have bp:=R.hl s z;simp only[Mq.Qn]at bp;have aV:=xE ((c.fl s).base+1+j) d2 aU (by omega);have cO:(c.fl s).base<=2147483647:=(by have:=(d' bk) s z;omega);have bq:(((c.fl s).base+1+j:Nat):Int)=((c.fl s).base:Int)+1+j:=(by omega);rw[bq]at aV;have Y:=y' aV;obtain⟨c0,c1⟩:=GK R.blk;simp[AE]at c0 c1;have G:=y' R;clear R hF ad aU bp aV bq ck;by_cases H:j < (c.fl s).kept.length
    .by_cases h4:j < 4
     .obtain⟨g,o,rfl,aW⟩:=aI (by omega);have ao:=PQ c.Qa s (c.fl s) tk j j (z16 _);rw[z17 H]at ao;have J:=aW (j * 2) (by omega);rw[NR ao]at J;have Z:wr.cell? ⟨g,o+j * 2+1,none⟩=some (Ej ((c.fl s).kept[j].2:Nat)):=(by have:=aW (j * 2+1) (by omega);rw[NS ao]at this;exact this);have br:=y' (λh=>IT (e:=c.Qa) (s:=s) (t:=tk) H h);have cm:=y' (λh=>IU (e:=c.Qa) (s:=s) (t:=tk) H h);obtain⟨bt,cP⟩:=(d' cj) s z _ (z86 H);have cn:=y' bt;clear bt;have ax:Hid (Mq.due (c.fl s) tk j (c.fl s).kept[j].2=(!((c.fl s).held.contains ((c.fl s).base+1+j)) && ((c.fl s).kept[j].2==0||decide ((c.fl s).kept[j].2+4<=tk)))):=rfl;have ay:=(d' G).sentStep s z (g:=g) (o:=o) (cap:=ak) (i:=j) (by simp only[Mq.Qn,BL];exact d' av) (by simp only[Mq.Qn,BL];exact H) tk;simp only[Mq.Qn,KQ]at ay;obtain⟨ah,f6⟩:=ay;have az:(Mq.sendTo c.Qa s (c.fl s) tk j).1[j]'(by rw[BL];exact H)=(c.fl s).kept[j]:=by have:=ao;rw[z17 (by rw[BL];exact H)]at this;exact fB this
      rw[az]at ah;have aX:=y' ah;have cp:Hid (wr.frozen? ⟨g,o+j * 2+1,none⟩=false):=f6;have bu:=y' ao;clear aI aW ao az ah f6;generalize (c.fl s).kept[j]=cq at *;obtain⟨aa,ai⟩:=cq;cases aA:(c.fl s).held.contains ((c.fl s).base+1+j)
      .rw[aA]at Y ax;rcases(by omega:0 < (ai:Int)/\(tk:Int) < (ai:Int)+4\/0 < (ai:Int)/\¬ (tk:Int) < (ai:Int)+4\/¬0 < (ai:Int))with ⟨bw,hl⟩|⟨bw,hl⟩|bw
       .have F:=y' ((d' br) (by rw[d' ax];simp;omega));clear aA J aX;go_wp2_with (go_at_call 187;refine Cm Y ?_;rintro y w1 ⟨rfl,bz,rfl⟩);go_roundw
        case rel=>refine⟨j+1,n2,by omega,by omega,by go_num,by omega,?_,?_,(d' Q).trans (fbF (z36 (z11 _ _) _)) (λ_ _ h=>h.elim)⟩;rw[d' F];exact d' V;rw[d' F];exact(d' G).far (fbF (z36 (z11 _ _) _)) Ih
        case measure=>simp[intOf];omega
       all_goals
        have F:=y' ((d' cm) (by rw[d' ax];simp;omega));clear aA aX cp;go_upto_region 20 with (go_at_call 187;refine Cm Y ?_;rintro y w1 ⟨rfl,bz,rfl⟩);refine G' (λx=>Qi x w {c with Qf:=tk,fl:=upd (Xf c.Qa tk c.fl s) s {c.fl s with kept:=(Mq.sendTo c.Qa s (c.fl s) tk j).1}} P m I/\x.ownsRow p.heap.size 9 1 u3 n2 (KN (Zl c.Qa tk c.fl s++(Mq.sendTo c.Qa s (c.fl s) tk j).2))/\Far (CP w m I) p x)
         ⟨(d' G).far (fbF (z36 (z11 _ _) _)) Ih,d' V,(d' Q).trans (fbF (z36 (z11 _ _) _)) (λ_ _ h=>h.elim)⟩ ?_
        clear d0 d1 d2 c0 c1 J Z G V Q Y au;rintro cr ⟨aY,bA,bB⟩;have bC:=aY.keptAt s z (g:=g) (o:=o) (cap:=ak) (j:=j) (by simp only[Mq.Qn,BL];exact d' av) (y:=(aa,ai)) (by simp only[Mq.Qn];exact d' bu);simp only[Mq.Qn,BL]at bC;obtain⟨d0,d1,J,Z,aJ,c0,c1,aq,ab⟩:=bC;have bD:=y' aY;have bE:=y' bB;have aK:=y' bA;clear aY bA bB;refine Z'
         [Ep w (5+s * 3),Ep w (5+s * 3),Ep w (5+s * 3+1),Ev (.slice (some ⟨g,o,none⟩) (c.fl s).kept.length ak),Ei j,Ep w 0,Ep w 0,Ep w 1,Ei tk,Ep g (o+j * 2),Ep g (o+j * 2+1),Et]
         [[6],[1096],[2097],[3098],[7],[0],[6101],[7102],[8103],[4099,5100],[10105],[11106,9104]]
         [97,98,99,100,101,102,103,104,105,106,107,0]
         [96,11,999]
         11 _ rfl rfl ?_ ?_
        .refine⟨?_,?_,?_,?_,?_,?_,?_,?_,?_,?_,?_,trivial⟩;all_goals
          intro b x hb ac;have cs:=Bc hb ab d1;have cu:=Bc hb ab c1;clear hb d0 d1 J Z c0 c1;simp[J']at ac;try go_simp
          try exact z11 _ _
         all_goals exact⟨rfl,z11 _ _⟩
        .intro f5 aL hb aB;simp only[AJ,List.take]at aB;obtain⟨_,_,_,_,_,_,_,_,cv,_,cw,_⟩:=aB;have cx:=Bc hb aq Z;have cy:=(hb.frozen (p:=⟨g,o+j * 2+1,none⟩) aq).trans aJ;have aM:Far (λ_=>False) cr aL:=I' hb;have bF:=(d' bD).far aM Ih;have ay:=bF.sentStep s z (g:=g) (o:=o) (cap:=ak) (i:=j) (by simp only[Mq.Qn,BL];exact d' av) (by simp only[Mq.Qn,BL];exact H) tk;simp only[Mq.Qn,KQ]at ay;obtain⟨aN,_⟩:=ay;have az:(Mq.sendTo c.Qa s (c.fl s) tk j).1[j]'(by rw[BL];exact H)=(aa,ai):=by have:=d' bu;rw[z17 (by rw[BL];exact H)]at this;exact fB this
         rw[az]at aN;have bG:(Mq.sendTo c.Qa s (c.fl s) tk j).1.set j (aa,tk)=(Mq.sendTo c.Qa s (c.fl s) tk (j+1)).1:=(by rw[d' F]);rw[bG]at aN;have aZ:CP w m I g:=.inr ⟨s,z,.inl (by rw[d' av];rfl)⟩;have bH:=((d' bE).trans aM (λ_ _ h=>h.elim)).trans (T' aL g (o+(j * 2+1)) (Ej tk)) (λk _ e=>by rw[e];exact aZ);have cz:=y' (λk M=>(z14 (d' aK) k M).1);have bI:=Q' (w':=aL.setCell ⟨g,o+(j * 2+1),none⟩ (Ej tk)) (Q' (w':=aL) (d' aK) (λk M=>aM.rest k (z14 (d' aK) k M).2 (λh=>h))) (λk M=>AG (by have h1:=(d' cz) k M;have h2:=(d' bh).lt g aZ;omega));have bJ:=y' aN;have bK:=y' bH;have bL:=y' bI;clear hb aM bF aN bH bI az aZ bG d0 d1 J Z aJ c0 c1 aq ab bD bE aK;simp only[V',cv,cw];go_simp;go_upto_region 21 with fail;refine G' (λx=>Qi x w {c with Qf:=tk,fl:=upd (Xf c.Qa tk c.fl s) s {c.fl s with kept:=(Mq.sendTo c.Qa s (c.fl s) tk (j+1)).1}} P m I/\x.ownsRow p.heap.size 9 1 u3 n2 (KN (Zl c.Qa tk c.fl s++(Mq.sendTo c.Qa s (c.fl s) tk j).2))/\Far (CP w m I) p x) ⟨d' bJ,d' bL,d' bK⟩ ?_;clear cx cy bJ bL bK;rintro cA ⟨ah,bM,bN⟩;have bO:=ah.keptAt s z (g:=g) (o:=o) (cap:=ak) (j:=j) (by simp only[Mq.Qn,BL];exact d' av) (y:=(aa,tk)) (by simp only[Mq.Qn];rw[d' F];simp only;rw[List.getElem?_set_self (by rw[BL];exact H)]);simp only[Mq.Qn,BL]at bO;obtain⟨d0,d1,J,Z,aJ,c0,c1,aq,ab⟩:=bO;have bP:=y' ah;have bQ:=y' bN;have ba:=y' bM;clear ah bM bN;obtain⟨aO,bb⟩:=exq (Qb.bytes 3 c.Qa s ((c.fl s).base+1+j:Nat) aa.data.toList);have cB:=y' bb;have bc:=λp=>y' (DH 3 c.Qa s ((c.fl s).base+1+j:Nat) aa p (nY cb z (by omega) (by have:=(d' bk) s z;omega) (d' cn)));rw[<-bb,show(((c.fl s).base+1+j:Nat):Int)=((c.fl s).base:Int)+1+j by omega]at bc;clear bb;have bR:IntKind.i64.wrap (((c.fl s).base:Int)+1)=((c.fl s).base:Int)+1:=(by rw[z28];omega);have bS:IntKind.i64.wrap (((c.fl s).base:Int)+1+j)=((c.fl s).base:Int)+1+j:=(by rw[z28];omega);refine AI
          [Ep w 0,Ep w 0,Ep w 0,Ei c.Qa,Ei s,Ep w (5+s * 3),Ep w (5+s * 3),Ep w (5+s * 3),Ei ((c.fl s).base),Ei (((c.fl s).base:Int)+1),Ei j,Ei (((c.fl s).base:Int)+1+j),Ep w (5+s * 3),Ep w (5+s * 3),Ep w (5+s * 3+1),Ev (.slice (some ⟨g,o,none⟩) (c.fl s).kept.length ak),Ei j,Ep g (o+j * 2),Ep g (o+j * 2),Ev (.string aa),Ev (.agg #[Ej 3,Ej c.Qa,Ej s,Ej (((c.fl s).base:Int)+1+j),.string aa]),Ev (.string ⟨aO.toArray⟩),Ev (.string ⟨aO.toArray⟩)]
          [[0],[1107],[2108],[3109],[5],[6],[6112],[7113],[8114],[9115],[7],[10116,11117],[6],[13119],[14120],[15121],[7],[16122,17123],[18124],[19125],[4110,5111,12118,20126],[21127],[22128]]
          [108,109,110,111,112,113,114,115,116,117,118,119,120,121,122,123,124,125,126,127,128,129,11]
          [10,1,96,22,999] ?_ ?_
         .refine⟨?_,?_,?_,?_,?_,?_,?_,?_,?_,?_,?_,?_,?_,?_,?_,?_,?_,?_,?_,?_,?_,?_,?_,trivial⟩;all_goals
           intro b x hb ac;have cQ:=Bc hb ab d0;have cs:=Bc hb ab d1;have cu:=Bc hb ab c0;have cR:=Bc hb aq J;clear hb d0 d1 J Z c0 c1;simp[J']at ac;try go_simp
           try exact z11 _ _
          all_goals first
           |exact⟨rfl,z11 _ _⟩
           |(rw[bR];exact⟨rfl,z11 _ _⟩)
           |(rw[bS];exact⟨rfl,z11 _ _⟩)
           |(refine Cm (bc _) ?_;rintro y w1 ⟨rfl,cC⟩;exact⟨rfl,cC⟩)
         intro f7 aC hb aB;simp only[AJ]at aB;obtain⟨_,_,_,_,_,_,_,_,_,_,_,_,_,_,_,_,_,_,_,_,_,_,bT,_⟩:=aB;have aP:Far (λ_=>False) cA aC:=I' hb;have cD:=y' ((d' bP).far aP Ih);have bU:=y' ((d' bQ).trans aP (λ_ _ h=>h.elim));have bV:=y' (Q' (w':=aC) (d' ba) (λk M=>aP.rest k (z14 (d' ba) k M).2 (λh=>h)));clear hb aP bP bQ ba d0 d1 J Z aJ c0 c1 aq ab bc bR bS;simp only[V',bT];clear bT;go_wp2_with (at_builtin;refine z67 _ rfl (.tmp 129) (.tmp 131) 33 rfl p.heap.size 9 i0 (.string ⟨#[]⟩) 1 16 underlying33 hi ce cf cg rfl (by decide) u3 n2 (KN (Zl c.Qa tk c.fl s++(Mq.sendTo c.Qa s (c.fl s) tk j).2)) rfl ((d' bV).alloc _) ⟨aC.heap.size,0,none⟩ 1 1 [.string ⟨aO.toArray⟩] rfl rfl AW (by intro u hu;simp at hu;subst hu;rfl) (by unfold maxLen;omega) (by omega) (by have:=(d' bU).size;simp;omega) ?_;intro v' cS bd bW _;rw[<-xL]at bd;have bX:=(λg cE=>(z14 (d' bV) g cE).1);have bY:=(I' (E:=λk=>u3.ownBlock=some k) ((z11 aC.heap.size aC).alloc (z16 _) (.cells #[.string ⟨aO.toArray⟩] 9))).trans (BU bW) Ih;have cF:=y' bd;have bZ:=y' bY;have ca:=y' bX;clear bd bW bY bX);go_roundw
         case rel=>have cG:∀k,CP w m I k->¬u3.ownBlock=some k:=λk M e=>(by have h1:=(d' ca) k e;have h2:=(d' bh).lt k M;omega);refine⟨j+1,n2+1,by omega,by omega,by go_num,by omega,?_,(d' cD).far (d' bZ) cG,(d' bU).trans (d' bZ) (λk M e=>by have h1:=(d' ca) k e;omega)⟩;rw[d' F,<-z39,<-d' cB];exact d' cF
         case measure=>simp[intOf];omega
      rw[aA]at Y ax;have F:=y' ((d' br) (by rw[d' ax];simp));clear aA J aX;go_wp2_with (go_at_call 187;refine Cm Y ?_;rintro y w1 ⟨rfl,bz,rfl⟩);go_roundw
      case rel=>refine⟨j+1,n2,by omega,by omega,by go_num,by omega,?_,?_,(d' Q).trans (fbF (z36 (z11 _ _) _)) (λ_ _ h=>h.elim)⟩;rw[d' F];exact d' V;rw[d' F];exact(d' G).far (fbF (z36 (z11 _ _) _)) Ih
      case measure=>simp[intOf];omega
     have cH:j=4:=(by omega);have F:=y' (KU (e:=c.Qa) (s:=s) (f:=c.fl s) (t:=tk) (.inr cH) (by omega));have aj:=G;have be:=Q;have aD:=V;rw[<-d' F]at aj aD;rw[<-VF]at aj;clear G Q V Y aI au;go_wp2;go_roundw
     case rel=>exact⟨s+1,n2,by omega,by go_num,by omega,d' aD,d' aj,d' be⟩
     case measure=>simp[intOf];omega
    have F:=y' (KU (e:=c.Qa) (s:=s) (f:=c.fl s) (t:=tk) (i:=j) (.inl (by omega)) (by omega));have aj:=G;have be:=Q;have aD:=V;rw[<-d' F]at aj aD;rw[<-VF]at aj;clear G Q V Y aI au;go_wp2;go_roundw
    case rel=>exact⟨s+1,n2,by omega,by go_num,by omega,d' aD,d' aj,d' be⟩
    case measure=>simp[intOf];omega
  have bo:s=3:=by omega
  subst bo;have aF:=y' R;have aG:=y' hF;have aH:=y' ad;clear R hF ad;go_wp2;go_ret;rw[<-d' bn];exact⟨_,n,rfl,d' aH,DN (d' aF) (d' aG)⟩
theorem ay' (B:Nat) (l:List UInt8):CL (λv w=>Ji B w v l):=by
 intro v w w' h hb;exact h.keep (λg O z _ _=>(hb.block g (z12 z)).trans z)
def mkL (k:Nat) (xs:List Value) (u:Value):List Value:=List.replicate k u++xs.drop k
theorem Ay (xs:List Value) (u:Value):mkL 0 xs u=xs:=by simp[mkL]
theorem Gb (xs:List Value) (u:Value):mkL xs.length xs u=List.replicate xs.length u:=by simp[mkL]
theorem Gc (u:Value) (h:w < C.length):(mkL w C u).set w u=mkL (w+1) C u:=by
 unfold mkL;rw[Kb _ _ (by simp),z57,Fy,Ga h,List.set_cons_zero,List.replicate_succ',z39];rfl
theorem Gd (u:Value) (h:w < C.length):(mkL w C u)[w]? =some C[w]:=by
 unfold mkL;rw[z27 (by simp),z57,Fy,z82,zQ,z17 h]
theorem PS {i:Nat} (h:p.ownsRow 0 j 1 (Es w 0 a q) a C) (u:Value):
  (p.setCell ⟨w,i,none⟩ u).ownsRow 0 j 1 (Es w 0 a q) a (C.set i u)/\Far (λk=>(Value.slice (some ⟨w,0,none⟩) a q).ownBlock=some k) p (p.setCell ⟨w,i,none⟩ u):=by
 obtain⟨h1,h2⟩:=World.ownsRow.stored h i u;exact⟨h1,BU h2⟩
theorem kF (p:Nat) (w:World) (aG aH fv:Value) (ai ak:List Value) (l:List UInt8) (m:Int) (t bX:z10)
  (ay:w.heap[p]? =some (.cells #[aG,aH,fv,Ej m,.string t,.string bX] 160 (0,0)))
  (aI:w.ownsRow 0 9 1 aG ai.length ai) (aW:w.ownsRow 0 5 1 aH l.length (bv l)) (aM:w.ownsRow 0 48 1 fv ak.length ak)
  (bY:ai.length<=140737488354000) (cr:l.length<=140737488354000) (z3:ak.length<=140737488354000) (z4:t.size<=3):
  Cp 143 #[.pointer (some ⟨p,0,none⟩)] w λr w'=>Rr r (.tuple #[])/\∃ (Y:List UInt8) (J:List Value),Y.length=l.length/\J.length=ak.length/\
   w'.ownsRow 0 9 1 aG ai.length (List.replicate ai.length (.string t))/\w'.ownsRow 0 5 1 aH l.length (bv Y)/\w'.ownsRow 0 48 1 fv ak.length J/\(∀f∈J,Ji w.heap.size w' f t.data.toList)/\
   Far (λk=>aG.ownBlock=some k\/aH.ownBlock=some k\/fv.ownBlock=some k) w w':=by
 have bw:aG.ownBlock≠some p:=AX aI ay (by decide);have bz:aH.ownBlock≠some p:=AX aW ay (by decide);have bA:fv.ownBlock≠some p:=AX aM ay (by decide);obtain⟨az,aj,bB,bZ,cs,bC⟩:=Row.shape (A:=λ_=>True) ⟨aI,λ_ _=>trivial⟩;obtain⟨F,aX⟩:=exq (ai.length);obtain⟨aa,aY⟩:=exq (ak.length);rw[<-aX]at bB aI bZ bY ⊢;rw[<-aY]at aM z3 ⊢;subst bB;have c0:=Bi 0 ay;simp at c0;have cu:=z12 ay;have aZ:=y' ay;have ba:=y' aI;have aJ:=y' aW;have aB:=y' aM;have ca:=y' bC;have aN:=y' aX;have bb:=y' aY;have bc:=y' bw;have bd:=y' bz;have bD:=y' bA;have n1:F<=9223372036854775807:=by omega
 clear ay aI aW aM bC aX aY bw bz bA c0;go_enter func143,ntmps143;go_wp2;go_loopw[2] (λi wr=>∃k:Nat,k<=F/\i=.int .i64 k/\wr.ownsRow 0 9 1 (.slice az F aj) F (mkL k ai (.string t))/\Far (λk=>(Value.slice az F aj).ownBlock=some k) w wr) (λi _=>F - (intOf i).toNat)
 case atStart=>exact⟨0,by omega,rfl,by rw[Ay];exact d' ba,Far.refl _ _⟩
 case round=>
  obtain⟨k,bE,rfl,z,hF⟩:=hrel;have H:=hF.blk (d' aZ) (d' bc);have c0:=Bi 0 H;have c4:=Bi 4 H;simp at c0 c4;have ao:=z12 H;have be:=y' H;clear H;by_cases bF:k < F
  .have aO:k < ai.length:=(by have:=d' aN;omega);obtain⟨g,rfl,_,_⟩:=(d' ca) (by have:=d' aN;omega);have M:=z59 z k (by omega);rw[Gd _ aO]at M;have aq:=Fr z k;have au:=(z14 z g rfl).2;have I:=y' z;have Q:=y' hF;clear z hF;generalize ai[k]=old at M;go_wp2;refine Z'
    [Ep p 0,Ep p 0,Ep p 0,Ev (.slice (some ⟨g,0,none⟩) F aj),Ei k,Ep p 0,Ep p 0,Ep p 4,Ev (.string t),Ep g k,Et]
    [[0],[1014],[2015],[3016],[2],[0],[6019],[7020],[8021],[4017,5018],[10023,9022]]
    [15,16,17,18,19,20,21,22,23,24,0]
    [14,10,999]
    10 _ rfl rfl ?_ ?_ (hst:=by repeat' (first|exact Y' _|exact ay' _ _|exact aa'|exact trivial|apply z13))
   .refine⟨?_,?_,?_,?_,?_,?_,?_,?_,?_,?_,trivial⟩;all_goals
     intro b x hb aA;have bf:=Bc hb ao c0;have cb:=Bc hb ao c4;have aP:=hb.size;clear hb;simp[J']at aA;try go_simp
     try exact z11 _ _
    all_goals first
     |exact⟨rfl,z11 _ _⟩
   intro f5 V hb av;simp only[AJ,List.take]at av;obtain⟨_,_,_,_,_,_,_,_,cc,cd,_⟩:=av;have bf:=Bc hb au M;have bG:=(hb.frozen (p:=⟨g,k,none⟩) au).trans aq;have ax:Far (λk=>(Value.slice (some ⟨g,0,none⟩) F aj).ownBlock=some k) wr V:=I' hb;have ab:=Q' (w':=V) (d' I) (λg' G=>hb.block g' (z14 (d' I) g' G).2);obtain⟨ac,Z⟩:=PS (i:=k) ab (.string t);rw[Gc _ aO]at ac;have aC:=y' ac;have aD:=y' (((d' Q).trans ax Ih).trans Z Ih);clear hb ax ab ac Z c0 c4 M aq;simp only[V',cc,cd];go_simp;go_wp2;go_roundw
   case rel=>exact⟨k+1,by omega,by go_num,d' aC,d' aD⟩
   case measure=>simp[intOf];omega
  have bg:F=k:=by omega
  subst bg;rw[d' aN,Gb,<-d' aN]at z;have I:=y' z;have Q:=y' hF;have bH:=hF.own (d' aJ) (λg aQ e=>BJ (d' aJ) (d' ba) (by decide) aQ e);have bh:=y' bH;clear z hF bH;obtain⟨aR,aE,bi,ce,cv,bI⟩:=Row.shape (A:=λ_=>True) ⟨by have:=d' aJ;rw[<-AC l]at this;exact this,λ_ _=>trivial⟩;rw[AC]at bi ce;have cf:=y' bI;have bj:=y' bi;have n2:l.length<=9223372036854775807:=by omega
  clear bI bi;rw[d' bj]at bh bd aJ;go_wp2;go_loopw[3] (λi wr=>∃ (k:Nat) (Y:List UInt8),k<=l.length/\i=.int .i64 k/\Y.length=l.length/\wr.ownsRow 0 5 1 (.slice aR l.length aE) l.length (bv Y)/\wr.ownsRow 0 9 1 (.slice az F aj) F (List.replicate F (.string t))/\Far (λk=>(Value.slice az F aj).ownBlock=some k\/(Value.slice aR l.length aE).ownBlock=some k) w wr) (λi _=>l.length - (intOf i).toNat)
  case atStart=>exact⟨0,l,by omega,rfl,rfl,d' bh,d' I,(d' Q).mono (λ_ _ h=>.inl h)⟩
  case round=>
   obtain⟨k,Y,bE,rfl,bJ,z,ad,hF⟩:=hrel;clear bh I Q be;have H:=hF.blk (d' aZ) (λe=>e.elim (d' bc) (d' bd));rw[d' bj]at H;have c1:=Bi 1 H;have c3:=Bi 3 H;simp at c1 c3;have ao:=z12 H;have be:=y' H;have bk:=y' bJ;clear H bJ;by_cases bF:k < l.length
   .obtain⟨g,rfl,_,_⟩:=(d' cf) (by rw[AC];omega);have M:=z59 z k (by omega);rw[JW (by have:=d' bk;omega)]at M;have aq:=Fr z k;have au:=(z14 z g rfl).2;have cg:Hid (∀g',(Value.slice az F aj).ownBlock=some g'->¬ (Value.slice (some ⟨g,0,none⟩) l.length aE).ownBlock=some g'):=λg' G e=>BJ ad z (by decide) G e;have I:=y' z;have ah:=y' ad;have Q:=y' hF;clear z hF ad;generalize ((Y.getD k 0).toNat:Int)=old at M;have bK:=UW m k;have cw:(k:Int) < 9223372036854775808:=(by omega);go_wp2;refine Z'
     [Ep p 0,Ep p 0,Ep p 1,Ev (.slice (some ⟨g,0,none⟩) l.length aE),Ei k,Ep p 0,Ep p 0,Ep p 3,Ei m,Ei k,Ev (.int .u8 (gW m k)),Ep g k,Et]
     [[0],[1033],[2034],[3035],[3],[0],[6038],[7039],[8040],[3],[9041,10042],[4036,5037],[12044,11043]]
     [34,35,36,37,38,39,40,41,42,43,44,45,0]
     [33,12,999]
     12 _ rfl rfl ?_ ?_ (hst:=by repeat' (first|exact Y' _|exact ay' _ _|exact aa'|exact trivial|apply z13))
    .refine⟨?_,?_,?_,?_,?_,?_,?_,?_,?_,?_,?_,?_,trivial⟩;all_goals
      intro b x hb aA;have cx:=Bc hb ao c1;have cy:=Bc hb ao c3;have aP:=hb.size;clear hb;simp[J']at aA;try go_simp
      try exact z11 _ _
     all_goals first
      |exact⟨rfl,z11 _ _⟩
      |(refine(nC _ _ _).mono ?_;rintro r w1 ⟨rfl,rfl⟩;exact⟨rfl,z11 _ _⟩)
    intro f5 V hb av;simp only[AJ,List.take]at av;obtain⟨_,_,_,_,_,_,_,_,_,_,ch,ci,_⟩:=av;have bf:=Bc hb au M;have bG:=(hb.frozen (p:=⟨g,k,none⟩) au).trans aq;have ax:Far (λ_=>False) wr V:=I' hb;have ab:=Q' (w':=V) (d' I) (λg' G=>hb.block g' (z14 (d' I) g' G).2);have aF:=Q' (w':=V) (d' ah) (λg' G=>hb.block g' (z14 (d' ah) g' G).2);obtain⟨ac,Z⟩:=PS (i:=k) ab (.int .u8 (gW m k));rw[<-Kj _ _ _ bK.1 bK.2]at ac;have aK:=Z.own aF (λg' G=>(d' cg) g' G);have aC:=y' ac;have aS:=y' aK;have aD:=y' (((d' Q).trans ax (λ_ _ h=>h.elim)).trans Z (λ_ _ h=>.inr h));clear hb ax ab aF ac aK Z c1 c3 M aq;simp only[V',ch,ci];go_simp;go_wp2;go_roundw
    case rel=>exact⟨k+1,_,by omega,by go_num,by have:=d' bk;simp;omega,d' aC,d' aS,d' aD⟩
    case measure=>simp[intOf];omega
   have I:=y' z;have ah:=y' ad;have Q:=y' hF;have bL:=hF.own (d' aB) (λg aQ e=>e.elim (λe=>BJ (d' aB) (d' ba) (by decide) aQ e) (λe=>BJ (d' aB) (d' aJ) (by decide) aQ e));have bl:=y' bL;clear z hF ad bL;obtain⟨bM,bm,bn,cj,cz,bo⟩:=Row.shape (A:=λ_=>True) (show Row (λ_=>True) w 48 fv ak from⟨by have:=d' aB;rw[d' bb]at this;exact this,λ_ _=>trivial⟩);rw[<-d' bb]at bn cj bo;have ck:=y' bo;have bp:=y' bn;have cA:aa<=9223372036854775807:=(by omega);clear bo bn;rw[d' bp]at bl bD aB;go_wp2;go_loopw[4] (λi wr=>∃ (k:Nat) (J:List Value),k<=aa/\i=.int .i64 k/\J.length=aa/\(∀j (hj:j < J.length),j < k->Ji w.heap.size wr J[j] t.data.toList)/\wr.ownsRow 0 48 1 (.slice bM aa bm) aa J/\(∃Y:List UInt8,Y.length=l.length/\wr.ownsRow 0 5 1 (.slice aR l.length aE) l.length (bv Y))/\wr.ownsRow 0 9 1 (.slice az F aj) F (List.replicate F (.string t))/\Far (λk=>(Value.slice az F aj).ownBlock=some k\/(Value.slice aR l.length aE).ownBlock=some k\/(Value.slice bM aa bm).ownBlock=some k) w wr) (λi _=>aa - (intOf i).toNat)
   case atStart=>exact⟨0,ak,by omega,rfl,(d' bb).symm,λj hj h=>absurd h (by omega),d' bl,⟨Y,d' bk,d' I⟩,d' ah,(d' Q).mono (λ_ _ h=>h.elim .inl (λh=>.inr (.inl h)))⟩
   case round=>
    obtain⟨k,J,bE,rfl,bN,bO,z,aT,ad,hF⟩:=hrel;clear bl I ah Q be;have H:=hF.blk (d' aZ) (λe=>e.elim (d' bc) (λe=>e.elim (d' bd) (d' bD)));rw[d' bp]at H;have c2:=Bi 2 H;have c4:=Bi 4 H;simp at c2 c4;have ao:=z12 H;have aU:=y' bN;have bP:=y' bO;clear H bN bO;by_cases bF:k < aa
    .obtain⟨g,rfl,_,_⟩:=(d' ck) (by omega);have aO:k < J.length:=(by have:=d' aU;omega);have M:=z59 z k (by omega);rw[z17 aO]at M;have aq:=Fr z k;have au:=(z14 z g rfl).2;have cl:Hid (g < w.heap.size):=(z14 (d' aB) g rfl).2;have I:=y' z;have bq:=y' aT;have ah:=y' ad;have Q:=y' hF;clear z hF ad aT;generalize J[k]=old at M;go_wp2;refine Z'
      [Ep p 0,Ep p 0,Ep p 2,Ev (.slice (some ⟨g,0,none⟩) aa bm),Ei k,Ep p 0,Ep p 0,Ep p 4,Ev (.string t),λv x=>Ji wr.heap.size x v t.data.toList,Ep g k,Et]
      [[0],[1054],[2055],[3056],[4],[0],[6059],[7060],[8061],[9062],[4057,5058],[11064,10063]]
      [55,56,57,58,59,60,61,62,63,64,65,0]
      [54,11,999]
      11 _ rfl rfl ?_ ?_ (hst:=by repeat' (first|exact Y' _|exact ay' _ _|exact aa'|exact trivial|apply z13))
     .refine⟨?_,?_,?_,?_,?_,?_,?_,?_,?_,?_,?_,trivial⟩;all_goals
       intro b x hb aA;have cB:=Bc hb ao c2;have cb:=Bc hb ao c4;obtain⟨cC,cD,cE,cF,bQ,bR⟩:=NJ x t (by omega);have aP:=hb.size;clear hb;simp[J']at aA;try go_simp
       try exact z11 _ _
      all_goals first
       |exact⟨rfl,z11 _ _⟩
       |exact⟨_,rfl,bQ.mono aP⟩
       |exact⟨⟨_,rfl,bQ.mono aP⟩,bR⟩
       |exact bR
     intro f5 V hb av;simp only[AJ,List.take]at av;obtain⟨_,_,_,_,_,_,_,_,_,br,cm,_⟩:=av;obtain⟨cG,cH,cI,cJ,bS,_⟩:=id br;have bf:=Bc hb au M;have bG:=(hb.frozen (p:=⟨g,k,none⟩) au).trans aq;have ax:Far (λ_=>False) wr V:=I' hb;have ab:=Q' (w':=V) (d' I) (λg' G=>hb.block g' (z14 (d' I) g' G).2);have aF:=Q' (w':=V) (d' ah) (λg' G=>hb.block g' (z14 (d' ah) g' G).2);obtain⟨bt,aV,aL⟩:=d' bq;have bu:=Q' (w':=V) aL (λg' G=>hb.block g' (z14 aL g' G).2);obtain⟨ac,Z⟩:=PS (i:=k) ab (f5 63);have aK:=Z.own aF (λg' G e=>BJ aF ab (by decide) G e);have bT:=Z.own bu (λg' G e=>BJ bu ab (by decide) G e);have cn:=(d' Q).size;have bU:Hid (∀j (hj:j < (J.set k (f5 63)).length),j < k+1->Ji w.heap.size (V.setCell ⟨g,k,none⟩ (f5 63)) (J.set k (f5 63))[j] t.data.toList):=by intro j hj cK;have bV:∀g' O,V.heap[g']? =some O->w.heap.size<=g'->(∃C fr,O=.cells C 5 fr)->(V.setCell ⟨g,k,none⟩ (f5 63)).heap[g']? =some O:=λg' O h1 h2 _=>(AG (by have:=d' cl;omega)).trans h1;by_cases cp:j=k;subst cp;rw[List.getElem_set_self];exact(br.mono cn).keep bV;rw[List.getElem_set_ne (by omega)];exact(((d' bP) j (by simpa using hj) (by omega)).keep (λg' O h1 _ _=>(hb.block g' (z12 h1)).trans h1)).keep bV
     have aC:=y' ac;have aS:=y' aK;have bW:=y' bT;have cq:=y' aV;have aD:=y' (((d' Q).trans ax (λ_ _ h=>h.elim)).trans Z (λ_ _ h=>.inr (.inr h)));rw[bS]at aC aS bW aD bU br;clear hb ax ab aF aL bu ac aK bT Z c2 c4 M aq aV;simp only[V',bS,cm];go_simp;go_wp2;go_roundw
     case rel=>exact⟨k+1,_,by omega,by go_num,by have:=d' aU;rw[Fw];exact this,d' bU,d' aC,⟨bt,d' cq,d' bW⟩,d' aS,d' aD⟩
     case measure=>simp[intOf];omega
    have bg:aa=k:=(by omega);subst bg;have I:=y' z;have bq:=y' aT;have ah:=y' ad;have Q:=y' hF;clear z hF ad aT;go_wp2;refine z74 (z64 rfl _ _ _) rfl ?_;obtain⟨bt,aV,aL⟩:=d' bq;rw[d' bj,d' bp];refine⟨rfl,bt,J,aV,d' aU,d' ah,aL,d' I,λf aA=>?_,d' Q⟩;obtain⟨j,hj,rfl⟩:=z79.1 aA;exact(d' bP) j hj (by have:=d' aU;omega)
structure VG (Ok:Nat->Nat->Prop) (E:Nat->Prop) (w x:World) (wb pk:Nat) (as_ ss hv0 t0 b0 f0 hv tv bk fv:Value) (hs:List Nat) (m:Int) (t:z10) (l:List UInt8) (fs:List Value) (k:Nat):Prop where
 wbk:x.heap[wb]? =some (.cells #[as_,ss,hv] 91 (0,0))
 row:x.ownsRow 0 158 1 hv hs.length (hs.map C')
 pb:x.heap[pk]? =some (.cells #[tv,bk,fv,Ej m,.string t,.string ⟨l.toArray⟩] 160 (0,0))
 rt:x.ownsRow 0 9 1 tv k (List.replicate k (.string t))
 rb:x.ownsRow 0 5 1 bk l.length (bv l)
 rf:x.ownsRow 0 48 1 fv fs.length fs
 holds:∀q∈hs,Zs (λb o=>MZ x.heap.size (Us wb hv) tv k bk l.length fv fs.length b o/\Ok b o) x q
 Ym:∀f∈fs,BAt (λb o=>MZ x.heap.size (Us wb hv) tv k bk l.length fv fs.length b o/\Ok b o) x f t.data.toList
 far:Far E w x
 lh:Loc w hv0 hv
 lt:Loc w t0 tv
 lb:Loc w b0 bk
 lf:Loc w f0 fv
theorem Mid.hold2
  (G:Mid p f w a l #[aI,aM,aP,Ej o,.string z,.string ⟨aR.toArray⟩] y C u r R aO aI (List.replicate q (.string z)) aM aR aP bB) (F:Nat->Nat->Prop) (H:∀i,F a i)
  (h1:∀g,aI.ownBlock=some g->∀i,i < q->F g i) (h2:∀g,aM.ownBlock=some g->∀i,i < aR.length->F g i) (h3:∀g,aP.ownBlock=some g->∀i,i < bB.length->F g i) (I:∀J∈bB,BAt F f J z.data.toList):Zs F f a:=
 ⟨aI,aM,aP,q,aR,bB,o,z,λi _=>H i,λi _=>D' G.qb,ON G.t2 λg M i hi=>h1 g M i (by simpa using hi),CM G.b2 h2,ON G.f2 h3,I⟩
theorem Kq (z:Nat->Nat->Prop) (h:Ji w p y r) (F:∀g C fr,w<=g->p.heap[g]? =some (.cells C 5 fr)->∀i,z g i):BAt z p y r:=by
 obtain⟨g,cap,C,fr,rfl,h1,h2,h3,h4,h5⟩:=h;refine⟨_,cap,rfl,h2,h3,λ_=>⟨g,0,rfl,λi _=>F g C fr h1 h4 _,λi hi=>?_⟩⟩;rw[z45,D' h4];exact h5 i hi
theorem VG.next
  (T:VG aW N p f w a y u R aI aM aP aJ bM bN bV k o z r C b)
  (G:Mid f B a q #[bM,bN,bV,Ej o,.string z,.string ⟨r.toArray⟩] #[bS,bO,cA,Ej o,.string z,.string ⟨(r++[aG]).toArray⟩] bM (List.replicate b (.string z)) bN r bV C bS (List.replicate b (.string z)++[.string z]) bO (r++[aG]) cA (C++[dD]))
  (aK:∃ac,f.heap.size<=ac/\(∀g,bO.ownBlock=some g->g < ac)/\Ji ac B dD z.data.toList)
  (A:Eh B w #[y,u,aJ] 91->B.ownsRow 0 158 1 aJ (k.map C').length (k.map C')->Add B cX w y u aJ cO (k.map C'++[C' q]))
  (Z:∀b,b < p.heap.size->(Us w R b\/aI.ownBlock=some b\/aM.ownBlock=some b\/aP.ownBlock=some b)->N b)
  (aa:∀aG F,(p.heap.size<=aG\/aI.ownBlock=some aG\/aM.ownBlock=some aG\/aP.ownBlock=some aG)->aW aG F):VG aW N p cX w q y u R aI aM aP cO bS bO cA (k++[q]) o z (r++[aG]) (C++[dD]) (b+1):=by
 have aL:f.ownsRow 0 9 1 bM (List.replicate b (Value.string z)).length (List.replicate b (Value.string z)):=by rw[z57];exact T.rt
 have aN:f.ownsRow 0 5 1 bN (bv r).length (bv r):=by rw[AC];exact T.rb
 have M':=G;rw[XJ]at M';have ao:bM.ownBlock≠some w:=AX T.rt T.wbk (by decide);have aq:bN.ownBlock≠some w:=AX T.rb T.wbk (by decide);have au:bV.ownBlock≠some w:=AX T.rf T.wbk (by decide);have av:∀g,aJ.ownBlock=some g->bM.ownBlock≠some g:=λg H=>BJ T.row T.rt (by decide) H;have ax:∀g,aJ.ownBlock=some g->bN.ownBlock≠some g:=λg H=>BJ T.row T.rb (by decide) H;have ay:∀g,aJ.ownBlock=some g->bV.ownBlock≠some g:=λg H=>BJ T.row T.rf (by decide) H;have az:=(G.rest w (z12 T.wbk) ao aq au).trans T.wbk;have aA:B.ownsRow 0 158 1 aJ k.length (k.map C'):=Q' T.row (λg H=>G.rest g (z14 T.row g H).2 (av g H) (ax g H) (ay g H));have J:=A az (by rw[z42];exact aA);have V:∀g,Us w aJ g->g < f.heap.size:=λg H=>H.elim (λe=>e ▸ z12 T.wbk) (λe=>(z14 T.row g e).2);have u1:∀g,Us w aJ g->bM.ownBlock≠some g:=λg H=>H.elim (λe=>e ▸ ao) (av g);have u2:∀g,Us w aJ g->bN.ownBlock≠some g:=λg H=>H.elim (λe=>e ▸ aq) (ax g);have u3:∀g,Us w aJ g->bV.ownBlock≠some g:=λg H=>H.elim (λe=>e ▸ au) (ay g)
 -- from x to X
 have aB:=G.calm (Us w aJ) aL aN T.rf;have aC:=G.more (Us w aJ) (by simp) (by simp) (by simp);simp only[List.length_append,List.length_replicate,List.length_cons,List.length_nil,Nat.zero_add]at aB aC;have aD:∀aG F,(MZ f.heap.size (Us w aJ) bM b bN r.length bV C.length aG F/\aW aG F)->B.cell? (Ea aG F)=f.cell? (Ea aG F):=λaG F h=>aB aG F h.1;have aE:∀aG F,(MZ f.heap.size (Us w aJ) bM b bN r.length bV C.length aG F/\aW aG F)->(MZ B.heap.size (Us w aJ) bS (b+1) bO (r.length+1) cA (C.length+1) aG F/\aW aG F):=λaG F h=>⟨aC aG F h.1,h.2⟩;have aF:∀aG F,f.heap.size<=aG->aW aG F:=λaG F h=>aa aG F (.inl (z26 T.far.size h));have ad:∀ {u0 ah u2:Value},Loc p u0 ah->Loc f ah u2->(∀aG,u0.ownBlock=some aG->∀F,aW aG F)->∀aG,u2.ownBlock=some aG->∀F,aW aG F:=by intro u0 ah u2 h1 h2 h0 aG hb F;rcases FO h1 h2 T.far.size with h|h|⟨g,h,H⟩;rw[h]at hb;cases hb;exact h0 aG (h ▸ hb) F;rw[h]at hb;injection hb with hb;exact aa aG F (.inl (by omega))
 have aO:∀Y∈k,Zs (λaG F=>MZ B.heap.size (Us w aJ) bS (b+1) bO (r.length+1) cA (C.length+1) aG F/\aW aG F) B Y:=λY M=>((T.holds Y M).keep aD).mono aE;have aQ:¬Us w aJ q:=λe=>by have:=V q e;have:=G.qnew;omega
 have aH:∀ab∈C++[dD],BAt (λaG F=>MZ B.heap.size (Us w aJ) bS (b+1) bO (r.length+1) cA (C.length+1) aG F/\aW aG F) B ab z.data.toList:=by intro ab Q;rcases z55.1 Q with Q|Q;exact((T.Ym ab Q).keep aD).mono aE;rw[z51]at Q;subst Q;obtain⟨ac,ba,aR,aS⟩:=aK;exact Kq _ aS (λg bb fr H hb i=>⟨⟨z12 hb,λhu=>by have:=V g hu;omega,λe=>absurd e (AX G.t2 hb (by decide)),λe=>by have:=aR g e;omega,λe=>absurd e (AX G.f2 hb (by decide))⟩,aF g i (by omega)⟩)
 have aT:Zs (λaG F=>MZ B.heap.size (Us w aJ) bS (b+1) bO (r.length+1) cA (C.length+1) aG F/\aW aG F) B q:=by refine Mid.hold2 M' _ (λi=>⟨⟨z12 G.qb,aQ,λe=>absurd e (AX G.t2 G.qb (by decide)),λe=>absurd e (AX G.b2 G.qb (by decide)),λe=>absurd e (AX G.f2 G.qb (by decide))⟩,aF q i G.qnew⟩) ?_ ?_ ?_ (by simpa using aH);intro g H i hi;exact⟨⟨(z14 G.t2 g H).2,λhu=>jU G.lt V u1 g hu H,λ_=>hi,λe=>absurd e (BJ G.t2 G.b2 (by decide) H),λe=>absurd e (BJ G.t2 G.f2 (by decide) H)⟩,ad T.lt G.lt (λaG hb F=>aa aG F (.inr (.inl hb))) g H i⟩;intro g H i hi;exact⟨⟨(z14 G.b2 g H).2,λhu=>jU G.lb V u2 g hu H,λe=>absurd e (BJ G.b2 G.t2 (by decide) H),λ_=>by simpa using hi,λe=>absurd e (BJ G.b2 G.f2 (by decide) H)⟩,ad T.lb G.lb (λaG hb F=>aa aG F (.inr (.inr (.inl hb)))) g H i⟩;intro g H i hi;exact⟨⟨(z14 G.f2 g H).2,λhu=>jU G.lf V u3 g hu H,λe=>absurd e (BJ G.f2 G.t2 (by decide) H),λe=>absurd e (BJ G.f2 G.b2 (by decide) H),λ_=>by simpa using hi⟩,ad T.lf G.lf (λaG hb F=>aa aG F (.inr (.inr (.inr hb)))) g H i⟩
 have bc:=G.qnew;have aU:¬Us w aJ q:=λe=>by have:=V q e;omega
 have ai:∀ {e:TypeId} {v:Value} {n:Nat} {xs:List Value},B.ownsRow 0 e 1 v n xs->e≠158->e≠91->cX.ownsRow 0 e 1 v n xs:=by intro e v n xs aj aV aX;refine J.far.own aj (λg H hu=>?_);rcases hu with rfl|hu;exact AX aj az aX H;exact BJ aj aA aV H hu
 refine⟨J.blk,?_,J.far.blk G.qb aU,?_,?_,ai G.f2 (by decide) (by decide),?_,?_,?_,?_,?_,?_,?_⟩;have:=J.row;simpa using this;have:=ai M'.t2 (by decide) (by decide);simpa using this;have:=ai G.b2 (by decide) (by decide);rw[AC]at this;exact this;intro Y M;have aY:Zs (λaG F=>MZ B.heap.size (Us w aJ) bS (b+1) bO (r.length+1) cA (C.length+1) aG F/\aW aG F) B Y:=by rcases z55.1 M with M|M;exact aO Y M;rw[z51]at M;exact M ▸ aT
 have:=(aY.keep (λaG F h=>gZ J.far aG F h.1)).mono (λaG F h=>(⟨nF J.far.size J.loc aG F h.1,h.2⟩:MZ cX.heap.size (Us w cO) bS (b+1) bO (r.length+1) cA (C.length+1) aG F/\aW aG F));simpa using this;intro ab Q;have:=((aH ab Q).keep (λaG F h=>gZ J.far aG F h.1)).mono (λaG F h=>(⟨nF J.far.size J.loc aG F h.1,h.2⟩:MZ cX.heap.size (Us w cO) bS (b+1) bO (r.length+1) cA (C.length+1) aG F/\aW aG F));simpa using this;have aZ:Far N p B:=by refine T.far.trans (E':=λg=>bM.ownBlock=some g\/bN.ownBlock=some g\/bV.ownBlock=some g) ⟨G.os,G.tape,G.output,G.size,λg H I=>G.rest g H (λe=>I (.inl e)) (λe=>I (.inr (.inl e))) (λe=>I (.inr (.inr e)))⟩ ?_;intro g H I;rcases I with I|I|I;rcases T.lt with h|h|⟨g',h,ak⟩;rw[h]at I;cases I;exact Z g H (.inr (.inl (h ▸ I)));rw[h]at I;injection I with I;omega;rcases T.lb with h|h|⟨g',h,ak⟩;rw[h]at I;cases I;exact Z g H (.inr (.inr (.inl (h ▸ I))));rw[h]at I;injection I with I;omega;rcases T.lf with h|h|⟨g',h,ak⟩;rw[h]at I;cases I;exact Z g H (.inr (.inr (.inr (h ▸ I))));rw[h]at I;injection I with I;omega
 refine aZ.trans J.far ?_;intro g H I;rcases I with I|I;exact Z g H (.inl (.inl I));rcases T.lh with h|h|⟨g',h,ak⟩;rw[h]at I;cases I;exact Z g H (.inl (.inr (h ▸ I)));rw[h]at I;injection I with I;omega;exact FO T.lh J.loc (z26 T.far.size G.size);exact FO T.lt G.lt T.far.size;exact FO T.lb G.lb T.far.size;exact FO T.lf G.lf T.far.size
theorem VG.mid
  (T:VG aW N p f w a y u R aI aM aP aJ cO bM bN k o z r aO b) (G:Mid f B a q l aN cO (List.replicate b (.string z)) bM r bN aO bV C bS aR bO bB):
  Eh B w #[y,u,aJ] 91/\B.ownsRow 0 158 1 aJ (k.map C').length (k.map C'):=by
 refine⟨(G.rest w (z12 T.wbk) (AX T.rt T.wbk (by decide)) (AX T.rb T.wbk (by decide)) (AX T.rf T.wbk (by decide))).trans T.wbk,?_⟩;rw[z42];exact Q' T.row (λg F=>G.rest g (z14 T.row g F).2 (BJ T.row T.rt (by decide) F) (BJ T.row T.rb (by decide) F) (BJ T.row T.rf (by decide) F))
structure Zo (w x:World) (p wb:Nat) (cp:Array Value) (as_ ss hv:Value) (hs:List Nat) (tv:Value) (ts:List Value) (bk:Value) (l:List UInt8) (fv:Value) (fs:List Value):Prop where
 pb:x.heap[p]? =some (.cells cp 160 (0,0))
 wbk:x.heap[wb]? =some (.cells #[as_,ss,hv] 91 (0,0))
 row:x.ownsRow 0 158 1 hv hs.length (hs.map C')
 rt:x.ownsRow 0 9 1 tv ts.length ts
 rb:x.ownsRow 0 5 1 bk l.length (bv l)
 rf:x.ownsRow 0 48 1 fv fs.length fs
 far:Far (λk=>k=p\/tv.ownBlock=some k\/bk.ownBlock=some k\/fv.ownBlock=some k) w x
section
variable {w x y:World} {p wb:Nat} {cp:Array Value} {as_ ss hv tv bk fv:Value} {hs:List Nat} {ts fs:List Value} {l:List UInt8}
theorem Zo.set (z:Zo w x p wb cp as_ ss hv hs tv ts bk l fv fs) (j:Nat) (v:Value):Zo w (x.setCell ⟨p,j,none⟩ v) p wb (cp.setIfInBounds j v) as_ ss hv hs tv ts bk l fv fs:=
 ⟨AA z.pb,(AG (Aq z.wbk z.pb (by decide))).trans z.wbk,EK z.row z.pb (by decide),EK z.rt z.pb (by decide),EK z.rb z.pb (by decide),EK z.rf z.pb (by decide),z.far.trans (T' x p j v) (λ_ _ h=>.inl h)⟩
theorem Zo.below (z:Zo w x p wb cp as_ ss hv hs tv ts bk l fv fs) (h:El x y):Zo w y p wb cp as_ ss hv hs tv ts bk l fv fs:=by
 have F:Far (λ_=>False) x y:=I' h;exact⟨F.blk z.pb id,F.blk z.wbk id,F.own z.row (λ_ _=>id),F.own z.rt (λ_ _=>id),F.own z.rb (λ_ _=>id),F.own z.rf (λ_ _=>id),z.far.trans F (λ_ _ h=>h.elim)⟩
theorem Zo.lists {ts2:List Value} (z:Zo w x p wb cp as_ ss hv hs tv ts bk l fv fs) (h:Far (λk=>tv.ownBlock=some k\/bk.ownBlock=some k\/fv.ownBlock=some k) x y)
  (G:y.ownsRow 0 9 1 tv ts2.length ts2) (hb:y.ownsRow 0 5 1 bk r.length (bv r)) (H:y.ownsRow 0 48 1 fv C.length C):Zo w y p wb cp as_ ss hv hs tv ts2 bk r fv C:=
 ⟨h.blk z.pb (λe=>e.elim (AX z.rt z.pb (by decide)) (λe=>e.elim (AX z.rb z.pb (by decide)) (AX z.rf z.pb (by decide)))),
  h.blk z.wbk (λe=>e.elim (AX z.rt z.wbk (by decide)) (λe=>e.elim (AX z.rb z.wbk (by decide)) (AX z.rf z.wbk (by decide)))),
  h.own z.row (λg F e=>e.elim (BJ z.row z.rt (by decide) F) (λe=>e.elim (BJ z.row z.rb (by decide) F) (BJ z.row z.rf (by decide) F))),G,hb,H,z.far.trans h (λ_ _ h=>.inr h)⟩
end
def VH (p z:Nat) (F G H fv:Value) (k:Nat):Prop:=k=p\/(G.ownBlock=some k\/H.ownBlock=some k\/fv.ownBlock=some k)\/Us z F k
theorem Zo.start {A:Nat->Nat->Prop} {w x V:World} {p G Z B:Nat} {ai aj I ad J H fv:Value} {hs:List Nat} {l:List UInt8} {aa:List Value} {m:Int} {t:z10}
  (z:Zo w x p G #[J,H,fv,Ej m,.string t,.string ⟨l.toArray⟩] ai aj I hs J (List.replicate Z (.string t)) H l fv aa) (D:Add x V G ai aj I ad (hs.map C'++[C' p]))
  (aq:∀b o,A b o->b < w.heap.size/\¬VH p G I J H fv b) (aC:∀q∈hs,Zs A w q) (au:∀g,(I.ownBlock=some g\/H.ownBlock=some g)->g < B) (aN:G < B) (aO:w.heap.size<=B) (aD:∀f∈aa,Ji B x f t.data.toList):
  VG (λb o=>A b o\/b=p\/(J.ownBlock=some b\/H.ownBlock=some b\/fv.ownBlock=some b)\/w.heap.size<=b) (VH p G I J H fv) w V G p ai aj I J H fv ad J H fv (hs++[p]) m t l aa Z:=by
 have aE:p≠G:=λe=>Aq z.wbk z.pb (by decide) e.symm;have aF:I.ownBlock≠some p:=AX z.row z.pb (by decide);have aG:J.ownBlock≠some p:=AX z.rt z.pb (by decide);have aH:H.ownBlock≠some p:=AX z.rb z.pb (by decide);have aI:fv.ownBlock≠some p:=AX z.rf z.pb (by decide);have av:¬Us G I p:=λe=>e.elim aE aF;have ax:∀g,J.ownBlock=some g->¬Us G I g:=λg F e=>e.elim (λe=>AX z.rt z.wbk (by decide) (e ▸ F)) (λe=>BJ z.rt z.row (by decide) F e);have ay:∀g,H.ownBlock=some g->¬Us G I g:=λg F e=>e.elim (λe=>AX z.rb z.wbk (by decide) (e ▸ F)) (λe=>BJ z.rb z.row (by decide) F e);have az:∀g,fv.ownBlock=some g->¬Us G I g:=λg F e=>e.elim (λe=>AX z.rf z.wbk (by decide) (e ▸ F)) (λe=>BJ z.rf z.row (by decide) F e);have ak:=D.far.blk z.pb av;have M:=D.far.own z.rt ax;have Y:=D.far.own z.rb ay;have Q:=D.far.own z.rf az;have ab:∀b,b < x.heap.size->¬Us G I b->¬Us G ad b:=by intro b hb hu e;rcases e with e|e;exact hu (.inl e);rcases D.loc with h|h|⟨g,h,F⟩;rw[h]at e;cases e;exact hu (.inr (h ▸ e));rw[h]at e;injection e with e;omega
 have aJ:=z12 z.pb;have ao:Far (VH p G I J H fv) w V:=(z.far.mono (E':=VH p G I J H fv) (λk _ h=>h.elim .inl (λh=>.inr (.inl h)))).trans D.far (λk _ h=>.inr (.inr h));have aK:V.ownsRow 0 9 1 J Z (List.replicate Z (.string t)):=by rw[z57]at M;exact M
 have aA:∀f∈aa,BAt (λb o=>MZ V.heap.size (Us G ad) J Z H l.length fv aa.length b o/\(A b o\/b=p\/(J.ownBlock=some b\/H.ownBlock=some b\/fv.ownBlock=some b)\/w.heap.size<=b)) V f t.data.toList:=by intro f aL;obtain⟨g,cap,C,fr,rfl,h1,h2,h3,h4,h5⟩:=aD f aL;have aB:¬Us G I g:=λe=>e.elim (λe=>by omega) (λe=>by have:=au g (.inl e);omega);have ah:=D.far.blk h4 aB;refine⟨_,cap,rfl,h2,h3,λ_=>⟨g,0,rfl,λi hi=>⟨⟨z12 ah,ab g (z12 h4) aB,λe=>absurd e (AX M ah (by decide)),λe=>by have:=au g (.inr e);omega,λe=>absurd e (AX Q ah (by decide))⟩,.inr (.inr (.inr (by omega)))⟩,λi hi=>?_⟩⟩;rw[z45,D' ah];exact h5 i hi
 refine⟨D.blk,by simpa using D.row,ak,aK,Y,Q,?_,aA,ao,D.loc.mono z.far.size,.inr (.inl rfl),.inr (.inl rfl),.inr (.inl rfl)⟩;intro q ac;rcases z55.1 ac with ac|ac;refine((aC q ac).keep (λb o h=>?_)).mono (λb o h=>?_);obtain⟨h1,h2⟩:=aq b o h;exact z46 (ao.rest b h1 h2);obtain⟨h1,h2⟩:=aq b o h;exact⟨⟨z21 h1 ao.size,ab b (z21 h1 z.far.size) (λe=>h2 (.inr (.inr e))),λe=>absurd (.inr (.inl (.inl e))) h2,λe=>absurd (.inr (.inl (.inr (.inl e)))) h2,λe=>absurd (.inr (.inl (.inr (.inr e)))) h2⟩,.inl h⟩;rw[z51]at ac;subst ac;refine⟨J,H,fv,Z,l,aa,m,t,λi _=>⟨⟨z12 ak,ab q aJ av,λe=>absurd e aG,λe=>absurd e aH,λe=>absurd e aI⟩,.inr (.inl rfl)⟩,λi _=>D' ak,?_,?_,?_,aA⟩;exact ON M λg F i hi=>⟨⟨(z14 M g F).2,ab g (z14 z.rt g F).2 (ax g F),λ_=>by simpa using hi,λe=>absurd e (BJ M Y (by decide) F),λe=>absurd e (BJ M Q (by decide) F)⟩,.inr (.inr (.inl (.inl F)))⟩;have aM:V.ownsRow 0 5 1 H (bv l).length (bv l):=by rw[AC];exact Y
 exact CM aM λg F i hi=>⟨⟨(z14 Y g F).2,ab g (z14 z.rb g F).2 (ay g F),λe=>absurd e (BJ Y M (by decide) F),λ_=>hi,λe=>absurd e (BJ Y Q (by decide) F)⟩,.inr (.inr (.inl (.inr (.inl F))))⟩;exact ON Q λg F i hi=>⟨⟨(z14 Q g F).2,ab g (z14 z.rf g F).2 (az g F),λe=>absurd e (BJ Q M (by decide) F),λe=>absurd e (BJ Q Y (by decide) F),λ_=>hi⟩,.inr (.inr (.inl (.inr (.inr F))))⟩
theorem IV (A:Nat->Nat->Prop) (w:World) (G p:Nat) (J M ac z F fv:Value) (hs:List Nat) (H Q:List Value) (l:List UInt8) (bV:Jm A w G J M ac hs)
  (au:Eh w p #[z,F,fv,Ej 0,.string ⟨#[]⟩,.string ⟨#[]⟩] 160) (bd:w.ownsRow 0 9 1 z H.length H) (aG:w.ownsRow 0 5 1 F l.length (bv l)) (be:w.ownsRow 0 48 1 fv Q.length Q)
  (bf:∀b o,A b o->b < w.heap.size/\¬VH p G ac z F fv b) (cl:hs.length+4<=17592186044416) (cm:l.length<=140737488353990) (z3:H.length<=900) (z4:Q.length<=900):
  Cp 91 #[C' G,C' p] w λr w'=>Rr r (.tuple #[])/\∃aH bg,bg.length=hs.length+4/\Jm (λb o=>(b < w'.heap.size/\¬Us G aH b)/\(A b o\/b=p\/(z.ownBlock=some b\/F.ownBlock=some b\/fv.ownBlock=some b)\/w.heap.size<=b)) w' G J M aH bg/\
   Far (VH p G ac z F fv) w w'/\Loc w ac aH:=by
 obtain⟨av,ax,bh⟩:=bV;have bi:Zo w w p G _ J M ac hs z H F l fv Q:=⟨au,av,ax,bd,aG,be,Far.refl _ _⟩;have bj:Row (λ_=>True) w 158 ac (hs.map C'):=⟨by rw[z42];exact ax,λ_ _=>trivial⟩;obtain⟨V,Y,bk,h1,h2,h3⟩:=bj.shape;rw[z42]at bk;have bl:=y' (z12 av);have bm:=y' (λg ai=>(z14 ax g ai).2);have bn:=y' (λg ai=>(z14 aG g ai).2);subst bk;have bo:=y' bf;have bp:=y' bh;have c2:=Bi 2 av;have aj:=Bi 3 au;have f3:=H' (i:=3) au;simp at c2 aj;have bq:=y' bi;have n1:(hs.length:Int)+1<=9223372036854775807:=by omega
 clear av ax bh bj h1 h2 h3 bf au aG bd be bi;unfold C';go_enter func91,ntmps91;go_upto_region 1 with fail;refine G' (λx=>Zo w x p G #[z,F,fv,Ej (hs.length+1),.string ⟨#[]⟩,.string ⟨#[]⟩] J M (.slice V hs.length Y) hs z H F l fv Q) (by simpa using (d' bq).set 3 (Ej (hs.length+1))) ?_;clear f3 c2 aj bq n1;generalize (hs.length:Int)+1=m;intro cn aI;have aj:=Bi 3 aI.pb;simp at aj;have br:=y' aI;clear aI;go_upto_region 2 with (go_at_call 142;refine(Ak _ _).mono ?_;rintro r aJ ⟨t,rfl,ay,bt⟩;have az:=(d' br).below bt;have bu:=Bi 4 az.pb;have f4:=H' (i:=4) az.pb;simp at bu;have bw:=y' az;have aK:=y' ay;clear az bt ay aj);refine G' (λx=>Zo w x p G #[z,F,fv,Ej m,.string t,.string ⟨#[]⟩] J M (.slice V hs.length Y) hs z H F l fv Q) (by simpa using (d' bw).set 4 (.string t)) ?_;clear bu f4 bw br;intro bz bA;have I:=y' bA;clear bA;go_upto_region 3 with (go_at_call 143;refine(kF p _ z F fv H Q l m t ⟨#[]⟩ (d' I).pb (d' I).rt (d' I).rb (d' I).rf (by omega) (by omega) (by omega) (by have:=d' aK;omega)).mono ?_;rintro r cp ⟨rfl,ad,aA,aL,aM,bB,aN,aO,bC,bD⟩;rw[<-aL]at aN;rw[<-aM]at aO;have bE:=(d' I).lists bD (ts2:=List.replicate H.length (.string t)) (by rw[z57];exact bB) aN aO;have aa:=y' bE;have bW:=y' aL;have bX:=y' aM;have bF:=y' bC;clear bE bD bB aN aO aL aM bC);have bG:=Bi 1 (d' aa).pb;have bH:=Bi 5 (d' aa).pb;have f5:=H' (i:=5) (d' aa).pb;simp at bG bH;have bY:=(CM (A:=λ_ _=>True) (by have:=(d' aa).rb;rw[<-AC ad]at this;exact this) (λ_ _ _ _=>trivial)).str;go_upto_region 4 with fail;refine G' (λx=>Zo w x p G #[z,F,fv,Ej m,.string t,.string ⟨ad.toArray⟩] J M (.slice V hs.length Y) hs z (List.replicate H.length (.string t)) F ad fv aA/\∀f∈aA,Ji bz.heap.size x f t.data.toList) ⟨by simpa using (d' aa).set 5 (.string ⟨ad.toArray⟩),λf bZ=>((d' bF) f bZ).set (d' aa).pb⟩ ?_;clear bG bH f5 bY aa bF;rintro bI ⟨aP,bJ⟩;have c2:=Bi 2 aP.wbk;simp at c2;have Z:=y' aP;have bK:=y' bJ;clear aP bJ;go_upto_region 5 with (at_builtin;(refine DV rfl (.tmp 37) (.tmp 39) 89 rfl 158 (.pointer none) 8 underlying89 Al rfl (.slice V hs.length Y) (hs.map C') (z52 (by rw[z42];exact(d' Z).row) _) rfl ⟨bI.heap.size,0,none⟩ (C' p) rfl (by simp[C']) rfl (by rw[z42];omega) (by rw[z42];omega) ?_;intro v1 w1 aQ ca aR;obtain⟨g1,cb,bL⟩:=BS aQ (by simp);rw[show(hs.map C'++[C' p]).length=hs.length+1 by simp]at bL;subst bL;have D:=Ap (d' Z).wbk (by rw[z42];exact(d' Z).row) aR aQ;have aS:=EW aR (λk aB=>z35 bI _ k aB) (by simp) (d' Z).wbk (AX (d' Z).row (d' Z).wbk (by decide));have bM:=Bi 2 aS;have f21:=H' (i:=2) aS;simp at bM;have ak:=y' D;clear D aS aQ ca aR));refine G' (λx=>VG (λb o=>A b o\/b=p\/(z.ownBlock=some b\/F.ownBlock=some b\/fv.ownBlock=some b)\/w.heap.size<=b) (VH p G (.slice V hs.length Y) z F fv) w x G p J M (.slice V hs.length Y) z F fv (Es g1 0 (hs.length+1) cb) z F fv (hs++[p]) m t ad aA H.length)
  ((d' Z).start (B:=bz.heap.size) (d' ak) (d' bo) (d' bp) (λg ai=>z21 (ai.elim ((d' bm) g) ((d' bn) g)) (d' I).far.size) (z21 (d' bl) (d' I).far.size) (d' I).far.size (d' bK)) ?_
 clear c2 bM f21 ak Z bo bp bK I bl bm bn;intro cq bN;have bO:=y' bN;clear bN;go_wp2;go_loopw[4,5] (λg i wr=>∃ (k aC:Nat) (aD aT aU aV:Value) (ab:List Nat) (ao:List UInt8) (aq:List Value),k<=3/\g=.pointer (some ⟨aC,0,none⟩)/\i=.int .i64 k/\ab.length=hs.length+1+k/\ao.length=l.length+k/\aq.length=Q.length+k/\
  VG (λb o=>A b o\/b=p\/(z.ownBlock=some b\/F.ownBlock=some b\/fv.ownBlock=some b)\/w.heap.size<=b) (VH p G (.slice V hs.length Y) z F fv) w wr G aC J M (.slice V hs.length Y) z F fv aD aT aU aV ab m t ao aq (H.length+k)) (λ_ i _=>3 - (intOf i).toNat)
 case atStart=>exact⟨0,p,_,_,_,_,hs++[p],ad,aA,by omega,rfl,rfl,by simp,d' bW,d' bX,d' bO⟩
 case round=>
  obtain⟨k,aC,aD,aT,aU,aV,ab,ao,aq,aB,rfl,rfl,bP,bQ,bR,T⟩:=hrel;have aE:=y' bP;have cc:=y' bQ;have cd:=y' bR;have ay:=d' aK;have aW:ao.length<=140737488354000:=by omega
  have bS:aq.length<=1000:=by omega
  have aX:t.size<=3:=by omega
  clear bP bQ bR ay aK bO;by_cases cr:k < 3
  .have ce:=y' (sJ aC wr aT aU aV (H.length+k) ao aq m t T.pb T.rt T.rb T.rf (by omega) aW bS aX);have aF:=y' T;clear T aW aX bS;go_upto_region 10 with (go_at_call 144;refine Cm ce ?_;rintro r X ⟨q,cs,cu,cv,v6,b,rfl,aY,N⟩;have aZ:=(d' aF).mid aY;have aJ:=Bi 2 aZ.1;simp at aJ;have ah:=y' aZ;have cf:=y' aY;have cg:=y' N;clear aZ aY N);simp only[C'];go_upto_region 8 with (at_builtin;(refine DV rfl (.tmp 54) (.tmp 56) 89 rfl 158 (.pointer none) 8 underlying89 Al rfl aD (ab.map C') (z52 (d' ah).2 _) rfl ⟨X.heap.size,0,none⟩ (C' q) rfl (by simp[C']) rfl (by rw[z42];have:=d' aE;omega) (by rw[z42];have:=d' aE;omega) ?_;intro cw cx ba ch bb;obtain⟨cy,cz,bT⟩:=BS ba (by simp);rw[show(ab.map C'++[C' q]).length=ab.length+1 by simp]at bT;subst bT;have D:=Ap (d' ah).1 (d' ah).2 bb ba;have bc:=EW bb (λk aB=>z35 X _ k aB) (by simp) (d' ah).1 (AX (d' ah).2 (d' ah).1 (by decide));have bU:=Bi 2 bc;have f27:=H' (i:=2) bc;simp at bU;have ak:=y' D;clear D bc ba ch bb));have ci:=y' ((d' aF).next (d' cf) (d' cg) (λ_ _=>d' ak) (λg _ h=>h.elim (λh=>.inr (.inr h)) (λh=>.inr (.inl h))) (λb o h=>h.elim (λh=>.inr (.inr (.inr h))) (λh=>.inr (.inr (.inl h)))));clear aJ bU f27 ak;go_wp2;go_roundw
   case rel=>exact⟨k+1,q,_,_,_,_,_,_,_,by omega,rfl,by go_num,by have:=d' aE;simp;omega,by have:=d' cc;simp;omega,by have:=d' cd;simp;omega,d' ci⟩
   case measure=>simp[intOf];omega
  have cj:k=3:=by omega
  subst cj;have aF:=y' T;clear T aW aX;go_wp2;refine z74 (z64 rfl _ _ _) rfl ?_;have T:=d' aF;exact⟨rfl,aD,ab,by have:=d' aE;omega,⟨T.wbk,T.row,λq ck=>(T.holds q ck).mono (λb o h=>⟨⟨h.1.1,h.1.2.1⟩,h.2⟩)⟩,T.far,T.lh⟩
theorem Jm.mono {A z:Nat->Nat->Prop} {w:World} {F:Nat} {G H I:Value} {hs:List Nat} (h:Jm A w F G H I hs) (J:∀b o,A b o->z b o):Jm z w F G H I hs:=
 ⟨h.blk,h.row,λp M=>(h.all p M).mono J⟩
def Jr (w:World) (v:Value) (xs:List Value):Prop:=
 ∃z cap,v=.slice z xs.length cap/\xs.length<=cap/\cap<=maxLen/\(0 < xs.length->∃g o,z=some ⟨g,o,none⟩/\g < w.heap.size/\∀i,i < xs.length->w.cell? (Ea g (o+i))=xs[i]?)
theorem AR {B:Nat} {w:World} {e:TypeId} {v:Value} {n:Nat} {xs:List Value} (h:w.ownsRow B e 1 v n xs):Jr w v xs:=by
 have hn:xs.length=n:=by have:=h.1;omega
 subst hn;have h0:=h;obtain⟨h1,h2⟩:=h;rcases h2 with ⟨z,h2⟩|⟨g,cap,I,z,J,F,G,H,_,M⟩;exact⟨none,0,by rw[h2];exact z,by omega,by unfold maxLen;omega,λh=>by omega⟩;subst z;exact⟨_,cap,rfl,G,H,λ_=>⟨g,0,rfl,z12 F,λi hi=>by rw[z45];exact z59 h0 i (by omega)⟩⟩
theorem Jr.below {w w':World} {v:Value} {xs:List Value} (h:Jr w v xs) (hb:El w w'):Jr w' v xs:=by
 obtain⟨F,cap,e,h1,h2,h3⟩:=h;refine⟨F,cap,e,h1,h2,λh0=>?_⟩;obtain⟨g,o,G,z,H⟩:=h3 h0;exact⟨g,o,G,z21 z hb.size,λi hi=>Bc hb z (H i hi)⟩
theorem Az (A:Nat->Nat->Prop) (w:World) (z:Nat) (Y Z F lv wv:Value) (hs:List Nat) (L:List z10) (ad:Jm A w z Y Z F hs)
  (hl:w.ownsRow 0 9 1 lv L.length (AF L)) (ax:Jr w wv (AF L)) (ah:∀b o,A b o->b < w.heap.size/\¬ (lv.ownBlock=some b\/Us z F b)) (ay:hs.length+4<=17592186044416) (az:L.length<=900):
  Cp 151 #[C' z,lv,wv] w λr w'=>Rr r (.bool true)/\∃G J,J.length=hs.length+4/\Jm (λb o=>(b < w'.heap.size/\¬Us z G b)/\(A b o\/lv.ownBlock=some b\/w.heap.size<=b)) w' z Y Z G J/\
   Far (λk=>lv.ownBlock=some k\/Us z F k) w w'/\Loc w F G:=by
 obtain⟨M,Q,ai,aA,aL,aa⟩:=AR hl;obtain⟨aM,aN,aj,aB,aO,ab⟩:=ax;rw[AO]at ai aA aa aj aB ab;subst ai aj;have aC:=y' aa;have aD:=y' ab;have aE:=y' hl;have V:=y' ad;have H:=y' ah;have n1:L.length<=9223372036854775807:=by omega
 clear aa ab hl ad ah;unfold C';go_enter func151,ntmps151;go_wp2;go_loopw[7,8] (λok i wr=>∃k:Nat,k<=L.length/\i=.int .i64 k/\ok=.bool true/\∃q,wr=w.drewN q) (λ_ i _=>L.length - (intOf i).toNat)
 case atStart=>exact⟨0,by omega,rfl,rfl,0,rfl⟩
 case round=>
  obtain⟨k,ak,rfl,rfl,q,rfl⟩:=hrel;by_cases ac:k < L.length
  .obtain⟨g,o,rfl,_,ao⟩:=(d' aC) (by omega);obtain⟨g2,aP,rfl,_,aq⟩:=(d' aD) (by omega);have I:(AF L)[k]? =some (.string L[k]):=(by simp[AF,ac]);have aF:=(ao k ac).trans I;have aG:=(aq k ac).trans I;clear ao aq I;generalize L[k]=aQ at aF aG;go_wp2;go_quiet (fail);go_wp2;go_roundw
   case rel=>exact⟨k+1,by omega,by go_num,rfl,q+nq,by simp⟩
   case measure=>simp[intOf];omega
  clear ak;have au:=y' (IV A ((w.drewN q).alloc (.cells #[.slice M L.length Q,En,En,Ej 0,.string ⟨#[]⟩,.string ⟨#[]⟩] 160)) z w.heap.size Y Z F (.slice M L.length Q) En En hs (AF L) [] []
   ⟨(z35 _ _ _ (z12 (d' V).blk)).trans (d' V).blk,z52 (w:=w.drewN q) (d' V).row _,λx I=>((d' V).all x I).keep (λb o h=>z46 (z35 (w.drewN q) _ b ((d' H) b o h).1))⟩
   (z19 (w.drewN q) _) (by rw[AO];exact z52 (w:=w.drewN q) (d' aE) _) (z20 _ _ _ _) (z20 _ _ _ _)
   (λb o h=>⟨by have:=((d' H) b o h).1;simp;omega,λe=>by rcases e with e|(e|e|e)|e;have:=((d' H) b o h).1;omega;exact((d' H) b o h).2 (.inl e);cases e;cases e;exact((d' H) b o h).2 (.inr e)⟩) ay (by simp) (by rw[AO];exact az) (by simp))
  unfold C' at au;go_wp2_with (go_at_call 91;refine Cm au ?_;rintro r w1 ⟨rfl,G,J,aH,aI,aJ,aK⟩);go_ret;have av:Far (λk=>(Value.slice M L.length Q).ownBlock=some k\/Us z F k) w ((w.drewN q).alloc (.cells #[.slice M L.length Q,En,En,Ej 0,.string ⟨#[]⟩,.string ⟨#[]⟩] 160)):=I' ((z36 (z11 _ _) q).alloc (z16 _) _);refine⟨rfl,G,J,aH,aI.mono (λb o h=>⟨h.1,h.2.elim .inl (λh=>h.elim (λh=>.inr (.inr (by omega))) (λh=>h.elim (λh=>h.elim (λh=>.inr (.inl h)) (λh=>h.elim (λh=>by cases h) (λh=>by cases h))) (λh=>.inr (.inr (by simp at h;omega)))))⟩),av.trans aJ (λk ak e=>?_),aK.mono av.size⟩;rcases e with e|(e|e|e)|e;omega;exact .inl e;cases e;cases e;exact .inr e
def Vi (z:List Value) (i b:Nat):Prop:=∃j,j < i/\∃v,z[j]? =some v/\v.ownBlock=some b
theorem Vi.mono {z:List Value} {i F b:Nat} (h:Vi z i b) (hi:i<=F):Vi z F b:=by
 obtain⟨j,hj,r⟩:=h;exact⟨j,by omega,r⟩
theorem Ba (A:Nat->Nat->Prop) (w:World) (F:Nat) (ai aj G lv wv:Value) (hs:List Nat) (z:List Value) (J:List (List UInt8)) (aW:Jm A w F ai aj G hs) (aH:z.length=J.length)
  (hl:w.ownsRow 0 48 1 lv z.length z) (bk:Jr w wv (KN J)) (aX:∀ (j:Nat) (v:Value),z[j]? =some v->w.ownsRow 0 5 1 v (J.getD j []).length (bv (J.getD j [])))
  (aY:∀ (i j:Nat) (u v:Value),z[i]? =some u->z[j]? =some v->i≠j->∀g,u.ownBlock=some g->v.ownBlock≠some g)
  (aZ:∀b o,A b o->b < w.heap.size/\¬ (lv.ownBlock=some b\/Vi z z.length b\/Us F G b)) (bl:hs.length+4 * z.length+4<=17592186044416) (bm:z.length<=900) (z3:∀j,(J.getD j []).length<=1000):
  Cp 148 #[C' F,lv,wv] w λr w'=>Rr r (.bool true)/\∃H Z,Z.length=hs.length+4 * z.length+4/\Jm (λb o=>(b < w'.heap.size/\¬Us F H b)/\(A b o\/(lv.ownBlock=some b\/Vi z z.length b)\/w.heap.size<=b)) w' F ai aj H Z/\
   Far (λk=>(lv.ownBlock=some k\/Vi z z.length k)\/Us F G k) w w'/\Loc w G H:=by
 obtain⟨ak,ao,bn,bo,bp,ba⟩:=AR hl;obtain⟨bF,bG,bb,bc,bH,aI⟩:=bk;rw[nV,<-aH]at bb bc aI;subst bn bb;have aJ:=y' ba;have bd:=y' aI;have Q:=y' hl;have V:=y' aW;have aC:=y' aZ;have aD:=y' aX;have be:=y' aY;have bq:=y' aH;have br:=y' z3;obtain⟨n,hn⟩:=exq (z.length);rw[<-hn]at bl bm bo bc aJ bd Q ⊢;have aa:=y' hn;have n1:n<=9223372036854775807:=by omega
 clear ba aI hl aW aZ aX aY aH z3 hn;unfold C';go_enter func148,ntmps148;go_wp2;go_loopw[7,8] (λok i wr=>∃k:Nat,k<=n/\i=.int .i64 k/\ok=.bool true/\∃q,wr=w.drewN q) (λ_ i _=>n - (intOf i).toNat)
 case atStart=>exact⟨0,by omega,rfl,rfl,0,rfl⟩
 case round=>
  obtain⟨k,aK,rfl,rfl,q,rfl⟩:=hrel;by_cases bf:k < n
  .have ac:k < z.length:=(by have:=d' aa;omega);obtain⟨g,o,rfl,_,aq⟩:=(d' aJ) (by omega);obtain⟨g2,bI,rfl,_,bg⟩:=(d' bd) (by omega);have ad:=aq k bf;rw[z17 ac]at ad;have bt:k < J.length:=(by have:=d' aa;have:=d' bq;omega);have bu:=(bg k bf).trans (show(KN J)[k]? =some (.string ⟨(J.getD k []).toArray⟩) by simp[KN,bt]);have Y:=(d' aD) k z[k] (z17 ac);have bh:=λm=>((CM (A:=λ_ _=>True) (w:=w) (by rw[AC];exact Y) (λ_ _ _ _=>trivial)).keep (w':=w.drewN m) (λ_ _ _=>rfl)).str;clear aq bg Y;generalize z[k]=bJ at ad bh;generalize J.getD k []=bK at bu bh;go_wp2;go_quiet (fail);go_wp2;go_roundw
   case rel=>exact⟨k+1,by omega,by go_num,rfl,q+nq,by simp⟩
   case measure=>simp[intOf];omega
  clear aK;go_wp2;go_loopw[9] (λi wr=>∃ (k:Nat) (H:Value) (Z:List Nat),k<=n/\i=.int .i64 k/\Z.length=hs.length+4 * k/\Jm (λb o=>(b < wr.heap.size/\¬Us F H b)/\(A b o\/Vi z k b\/w.heap.size<=b)) wr F ai aj H Z/\Far (λb=>Vi z k b\/Us F G b) w wr/\Loc w G H) (λi _=>n - (intOf i).toNat)
  case atStart=>have hF:Far (λb=>Vi z 0 b\/Us F G b) w (w.drewN q):=I' (z36 (z11 _ _) q);refine⟨0,G,hs,by omega,rfl,by simp,⟨(d' V).blk,(d' V).row,λx au=>(((d' V).all x au).keep (w':=w.drewN q) (λ_ _ _=>rfl)).mono (λb o h=>?_)⟩,hF,.inr (.inl rfl)⟩;exact⟨⟨((d' aC) b o h).1,λe=>((d' aC) b o h).2 (.inr (.inr e))⟩,.inl h⟩
  case round=>
   obtain⟨k,H,Z,aK,rfl,bL,W,hF,aE⟩:=hrel;by_cases bw:k < n
   .have ac:k < z.length:=(by have:=d' aa;omega);obtain⟨g,o,rfl,bz,aq⟩:=(d' aJ) (by omega);have ah:¬ (Vi z k g\/Us F G g):=(by rintro(⟨j,hj,v,h1,h2⟩|e|e);exact BJ ((d' aD) j v h1) (d' Q) (by decide) h2 rfl;exact AX (d' Q) (d' V).blk (by decide) (by rw[<-e];rfl);exact BJ (d' Q) (d' V).row (by decide) rfl e);have ad:=(z46 (a:=⟨g,o+k,none⟩) (hF.rest g bz ah)).trans (aq k bw);rw[z17 ac]at ad;have M:=z17 ac;have Y:=(d' aD) k z[k] M;have aL:∀b,(z[k]).ownBlock=some b->¬ (Vi z k b\/Us F G b):=(by rintro b hb (⟨j,hj,v,h1,h2⟩|e|e);exact(d' be) j k v z[k] h1 M (by omega) b h2 hb;exact AX Y (d' V).blk (by decide) (by rw[<-e];exact hb);exact BJ Y (d' V).row (by decide) hb e);have aF:=hF.own Y aL;have bA:=(d' br) k;have ab:=(z14 Y);obtain⟨aG,aM⟩:=exq (z[k]);rw[<-aM]at ad M Y aL aF ab;have bB:=y' M;obtain⟨bM,bN,bi,_⟩:=Row.shape (A:=λ_=>True) ⟨by have:=aF;rw[<-AC]at this;exact this,λ_ _=>trivial⟩;rw[AC]at bi;have av:=y' (IV (λb o=>(b < wr.heap.size/\¬Us F H b)/\(A b o\/Vi z k b\/w.heap.size<=b)) (wr.alloc (.cells #[.slice none 0 0,aG,.slice none 0 0,Ej 0,.string ⟨#[]⟩,.string ⟨#[]⟩] 160)) F wr.heap.size ai aj H (.slice none 0 0) aG (.slice none 0 0) Z [] [] (J.getD k [])
     ⟨(z35 _ _ _ (z12 W.blk)).trans W.blk,z52 W.row _,λx au=>(W.all x au).keep (λb o h=>z46 (z35 wr _ b h.1.1))⟩
     (z19 wr _) (z20 _ _ _ _) (z52 aF _) (z20 _ _ _ _)
     (λb o h=>⟨by have:=h.1.1;simp;omega,λe=>by rcases e with e|(e|e|e)|e;have:=h.1.1;omega;cases e;rcases h.2 with h2|⟨j,hj,v,h1,h2⟩|h2;exact((d' aC) b o h2).2 (.inr (.inl ⟨k,ac,aG,M,e⟩));exact(d' be) j k v aG h1 M (by omega) b h2 e;have:=(ab b e).2;omega;cases e;exact h.1.2 e⟩) (by omega) (by omega) (by simp) (by simp))
    unfold C' at av;have bO:=y' W;have I:=y' hF;have ax:=y' aE;have bP:=y' ab;have bQ:=y' aM;clear W hF aE aL Y aF ah aq bA ab M aM bp;subst bi;go_upto_region 8 with (go_at_call 91;refine Cm av ?_;rintro r bC ⟨rfl,aN,aO,ay,az,aA,aB⟩;have aP:=y' az;have aQ:=y' aA;have aR:=y' aB;have aS:=y' ay;clear az aA aB ay);clear ad;go_wp2;go_roundw
    case rel=>have M:=d' bB;refine⟨k+1,aN,aO,by omega,by go_num,by have:=d' aS;omega,(d' aP).mono (λb o h=>⟨h.1,?_⟩),?_,?_⟩;rcases h.2 with h2|h2|h2|h2;exact h2.2.elim .inl (λh=>h.elim (λh=>.inr (.inl (h.mono (by omega)))) (λh=>.inr (.inr h)));exact .inr (.inr (by have:=(d' I).size;omega));rcases h2 with h2|h2|h2;cases h2;exact .inr (.inl ⟨k,by omega,_,M,h2⟩);cases h2;exact .inr (.inr (by have:=(d' I).size;simp at h2;omega));have aT:Far (λb=>Vi z (k+1) b\/Us F G b) w wr:=(d' I).mono (λb _ h=>h.elim (λh=>.inl (h.mono (by omega))) .inr);refine(aT.trans (I' (E:=λb=>Vi z (k+1) b\/Us F G b) ((z11 wr.heap.size wr).alloc (z16 _) _)) Ih).trans (d' aQ) (λb hb e=>?_);rcases e with e|(e|e|e)|e|e;have:=(d' I).size;omega;cases e;exact .inl ⟨k,by omega,_,M,e⟩;cases e;exact .inr (.inl e);rcases d' ax with h|h|⟨g',h,bD⟩;rw[h]at e;cases e;exact .inr (.inr (h ▸ e));rw[h]at e;injection e with e;omega;exact FO (d' ax) ((d' aR).mono (by simp)) (d' I).size
    case measure=>simp[intOf];omega
   have aU:n=k:=(by omega);have ah:∀g,(Value.slice ak n ao).ownBlock=some g->¬ (Vi z k g\/Us F G g):=(by rintro g aV (⟨j,hj,v,h1,h2⟩|e|e);exact BJ ((d' aD) j v h1) (d' Q) (by decide) h2 aV;exact AX (d' Q) (d' V).blk (by decide) (by rw[<-e];exact aV);exact BJ (d' Q) (d' V).row (by decide) aV e);have bj:=hF.own (d' Q) ah;have ab:=z14 (d' Q);have av:=y' (IV (λb o=>(b < wr.heap.size/\¬Us F H b)/\(A b o\/Vi z k b\/w.heap.size<=b)) (wr.alloc (.cells #[.slice none 0 0,.slice none 0 0,.slice ak n ao,Ej 0,.string ⟨#[]⟩,.string ⟨#[]⟩] 160)) F wr.heap.size ai aj H (.slice none 0 0) (.slice none 0 0) (.slice ak n ao) Z [] z []
    ⟨(z35 _ _ _ (z12 W.blk)).trans W.blk,z52 W.row _,λx au=>(W.all x au).keep (λb o h=>z46 (z35 wr _ b h.1.1))⟩
    (z19 wr _) (z20 _ _ _ _) (z20 _ _ _ _) (by rw[<-d' aa];exact z52 bj _)
    (λb o h=>⟨by have:=h.1.1;simp;omega,λe=>by rcases e with e|(e|e|e)|e;have:=h.1.1;omega;cases e;cases e;rcases h.2 with h2|h2|h2;exact((d' aC) b o h2).2 (.inl (by rw[<-d' aa];exact e));exact ah b e (.inl h2);have:=(ab b e).2;omega;exact h.1.2 e⟩) (by omega) (by simp) (by simp) (by have:=d' aa;omega))
   unfold C' at av;have I:=y' hF;have ax:=y' aE;have bE:=y' aU;clear W hF aE ah bj ab aU aK;go_wp2_with (go_at_call 91;refine Cm av ?_;rintro r bC ⟨rfl,aN,aO,ay,az,aA,aB⟩;have aP:=y' az;have aQ:=y' aA;have aR:=y' aB;have aS:=y' ay;clear az aA aB ay);go_ret;have aU:=d' bE;refine⟨rfl,aN,aO,by have:=d' aS;omega,(d' aP).mono (λb o h=>⟨h.1,?_⟩),?_,?_⟩;rcases h.2 with h2|h2|h2|h2;exact h2.2.elim .inl (λh=>h.elim (λh=>.inr (.inl (.inr (h.mono (by have:=d' aa;omega))))) (λh=>.inr (.inr h)));exact .inr (.inr (by have:=(d' I).size;omega));rcases h2 with h2|h2|h2;cases h2;cases h2;exact .inr (.inl (.inl h2));exact .inr (.inr (by have:=(d' I).size;simp at h2;omega));have aT:Far (λb=>((Value.slice ak n ao).ownBlock=some b\/Vi z n b)\/Us F G b) w wr:=(d' I).mono (λb _ h=>h.elim (λh=>.inl (.inr (h.mono (by have:=d' aa;omega)))) .inr);refine(aT.trans (I' (E:=λb=>((Value.slice ak n ao).ownBlock=some b\/Vi z n b)\/Us F G b) ((z11 wr.heap.size wr).alloc (z16 _) _)) Ih).trans (d' aQ) (λb hb e=>?_);rcases e with e|(e|e|e)|e|e;have:=(d' I).size;omega;cases e;cases e;exact .inl (.inl e);exact .inr (.inl e);rcases d' ax with h|h|⟨g',h,bD⟩;rw[h]at e;cases e;exact .inr (.inr (h ▸ e));rw[h]at e;injection e with e;omega;exact FO (d' ax) ((d' aR).mono (by simp)) (d' I).size
def BN (a:Mq.Sk) (l:List UInt8):Int×Mq.Sk×List z10:=
 if Qb.reads l=true then(0,CK a (Jk l) (Jf l) (Qs l).toNat (Xh l).toNat (Jp l))else(1,a,[])
structure Qj (B:Nat) (w:World) (lv:Value) (fs:List Value) (Fl:List z10) (U:Nat->Prop):Prop where
 len:fs.length=Fl.length
 row:w.ownsRow B 48 1 lv fs.length fs
 each:∀ (j:Nat) (v:Value),fs[j]? =some v->w.ownsRow B 5 1 v ((Fl.map λb=>b.data.toList).getD j []).length (bv ((Fl.map λb=>b.data.toList).getD j []))
 apart:∀ (i j:Nat) (u v:Value),fs[i]? =some u->fs[j]? =some v->i≠j->∀g,u.ownBlock=some g->v.ownBlock≠some g
 clear:∀k,(lv.ownBlock=some k\/Vi fs fs.length k)->¬U k
structure Jj (N:Nat) (a:Ag):Prop where
 ep:a.Qa<=2147483647
 tk:a.Qf<=N
 sum:∀s,s < 3->(a.fl s).base+(a.fl s).kept.length<=N
 bod:∀s,s < 3->∀x∈ (a.fl s).kept,x.1.size<=20/\x.2<=N
theorem Jj.mono {N F:Nat} {a:Ag} (z:Jj N a) (h:N<=F):Jj F a:=
 ⟨z.ep,z26 z.tk h,λs hs=>z26 (z.sum s hs) h,λs hs x G=>⟨(z.bod s hs x G).1,z26 (z.bod s hs x G).2 h⟩⟩
theorem fE (F:Jj w c) (s:Nat) (b:z10) (hb:b.size<=20):Jj (w+1) (c.Xm s b):=by
 refine⟨F.ep,Ax F.tk,λt G=>?_,λt G x z=>?_⟩;have:=F.sum t G;unfold Ag.Xm upd;simp only
 split;rename_i e;subst e;simp;omega;omega;unfold Ag.Xm upd at z;simp only at z;split at z;rename_i e;subst e;rw[z55,z51]at z;rcases z with z|rfl;exact⟨(F.bod t G x z).1,Ax (F.bod t G x z).2⟩;exact⟨hb,z54 _⟩;exact⟨(F.bod t G x z).1,Ax (F.bod t G x z).2⟩
theorem XX (Qa s:Nat) (f:Js) (Qf:Nat):∀i,∀y∈ (Mq.sendTo Qa s f Qf i).1,∃x∈f.kept,y.1=x.1/\(y.2=x.2\/y.2=Qf)
 |0=>λy z=>⟨y,z,rfl,.inl rfl⟩
 |i+1=>by
  intro y z;have ih:=XX Qa s f Qf i;rw[Mq.sendTo]at z;split at z
  .exact ih y z
  .rename_i x F;split at z
   .rcases Kn z with z|rfl
    .exact ih y z
    .exact⟨x,z65 F,rfl,.inr rfl⟩
   .exact ih y z
theorem nZ (z:Jj w c):Jj (w+1) c.tick.1:=by
 have h0:Jj (w+1) {c with Qf:=c.Qf+1}:=⟨z.ep,Nat.succ_le_succ z.tk,λs hs=>Ax (z.sum s hs),λs hs x F=>⟨(z.bod s hs x F).1,Ax (z.bod s hs x F).2⟩⟩;unfold Ag.tick;split;exact h0;split;exact h0;refine⟨z.ep,Nat.succ_le_succ z.tk,λs hs=>?_,λs hs y G=>?_⟩;have:=z.sum s hs;simp only[Xf,if_pos hs,BL];omega;simp only[Xf,if_pos hs]at G;obtain⟨x,F,h1,h2⟩:=XX _ _ _ _ _ y G;have h3:=z.bod s hs x F;refine⟨h1 ▸ h3.1,?_⟩;have:=z.tk;rcases h2 with h2|h2;omega;omega
theorem oA (z:Jj w c) (n:Nat->Nat) (hn:∀s,s < 3->n s<=(c.fl s).kept.length):Jj w (c.drop n):=by
 refine⟨z.ep,z.tk,λs hs=>?_,λs hs x F=>?_⟩;have:=z.sum s hs;have:=hn s hs;simp only[Ag.drop,Za,if_pos hs,Js.drop,List.length_drop];omega;simp only[Ag.drop,Za,if_pos hs,Js.drop]at F;exact z.bod s hs x (Ko F)
theorem XY (z:Jj w c) (k e st q:Int) (b:z10):Jj w (c.Qv k e st q b):=by
 have F:=oA z (c.Jb k e st q b) (λs _=>MK c k e st q b s);unfold Ag.Qv;split;exact⟨z.ep,z.tk,z.sum,z.bod⟩;split;exact z;split;exact⟨z.ep,z.tk,z.sum,z.bod⟩;split;refine⟨F.ep,F.tk,λs hs=>?_,λs hs x G=>?_⟩;have:=F.sum s hs;simp only[Mq.fresh,if_pos hs,List.length_map];exact this;simp only[Mq.fresh,if_pos hs]at G;obtain⟨y,I,rfl⟩:=z66.1 G;exact⟨(F.bod s hs y I).1,z54 _⟩;split;split;exact z;refine⟨F.ep,F.tk,λs hs=>?_,λs hs x G=>?_⟩;have:=F.sum s hs;simp only[upd];split;rename_i H;subst H;exact this;exact this;simp only[upd]at G;split at G;rename_i H;subst H;exact F.bod _ hs x G;exact F.bod s hs x G;exact z
theorem oB (R:Qi p w c P m I) (hd:P.dead=false) (z:Jj a c) (M:a+1<=2147483647):
  Cp 147 #[Er w 0] p λx w'=>∃v n,x=.returned v/\w'.ownsRow p.heap.size 9 1 v n (KN c.tick.2)/\CC p w' w c.tick.1 P m I:=by
 have H:c.Qf+1<=1000000000000000:=by have:=z.tk;omega
 unfold Ag.tick;cases F:c.fenced;cases G:c.Qd;refine(fD R hd F G z.ep H).mono ?_;rintro x w' ⟨v,rfl,h1,h2⟩;exact⟨v,_,rfl,h1,by simpa[F,G]using h2⟩;refine(kE R hd F G z.ep H (λs hs=>by have:=z.sum s hs;omega) (λs hs x J=>⟨(z.bod s hs x J).1,by have:=(z.bod s hs x J).2;omega⟩)).mono ?_;rintro x w' ⟨v,n,rfl,h1,h2⟩;exact⟨v,n,rfl,h1,by simpa[F,G]using h2⟩;refine(XW R hd F H).mono ?_;rintro x w' ⟨rfl,h2⟩;exact⟨_,0,rfl,z20 _ _ _ _,by simpa[F]using h2⟩
def DT (a:Ag) (i:Int):List z10:=if 0<=i/\i < 3 then a.Xn i.toNat else []
theorem fF (R:Qi p w c P m I) (hd:P.dead=false) (i:Int):
  Cp 150 #[Er w 0,Ej i] p λe w'=>∃v,e=.returned v/\w'.ownsRow p.heap.size 9 1 v (DT c i).length (AF (DT c i))/\El p w':=by
 unfold DT;by_cases h:0<=i/\i < 3;rw[if_pos h];obtain⟨n,rfl⟩:=z62 h.1;exact nK R hd n (by omega);rw[if_neg h];have c4:=Bi 4 R.blk;simp[AE,hd]at c4;clear R hd;by_cases h0:i < 0
 .go_enter func150,ntmps150;go_wp2;go_ret;exact⟨_,rfl,z20 _ _ _ _,z11 _ _⟩
 have h3:3<=i:=by omega
 go_enter func150,ntmps150;go_wp2;go_ret;exact⟨_,rfl,z20 _ _ _ _,z11 _ _⟩
def CJ (a:Ag) (l:List UInt8):Int×Ag:=
 if Qb.reads l=true then(0,a.Qv (Jk l) (Jf l) (Qs l) (Xh l) (Jp l))else(1,a)
def BF (a:Ag) (i:Int) (s:z10):Ag:=if a.Je i s.size=0 then a.Xm i.toNat s else a
theorem kG (a:Ag) (i:Int) (n:Nat):a.Je i n=0\/a.Je i n=5\/a.Je i n=6\/a.Je i n=7:=by
 unfold Ag.Je;repeat' split
 all_goals simp
theorem LX {i:Int} (h:c.Je i w=0):(0<=i/\i < 3)/\w<=20/\c.room < 24:=by
 unfold Ag.Je at h;split at h;simp at h;split at h;simp at h;split at h;simp at h;omega
theorem GF (k e s q:Int) (b:List UInt8):(Qb.bytes k e s q b).length=15+b.length:=Zu k e s q b
theorem sW (n:Nat):(GA n).data.toList.length=15:=by
 unfold GA;simp[GF]
theorem Bd (a:Mq.Sk) (e:Nat):(nQ a e).data.toList.length=27:=by
 unfold nQ;simp[GF,Aw,CH]
theorem Be (a:Mq.Sk) (k e:Int) (s qn:Nat) (b:z10):(VE a k e s qn b).data.toList.length=16:=by
 unfold VE;simp[GF,Jn]
theorem fG (a:Mq.Sk) (k e:Int) (s q:Nat) (b:z10):(CK a k e s q b).2.length<=1/\∀x∈ (CK a k e s q b).2,x.data.toList.length<=27:=by
 have h1:∀c:z10,c.data.toList.length<=27->([c]:List z10).length<=1/\∀x∈ ([c]:List z10),x.data.toList.length<=27:=λc h=>⟨by simp,λx z=>by rw[z51]at z;rw[z];exact h⟩;unfold CK;repeat' split
 all_goals first
  |exact h1 _ (by rw[sW];omega)
  |exact h1 _ (by rw[Bd];omega)
  |exact h1 _ (by rw[Be];omega)
  |exact⟨by simp,λx z=>by cases z⟩
theorem RG (a:Mq.Sk) (l:List UInt8):(BN a l).2.2.length<=1/\∀x∈ (BN a l).2.2,x.data.toList.length<=27:=by
 unfold BN;split;exact fG _ _ _ _ _ _;simp
theorem Qj.keep {B:Nat} {w x:World} {lv:Value} {z:List Value} {H:List z10} {U:Nat->Prop} (h:Qj B w lv z H U) (I:∀k,(lv.ownBlock=some k\/Vi z z.length k)->x.heap[k]? =w.heap[k]?):Qj B x lv z H U:=
 ⟨h.len,Q' h.row (λk F=>I k (.inl F)),λj v G=>Q' (h.each j v G) (λk F=>I k (.inr ⟨j,(z25.1 G).1,v,G,F⟩)),h.apart,h.clear⟩
theorem Qj.lt {B:Nat} {w:World} {lv:Value} {z:List Value} {F:List z10} {U:Nat->Prop} (h:Qj B w lv z F U):∀k,(lv.ownBlock=some k\/Vi z z.length k)->B<=k/\k < w.heap.size:=by
 rintro k (h1|⟨j,_,v,h1,h2⟩);exact z14 h.row k h1;exact z14 (h.each j v h1) k h2
theorem Jm.far {A:Nat->Nat->Prop} {E:Nat->Prop} {w x:World} {z:Nat} {H I F:Value} {hs:List Nat} (h:Jm A w z H I F hs) (G:Far E w x) (J:∀k,Us z F k->¬E k) (M:∀b o,A b o->b < w.heap.size/\¬E b):Jm A x z H I F hs:=
 ⟨G.blk h.blk (J z (.inl rfl)),G.own h.row (λg Q=>J g (.inr Q)),λp V=>(h.all p V).keep (λb o hb=>z46 (G.rest b (M b o hb).1 (M b o hb).2))⟩
theorem Jm.us_lt {A:Nat->Nat->Prop} (h:Jm A p w y u R k):∀z,Us w R z->z < p.heap.size:=by
 rintro z (rfl|F);exact z12 h.blk;exact(z14 h.row z F).2
def fH (fv:Value) (z:List Value) (k:Nat):Prop:=fv.ownBlock=some k\/Vi z z.length k
