/-
  Part 15 of a proof.
-/
import Derived.Deep.RegionLaw
import Derived.ProofKit
import Derived.SizedLaws
import Derived.OpenShut
import Derived.ShutString
import Derived.ChangeOld
import Derived.Lib.SmallJoins
import Derived.Deep.Slices
import Derived.JoinedCond
import Derived.Test.YtamafdcnbcoegabGreatOa14
set_option maxRecDepth 100000
set_option maxHeartbeats 40000000
namespace Go.Proofs.YtamafdcnbcoegabGreat
attribute [local simp, local go_sem] Ev Ep Ei Eb Et Ej Ea En Er Es
open Qb Mq
abbrev uY:= @List.not_mem_nil
abbrev rN:= @Go.DataW.trod_int
open Go.RowKit Go.Proofs.Tryz
def NA (a:Mq.Sk) (z:Nat->List z10) (k:Nat):Mq.Sk:={a with Qc:=λt=>if t < k then z t else a.Qc t}
theorem UN (a:Mq.Sk) (z:Nat->List z10) (k:Nat) (x:List z10) (F:x=z k):({NA a z k with Qc:=λt=>if t=k then x else(NA a z k).Qc t}:Mq.Sk)=NA a z (k+1):=by
 unfold NA;simp only[Mq.Sk.mk.injEq,true_and,and_true];funext t;by_cases h:t=k;subst h;simp[F];by_cases h2:t < k;simp[h,h2,show t < k+1 by omega];simp[h,h2,show ¬t < k+1 by omega]
theorem UO (a:Mq.Sk) (z:Nat->List z10) (k:Nat):(NA a z k).Qc k=a.Qc k:=by simp[NA]
variable{x:Mq.Sk}{F:Nat -> List z10}{p f:World}{w a q b:Nat}{M:AU}{m:Nat -> Value}{y u R:Value}{S:List z10}{Y Z:List AD}{k:List Nat}{o V:Int}{dM:Nat -> Bool}{aD:Bool}{C:List Value}{pM:List MemPlace}{z bP:z10}
theorem uZ (h:∀i,i < 3->(x.Qc i).length<=(F i).length) (k:Nat):(NA x F k).count<=Mq.Sk.count {x with Qc:=F}:=by
 have h0:=h 0 (by omega);have h1:=h 1 (by omega);have h2:=h 2 (by omega);unfold Mq.Sk.count NA;simp only
 repeat' split
 all_goals omega
theorem Jg.told (R:Jg p w (NA x F 3) M m y) (z:Mq.Sk.count {x with Qc:=F}<=120):Jg p w {x with Qc:=F} M m y:=
 ⟨R.blk,λs hs=>by have:=R.Qc s hs;simp only[NA,if_pos hs]at this;exact this,R.held,R.apl,R.ep,z,R.hl,R.hb⟩
theorem Jr.far {E:Nat->Prop} {w x:World} {v:Value} {xs:List Value} (h:Jr w v xs) (z:Far E w x) (G:∀g,v.ownBlock=some g->¬E g):Jr x v xs:=by
 obtain⟨H,cap,rfl,h1,h2,h3⟩:=h;refine⟨H,cap,rfl,h1,h2,λh0=>?_⟩;obtain⟨g,o,rfl,F,I⟩:=h3 h0;exact⟨g,o,rfl,z21 F z.size,λi hi=>(z46 (a:=⟨g,o+i,none⟩) (z.rest g F (G g rfl))).trans (I i hi)⟩
theorem Hz {d:Nat} (h:Jr p (Es w a b q) (AF S)) (hd:d<=S.length):∀j u,(AF (S.take d))[j]? =some u->p.cell? ((⟨w,a,none⟩:Addr).add j)=some u:=by
 intro j u hj;obtain⟨M,cap,e,h1,h2,h3⟩:=h;have F:=(z25.1 hj).1;rw[AO,z71]at F;obtain⟨g',Q,G,V,H⟩:=h3 (by rw[AO];omega);injection e with z Y Z;rw[G]at z;injection z with z;injection z with I J;subst I J;rw[MI,H j (by rw[AO];omega),<-hj];unfold AF;rw[Ng,z73,if_pos (by omega)]
structure Yv (w x:World) (p:Nat) (a:Mq.Sk) (r:AU) (lv:Nat->Value) (hv:Value) (lg:Nat->List z10) (ls:Nat->Value) (k:Nat) (lv1:Nat->Value):Prop where
 at_:Jg x p (NA a lg k) r lv1 hv
 far:Far (SkU p lv hv) w x
 new:∀q,SkU p lv1 hv q->SkU p lv hv q\/w.heap.size < q
 box:x.heap[w.heap.size]? =some (.cells #[ls 0,ls 1,ls 2] 34 (0,0))
section
variable {w x y:World} {p:Nat} {a:Mq.Sk} {r:AU} {lv:Nat->Value} {hv:Value} {lg:Nat->List z10} {ls:Nat->Value} {k:Nat} {lv1:Nat->Value}
theorem Yv.below (T:Yv w x p a r lv hv lg ls k lv1) (hb:El x y):Yv w y p a r lv hv lg ls k lv1:=by
 have z:Far (λ_=>False) x y:=I' hb;exact⟨T.at_.far z Ih,T.far.trans z (λ_ _ h=>h.elim),T.new,(hb.block _ (z12 T.box)).trans T.box⟩
theorem Yv.grown (T:Yv w x p a r lv hv lg ls k lv1) (G:∀q,SkU p lv hv q->q < w.heap.size) (H:Jg y p (NA a lg (k+1)) r m hv) (z:Far (SkU p lv1 hv) x y) (I:∀q,SkU p m hv q->SkU p lv1 hv q\/x.heap.size<=q):Yv w y p a r lv hv lg ls (k+1) m:=by
 have hb:=z12 T.box;refine⟨H,T.far.trans z (λq F h=>(T.new q h).elim id (λh=>by omega)),λq F=>(I q F).elim (T.new q) (λh=>.inr (by omega)),z.blk T.box (λh=>?_)⟩;rcases T.new _ h with h|h;have:=G _ h;omega;omega
theorem Yv.skip (T:Yv w x p a r lv hv lg ls k lv1) (z:lg k=a.Qc k):Yv w x p a r lv hv lg ls (k+1) lv1:=by
 have e:=UN a lg k (lg k) rfl;have F:({NA a lg k with Qc:=λt=>if t=k then lg k else(NA a lg k).Qc t}:Mq.Sk)=NA a lg k:=by rw[z,<-UO a lg k];exact TG (NA a lg k) k
 rw[F]at e;exact⟨e ▸ T.at_,T.far,T.new,T.box⟩
end
theorem vA {r:AU} (R:Jg p w x r m y) {mo:List z10} (aS:Jr p r.more (AF mo)) (aT:∀k,r.more.ownBlock=some k->¬SkU w m y k) (hn:a<=mo.length) (az:∀i,i < 3->F i=if(i:Int)=r.inn then x.Qc i++mo.take a else x.Qc i) (aU:Mq.Sk.count {x with Qc:=F}<=120)
  {ls:Nat->Value} (h:∀s,s < 3->Jr p (ls s) (AF (F s))) (aV:∀s,s < 3->∀k,(ls s).ownBlock=some k->¬SkU w m y k):
  Cp 196 #[.pointer (some ⟨w,0,none⟩),.int .i64 x.Qa,.agg #[ls 0,ls 1,ls 2]] p λJ w'=>J=.returned (.bool true)/\
   ∃aW,Jg w' w {x with Qc:=F} ⟨r.dead,r.next,r.inn,.slice none 0 0⟩ aW y/\Far (SkU w m y) p w'/\∀k,SkU w aW y k->SkU w m y k\/p.heap.size<=k:=by
 have bw:=y' R.lt;have c0:=Bi 0 R.blk;have f0:=H' (i:=0) R.blk;have Z:=z12 R.blk;simp[AK]at c0;have aA:=T' p w 0 (.int .i64 x.Qa);have aX:Jg (p.setCell ⟨w,0,none⟩ (.int .i64 x.Qa)) w x r m y:=R.rest aA (by have:=AA (j:=0) (v:=.int .i64 x.Qa) R.blk;simpa[AK]using this);have aY:Hid (Yv p ((p.setCell ⟨w,0,none⟩ (.int .i64 x.Qa)).alloc (.cells #[ls 0,ls 1,ls 2] 34)) w x r m y F ls 0 m):=by
  have aZ:=z19 (p.setCell ⟨w,0,none⟩ (.int .i64 x.Qa)) (.cells #[ls 0,ls 1,ls 2] 34);have bz:(p.setCell ⟨w,0,none⟩ (.int .i64 x.Qa)).heap.size=p.heap.size:=by simp
  rw[bz]at aZ;have ba:Far (λ_=>False) (p.setCell ⟨w,0,none⟩ (.int .i64 x.Qa)) ((p.setCell ⟨w,0,none⟩ (.int .i64 x.Qa)).alloc (.cells #[ls 0,ls 1,ls 2] 34)):=I' bna;exact y' ⟨aX.far ba Ih,(aA.trans ba (λ_ _ h=>h.elim)).mono (λ_ _ h=>.inl h),λq aa=>.inl aa,aZ⟩
 have bA:=y' az;have ab:=y' h;have bb:=y' aV;have bB:=y' aS;have bC:=y' aT;have bD:=y' hn;have aB:=y' aU;have bc:=y' (show ∀i,i < 3->(x.Qc i).length<=(F i).length fromλi hi=>by rw[az i hi];split;simp;exact z16 _);obtain⟨bS,aC,aD,ao,_,aE⟩:=aS;rw[AO]at aD ao aE;have aF:=y' aD;have bE:=y' aE;have bF:=y' ao;clear R aX aA az h aV aT hn aU aD aE ao;go_enter func196,ntmps196;go_upto_region 4 with fail;refine G' (λJ=>Yv p J w x r m y F ls 0 m) (d' aY) ?_;clear aY c0 f0 Z;intro bT bd;have be:=y' bd;clear bd;go_wp2;go_loopw[7,8,9] (λi _ _ wr=>∃ (k:Nat) (ah:Nat->Value),k<=3/\i=.int .i64 k/\Yv p wr w x r m y F ls k ah) (λi _ _ _=>3 - (intOf i).toNat)
 case atStart=>exact⟨0,m,by omega,rfl,d' be⟩
 case round=>
  obtain⟨k,ah,bU,rfl,T⟩:=hrel;clear be;by_cases z:k < 3
  .have bV:(k:Int) < 3:=(by omega);have G:=y' ((((d' ab) k z).far T.far (λg aG=>(d' bb) k z g aG)));have I:=Bi k (T.box.trans rfl);rw[Ez ls z,((d' ab) k z).form]at I;rw[((d' ab) k z).form]at G;generalize Hy (ls k)=bG at I G;generalize wI (ls k)=bH at I G;obtain⟨bI,bJ,aq,_⟩:=(T.at_.Qc k z).shape;have M:=y' (T.at_.Qc k z);rw[UO]at aq M;have Q:=LV T.at_ k z;rw[aq]at Q M;have c5:=Bi 7 T.at_.blk;have H:=Bi 8 T.at_.blk;simp[AK]at c5 H;rw[d' aF]at H;have Z:=z12 T.at_.blk;have bf:=z12 T.box;have bg:=(d' bc) k z;have bK:(F k).length<=120:=(by have:=d' aB;unfold Mq.Sk.count at this;simp only at this;obtain rfl|rfl|rfl:k=0\/k=1\/k=2:=(by omega);all_goals omega);have hd:∃d:Nat,(F k).length=(x.Qc k).length+d/\((d=0/\F k=x.Qc k)\/(0 < d/\d<=mo.length/\(k:Int)=r.inn/\F k=x.Qc k++mo.take d)):=(by have h1:=(d' bA) k z;have h2:=d' bD;by_cases e:(k:Int)=r.inn;rw[if_pos e]at h1;by_cases bh:a=0;refine⟨0,by rw[h1,bh];simp,.inl ⟨rfl,by rw[h1,bh];simp⟩⟩;exact⟨a,by rw[h1];simp;omega,.inr ⟨by omega,h2,e,h1⟩⟩;rw[if_neg e]at h1;exact⟨0,by rw[h1];rfl,.inl ⟨rfl,h1⟩⟩);obtain⟨d,hd1,bi⟩:=hd;obtain⟨n0,aH⟩:=exq ((x.Qc k).length);obtain⟨n1,aI⟩:=exq ((F k).length);rw[<-aH]at Q bg hd1 M;rw[<-aI]at I bg bK hd1 G;have bW:IntKind.i64.wrap ((n1:Int) - n0)=d:=(by rw[z28];omega);have aJ:=y' hd1;have au:=y' aH;have ac:=y' aI;have av:=y' aq;have V:=y' T;obtain⟨bj,aK⟩:=exq (mo.length);rw[<-aK]at H bi;have ad:=y' aK;clear hd1 aH aI aq T aK;rcases bi with ⟨hd0,ai⟩|⟨hd0,bX,aL,ai⟩
   case' inl=>have bY:¬ (0:Int) < d:=(by omega);have aM:=y' ai;have bZ:=y' hd0;clear ai hd0;go_upto_region 7 with fail;go_quiet (fail);go_upto_region 10 with fail;refine G' (λJ=>∃aj,Yv p J w x r m y F ls (k+1) aj) ⟨_,(((d' V).below (z36 (z11 _ _) _))).skip (d' aM)⟩ ?_
   case' inr=>
    have ca:(0:Int) < d:=(by omega);have cb:((k:Int) ==r.inn)=true:=(by simp[aL]);have cc:(d:Int)<=bj:=(by omega);have aM:=y' ai;have cd:=y' aL;clear ai aL;go_upto_region 7 with fail;go_quiet (fail);go_upto_region 9 with fail;refine G' (λJ=>Yv p J w x r m y F ls k ah) ((d' V).below (z36 (z11 _ _) _)) ?_;clear V I Q c5 H Z bf M G;intro bk Y;have Q:=LV Y.at_ k z;rw[d' av,<-d' au]at Q;have M:=y' (Y.at_.Qc k z);rw[UO,d' av,<-d' au]at M;have H:=Bi 8 Y.at_.blk;simp[AK]at H;rw[d' aF,<-d' ad]at H;have Z:=z12 Y.at_.blk;have aN:=y' ((d' bB).far Y.far (d' bC));rw[d' aF,<-d' ad]at aN;obtain⟨mg,bL,rfl,_⟩:=(d' bE) (by have:=d' ad;omega);have ao:bj<=aC:=(by have:=d' bF;have:=d' ad;omega);have ce:(d:Int)<=aC:=(by omega);have bl:=y' (Hz (d:=d) (d' aN) (by have:=d' ad;omega));have aO:=y' Y;clear Y;go_region_law (refine ES rfl (.tmp 70) (.tmp 76) 33 rfl 9 _ 1 16 underlying33 CW rfl (.slice bI n0 bJ) n0 (AF (x.Qc k)) (d' M) rfl ⟨mg,bL,none⟩ d aC (AF (mo.take d)) rfl (by rw[AO,z71];have:=d' ad;omega) (d' bl) (XQ _) (by omega) (by have:=d' aJ;omega) (by have:=d' aJ;omega) ?_;intro v' bm ak aP;rw[<-nO,<-d' aM]at ak;have aa:=(d' aO).at_.logStep2 k z (w1:=bm) (v':=v') (x:=F k) (by have:=IL (w:=bk) (by first|exact z11 _ _|exact(z11 _ _).drew) aP;rw[d' au,<-d' av]at this;exact this) (by have:=MH (w:=bk) (by first|exact z11 _ _|exact(z11 _ _).drew) aP;rw[d' au,<-d' av]at this;exact this) (by rw[<-d' aJ,d' ac]at ak;exact ak) (by rw[UN x F k (F k) rfl];exact z26 (uZ (d' bc) _) (d' aB));rw[UN x F k (F k) rfl]at aa;obtain⟨⟨C,aQ,bn⟩,hst⟩:=aa;have bM:=(D' (i:=2+k) aQ).trans bn;have f1:=H' (i:=2+k) aQ;obtain⟨bo,bp,bN,_⟩:=ak.shape;have ax:=y' hst;clear aP hst aQ bn ak;subst bN);all_goals
     have aR:Hid (Yv p (bm.setCell ⟨w,2+k,none⟩ (.slice bo (n0+d) bp)) w x r m y F ls (k+1) (TF ah k (.slice bo (n0+d) bp))):=(d' aO).grown (d' bw) (d' ax).1 (d' ax).2.1 (d' ax).2.2;clear ax M bl aN Q H Z bM f1 aO;go_upto_region 10 with fail;refine G' (λJ=>∃aj,Yv p J w x r m y F ls (k+1) aj) (by first|exact⟨_,d' aR⟩|exact⟨_,(d' aR).below (z11 _ _).drew⟩) ?_;clear aR
   all_goals
    try clear V I Q c5 H Z bf M G
    rintro cf ⟨aj,T⟩;have G:=y' ((((d' ab) k z).far T.far (λg aG=>(d' bb) k z g aG)));have I:=Bi k (T.box.trans rfl);rw[Ez ls z,((d' ab) k z).form,<-d' ac]at I;rw[((d' ab) k z).form,<-d' ac]at G;generalize Hy (ls k)=bG at I G;generalize wI (ls k)=bH at I G;have ay:=T.at_.Qc k z;rw[show(NA x F (k+1)).Qc k=F k by simp[NA],<-d' ac]at ay;have Q:=LV T.at_ k z;have bq:=y' (ay.listAt (d' ac));obtain⟨cg,c2,br,_⟩:=ay.shape;rw[br]at Q bq;have V:=y' T;clear T ay br;have bO:=λbt=>y' (VW (L:=F k) ((d' G).below (z36 (z11 _ _) bt)) ((d' bq).below (z36 (z11 _ _) bt)) (by have:=d' ac;omega));go_quiet (first|(go_at_call 213;exact Fo (d' (bO _))));go_wp2;go_roundw
    case rel=>exact⟨k+1,aj,by omega,by go_num,(d' V).below (z36 (z11 _ _) _)⟩
    case measure=>simp[intOf];omega
  have bP:k=3:=by omega
  subst bP;have f8:=H' (i:=8) T.at_.blk;have H:=Bi 8 T.at_.blk;simp[AK]at H;have V:=y' T;clear T;go_wp2;go_ret;have T:=d' V;have bu:=T' wr w 8 (.slice none 0 0);have bQ:=AA (j:=8) (v:=.slice none 0 0) T.at_.blk;have bR:=(T.at_.rest (r':=⟨r.dead,r.next,r.inn,.slice none 0 0⟩) bu (by simpa[AK]using bQ)).told (d' aB);exact⟨rfl,ah,bR,T.far.trans bu (λq _ e=>.inl e),λq aa=>(T.new q aa).imp id (λh=>by omega)⟩
def vB (K:Nat) (ar:Bool) (lf:Int) (d:Bool) (z:Nat) (s:Mq.Sk) (H:Nat->List z10) (U:Nat->Prop) (L:List UInt8):Sit:=⟨U,λw=>SkL K ar lf d w z s H U/\SV L w z U,λh=>h.1.lt,λh F G=>⟨h.1.far F G,h.2.far F G⟩⟩
def skA (z:Nat) (a:Mq.Sk) (r:AU) (lv:Nat->Value) (F:Value):Sit:=⟨SkU z lv F,λw=>Jg w z a r lv F,λh=>h.lt,λh G H=>h.far G H⟩
section
variable {B D N:Nat} {M:Nat->Prop} {w x:World} {wb:Nat} {asv ssv:Value} {la ls:List AD} {i j:Nat} {t u:AD}
theorem pI.get (S:pI Y Z i t la ls) (hj:j≠i) (hu:(Y++Z)[j]? =some u):(la++ls)[j]? =some u:=by
 have hl:=(z25.1 hu).1;rw[z29,<-S.lenA,<-S.lenS,<-z29]at hl;have h:=z17 hl;have h2:=S.rest j _ hj h;rw[hu]at h2;injection h2 with h2;rw[h,<-h2]
theorem Qm.other (z:Qm B D N M w x wb asv ssv la ls i t) (hj:j≠i) (hu:(la++ls)[j]? =some u):u.Is x/\∀k,u.In k->¬t.In k:=by
 obtain⟨A,F,hs,G,H,L,S,_⟩:=z;have h:=L.get hj hu;exact⟨S.each j u h,λk=>S.apart j i u t h L.here hj k⟩
theorem Qm.mnot (z:Qm B D N M w x wb asv ssv la ls i t) {k:Nat} (F:M k):¬t.In k:=by
 obtain⟨A,H,hs,I,J,L,S,_,_,G⟩:=z;exact(G k F).1.1.2.2.2 i t L.here
theorem Qm.Vu (z:Qm B D N M w x wb asv ssv la (ls++[u]) (la.length+ls.length) t) (F:t.q=u.q):Qm B D N M w x wb asv ssv la (ls++[t]) (la.length+ls.length) t:=by
 obtain⟨A,G,hs,H,I,L,S,r⟩:=z;refine⟨A,G,hs,H,I,⟨L.lenA,by rw[L.lenS];simp,L.qA,by rw[L.qS];simp[F],L.here,λj v hj h=>?_⟩,S,r⟩;have h2:=L.rest j v hj h;by_cases h3:j < la.length;rw[z44 h3]at h2 ⊢;exact h2;rw[z27 (by omega)]at h2 ⊢;by_cases h4:j - la.length < ls.length;rw[z44 h4]at h2 ⊢;exact h2;rw[z27 (by omega),z76 (by simp;omega)]at h2;cases h2
end
theorem Ia {A:Nat->Nat->Prop} (I:World) (ah ax:Nat) (eH eI eJ:Int) (s:z10) (kp eK eL eM eN:Int) (eO:z10) (ac V ab:Nat) (G:Mq.Sk) (r:AU) (lv:Nat->Value) (F:Value) (mo:List z10) (H:Nat->List z10) (U:Nat->Prop) (ar:Bool) (lf:Int)
  (S:Qr w q A I ah y u R k Y Z) (cZ:JG a ah y u R (Y++Z)) (hi:(Y++Z)[ax]? =some (skT b ac V ab G r lv F mo H U ar lf)) (O:uU lf G r H mo) (da:b<=q) (eP:Z.length < 6) (fu:q+24<=1000000000):
  Cp 155 #[C' ah,C' ac,AL eH eI eJ s kp eK eL eM eN eO] I λx aL=>Rr x (.bool true)/\∃v1 t0,GJ (q+1) t0/\Xv GJ w a (q+20) (q+1) I aL ah y v1 Y (Z++[t0]) (Y.length+Z.length):=by
 have bK:=S.each ax _ hi;obtain⟨L,op,c2,hd,db,bL,dc⟩:=SkL.imgs bK.p;have cd:L.length=7808:=bL.ok.len;obtain⟨aG,ce⟩:=exq (wG r.dead G H);rw[<-ce]at bL;have dd:=y' ce;have de:∃cf q c,r.more=.slice cf q c:=by obtain⟨cf,cap,e,_⟩:=AR bK.r.row;exact⟨cf,_,cap,e⟩
 have eQ:=y' de;have df:b < 1000000000:=by omega
 have dg:=y' da;have dh:=λ(x:World) (bs:Value) (eR:Qk x bs L)=>y' (Em bs L eR bL db df);have bm:=y' O;have eS:=S.bx;obtain⟨ak,bM⟩:=exq (⟨L.toArray⟩:z10);have di:ak.size=7808:=by rw[bM];simp[ByteArray.size,cd]
 obtain⟨Q,cg⟩:∃Q:Nat,ak.size+8=Q:=⟨_,rfl⟩;have aZ:=y' (z13 cg di);have fx:ak.size<=Q:=by omega
 have fy:(ak.size:Int)<=Q:=by omega
 have fz:¬Q=0:=by omega
 have dj:=λx=>y' (SR ak x Q cg (by omega));have dl:ak.data.toList=L:=by rw[bM]
 have ch:=y' (z13 bM dl);have bn:=y' cd;have ao:=y' hi;have dm:=λO=>y' (((Qm.start S cZ hi).as (P':=vB b ar lf r.dead V G H U L) ⟨bK.p,dc⟩ (λ_ h=>h)).below (M':=λz=>z=I.heap.size) ((z11 _ _).alloc (z16 _) (.cells O 94)) (λz F=>.inr ⟨rE F.symm,by rw[F];simp⟩));clear S cZ hi bK bL dc O bM dl cg di cd db ce de df da;unfold AL;unfold C' at *;go_enter func155,ntmps155;go_upto_region 1 with fail;refine G' (λx=>∃aH:Array Value,aH[4]? =some (.int .u64 kp)/\x.heap[I.heap.size]? =some (.cells aH 94 (0,0))/\Qm w a q (λz=>z=I.heap.size) I x ah y u Y Z ax (AZ 182 ac V ab (vB b ar lf r.dead V G H U L) (skR ab G r lv F mo) ar lf)) ⟨_,rfl,z19 I _,d' (dm _)⟩ ?_;clear dm;rintro ci ⟨aH,cj,bN,bO⟩;have c4:=Bi 4 bN;rw[cj]at c4;have c0:=Bi 0 bO.is.blk;simp[C']at c0;have aM:=z12 bN;have aI:=z12 bO.is.blk;have ck:=y' bO;have dn:=y' bN;have eT:=y' cj;clear bO bN cj;refine AI
  [Ep ac 0,Ep ac 0,Ep ac 0,Ep V 0,Ep I.heap.size 4,Ev (.int .u64 kp),λv aN=>Qw ci.heap.size aN v L,λv aN=>Qw ci.heap.size aN v L]
  [[1],[1020],[2021],[3022],[5],[5024],[4023,6025],[7026]] [21,22,23,24,25,26,27,8] [7,1,12,7,106] ?_ ?_ (hst:=by repeat' (first|exact Y' _|exact ae' _ _ _ _|exact trivial|apply z13))
 .refine⟨?_,?_,?_,?_,?_,?_,?_,?_,trivial⟩;all_goals
   intro dq x hb aA;have z0:=Bc hb aI c0;have z4:=Bc hb aM c4;have ao:=y' (((d' ck).below (M':=λ_=>False) hb (λ_ h=>h.elim)).is.p.2.call kp);have cl:=hb.size;unfold C' at ao;clear hb;simp only[J',List.getD_cons_zero,List.getD_cons_succ,Array.getD_eq_getD_getElem?]at aA;try simp only[and_true,Nat.reduceLT,Nat.reduceDiv,Nat.reduceMod,Nat.reduceSub,if_true,if_false,List.getD_cons_zero]at aA
   try go_simp
   try exact z11 _ _
  all_goals first
   |exact⟨rfl,z11 _ _⟩
   |(refine Cm ao ?_;rintro e eU ⟨v,rfl,cm,aO⟩;exact⟨_,rfl,aO,DI cm cl⟩)
   |exact⟨_,rfl,z11 _ _,aA⟩
   |skip
 intro f bP aO aq;simp only[AJ]at aq;have au:=aq.2.2.2.2.2.2.2.1;obtain⟨cn,cp⟩:=exq (f 7);rw[<-cp]at au;simp only[V',<-cp,Nat.zero_add,Nat.reduceAdd];clear cp aq;have aP:Qw ci.heap.size bP cn L:=au;obtain⟨aj,bo,dr⟩:∃aj bo,cn=Es aj 0 7808 bo:=by have h:=aP;unfold Qw at h;obtain⟨g,c,e⟩:=BS (DI h (z54 _)) (by have:=d' bn;omega);rw[d' bn]at e;exact⟨g,c,e⟩
 have ay:=z14 aP aj (by rw[dr];rfl);have cq:bP.ownsRow 0 5 1 cn L.length (bv L):=DI aP (z54 _);have ds:=(d' ck).below (M':=λz=>z=I.heap.size\/z=aj) aO (λz F=>F.imp id (λe=>by rw[e];exact ay));have bp:I.heap.size < aj:=z21 aM ay.1;have dt:=(aO.block _ aM).trans (d' dn);subst dr;have bq:=(CM (A:=λ_ _=>True) (by rw[AC];exact cq) (λ_ _ _ _=>trivial)).str;rw[<-(d' ch).1]at bq;have cr:=y' (z13 ds (z13 cq (z13 dt bp)));clear au aP cq ay bp ds dt aO ck dn c0 c4 aM aI;go_upto_region 5 with fail;refine G' (λx=>Qm w a q (λz=>z=I.heap.size\/z=aj) I x ah y u Y Z ax (AZ 182 ac V ab (vB b ar lf r.dead V G H U L) (skR ab G r lv F mo) ar lf)/\x.ownsRow 0 5 1 (Es aj 0 7808 bo) L.length (bv L)/\x.heap[I.heap.size]? =some (.cells aH 94 (0,0)))
  (by
   obtain⟨bQ,ba,bb,_⟩:=d' cr;first
    |exact⟨bQ,ba,bb⟩
    |(have aJ:=z36 (z11 bP.heap.size bP) 1;exact⟨bQ.below aJ (λ_ h=>.inl h),Q' ba (λg ai=>aJ.block g (z14 ba g ai).2),(aJ.block _ (z12 bb)).trans bb⟩)) ?_
 clear bq;rintro fA ⟨br,i3,aQ⟩;have bp:=(d' cr).2.2.2;clear cr;have du:=y' (z13 br (z13 i3 (z13 aQ bp)));clear br i3 aQ bp;go_upto_region 6 with (go_at_call 92;refine Cm (dj _) ?_;rintro dv fB ⟨ad,rfl,ay,bt,aR,dw⟩;have dx:=y' (z13 ay (z13 bt (z13 aR dw)));clear ay bt aR dw);clear dj;obtain⟨br,i3,aQ,cs⟩:=d' du;obtain⟨ay,bt,aR,bR⟩:=d' dx;have dy:=br.below (M':=λz=>(z=I.heap.size\/z=aj)\/z=ad) aR (λz F=>F.imp id (λe=>by rw[e];exact⟨ay,bt⟩));have i4:=Q' i3 (λg ai=>aR.block g (z14 i3 g ai).2);have bS:=(aR.block _ (z12 aQ)).trans aQ;have bu:ad≠aj:=by have:=(z14 i3 aj rfl).2;omega
 have az:I.heap.size < ad:=z21 (z12 aQ) ay;have aS:=y' (dy.keep En (Es aj 0 7808 bo) En [] [] L (z20 _ _ _ _) i4 (z20 _ _ _ _) (λg ai=>by rcases ai with h|h|h;cases h;injection h with h;exact .inl (.inr h.symm);cases h) (by omega) (by have:=d' bn;omega) (by simp) (by simp));unfold C' at aS;have dz:=y' (z13 bR (z13 bS (z13 bu (z13 az cs))));clear br i3 aQ cs ay bt aR bR dy i4 bS bu az du dx;go_upto_region 7 with (go_at_call 91;refine Cm aS ?_;rintro fC bw ⟨rfl,bc,bz⟩;have dA:=y' (z13 bc bz);clear bc bz);clear aS;have cu:Hid (Qm w a (q+4) (λz=>z=I.heap.size\/z=ad) I bw ah y u Y Z ax (AZ 182 ac V ab (vB b ar lf r.dead V G H U L) (skR ab G r lv F mo) ar lf)/\bw.ownsRow 0 5 1 (Es ad 0 Q Q) Q (bv (DC ak))/\bw.heap[I.heap.size]? =some (.cells aH 94 (0,0))/\I.heap.size < ad):=by
  obtain⟨bR,bS,bu,az,cs⟩:=d' dz;obtain⟨bc,bz⟩:=d' dA;have aB:∀z,z≠aj->¬GM En (Es aj 0 7808 bo) En z:=by rintro z F (e|e|e);cases e;injection e with e;exact F e.symm;cases e
  refine y' ⟨bc.below (z11 _ _) (λz F=>.inl ?_),Q' bR (λg ai=>?_),(bz _ (.inl (.inl rfl)) (aB _ (by omega))).trans bS,az⟩;rcases F with rfl|rfl;exact⟨.inl (.inl rfl),aB _ (by omega)⟩;exact⟨.inr rfl,aB _ bu⟩;injection ai with ai;subst ai;exact bz _ (.inr rfl) (aB _ bu)
 clear dz dA;have dB:Hid (Qk bw (Es ad 0 ak.size Q) L):=by have:=WV (d' cu).2.1 (d' aZ).1 (by have:=(d' aZ).2;omega);rw[(d' ch).2]at this;exact this
 go_upto_region 8 with (go_at_call 25;refine Cm (dh bw _ (d' dB)) ?_;rintro fD aT ⟨aa,M,rfl,hA2,bd,bA⟩;have dC:=y' (z13 hA2 (z13 bd bA));clear hA2 bd bA)
 clear dB dh;have bT:Hid (Qm w a (q+4) (λz=>(z=I.heap.size\/z=ad)\/M z) I aT ah y u Y Z ax (AZ 182 ac V ab (vB b ar lf r.dead V G H U L) (skR ab G r lv F mo) ar lf)/\aT.ownsRow 0 5 1 (Es ad 0 Q Q) Q (bv (DC ak))/\aT.heap[I.heap.size]? =some (.cells aH 94 (0,0))/\(∀lf aC,SkL (b+1) false lf false aT aa ⟨G.Qa,aG,[]⟩ aC M)/\(∀z,M z->ad < z)/\I.heap.size < ad):=by obtain⟨bc,cv,dD,az⟩:=d' cu;obtain⟨hA2,bd,bA⟩:=d' dC;have eV:=(hA2 0 H).lt;have fE:=(z14 cv ad rfl).2;exact y' ⟨bc.below bd (λz F=>F.imp id (λh=>⟨bA z h,eV z h⟩)),Q' cv (λg ai=>bd.block g (z14 cv g ai).2),(bd.block _ (z12 dD)).trans dD,hA2,λz h=>by have:=bA z h;omega,az⟩
 clear cu dC;have dE:=y' (SQ (d' bT).2.1 (d' aZ).1);go_upto_region 9 with (go_at_call 94;refine(LU _ _ ak aT (d' dE) (by have:=(d' aZ).2;omega)).mono ?_;rintro fF fG ⟨rfl,nq,rfl⟩);refine G' (λx=>Qm w a (q+4) (λz=>(z=I.heap.size\/z=ad)\/M z) I x ah y u Y Z ax (AZ 182 ac V ab (vB b ar lf r.dead V G H U L) (skR ab G r lv F mo) ar lf)/\x.ownsRow 0 5 1 (Es ad 0 Q Q) Q (bv (DC ak))/\x.heap[I.heap.size]? =some (.cells aH 94 (0,0))/\(∀lf aC,SkL (b+1) false lf false x aa ⟨G.Qa,aG,[]⟩ aC M))
  (by obtain⟨bQ,ba,bb,dv,_⟩:=d' bT;have aJ:=z36 (z11 aT.heap.size aT) nq;exact⟨bQ.below aJ (λ_ h=>.inl h),Q' ba (λg ai=>aJ.block g (z14 ba g ai).2),(aJ.block _ (z12 bb)).trans bb,λN lf=>(dv N lf).far (fbF aJ) Ih⟩) ?_
 rintro fH ⟨dF,dG,bU,hA7⟩;obtain⟨bB,az⟩:=(d' bT).2.2.2.2;clear bT dE;have aS:=y' (dF.keepF En (Es ad 0 Q Q) En [] [] (DC ak) (z20 _ _ _ _) (rH dG (d' aZ).1) (z20 _ _ _ _) (λg ai=>by rcases ai with h|h|h;cases h;injection h with h;exact .inl (.inr h.symm);cases h) (by omega) (by rw[BM];have:=(d' aZ).2;omega) (by simp) (by simp));unfold C' at aS;have dH:=y' (z13 hA7 (z13 bU (z13 bB az)));clear dF dG bU hA7 bB az;go_upto_region 10 with (go_at_call 91;refine Cm aS ?_;rintro fI be ⟨rfl,bV,bW,bX⟩;have dI:=y' (z13 bV (z13 bW bX));clear bV bW bX);clear aS;have aD:Hid (Qm w a (q+8) (λz=>z=I.heap.size\/M z) I be ah y u Y Z ax (AZ 182 ac V ab (vB b ar lf r.dead V G H U L) (skR ab G r lv F mo) ar lf)/\be.heap[I.heap.size]? =some (.cells aH 94 (0,0))/\(∀lf aC,SkL (b+1) false lf false be aa ⟨G.Qa,aG,[]⟩ aC M)):=by
  obtain⟨hA7,bU,bB,az⟩:=d' dH;obtain⟨bV,bW,bX⟩:=d' dI;have aB:∀z,z≠ad->¬GM En (Es ad 0 Q Q) En z:=by rintro z F (e|e|e);cases e;injection e with e;exact F e.symm;cases e
  refine y' ⟨bV.below (z11 _ _) (λz F=>.inl ?_),(bW _ (.inl (.inl rfl)) (aB _ (by omega))).trans bU,λN lf=>(hA7 N lf).far bX (λz F e=>e.elim (λe=>e (.inr F)) (aB z (by have:=bB z F;omega)))⟩;rcases F with rfl|F;exact⟨.inl (.inl rfl),aB _ (by omega)⟩;exact⟨.inr F,aB _ (by have:=bB z F;omega)⟩
 clear dH dI;have c4:=Bi 4 (d' aD).2.1;rw[d' eT]at c4;have c0:=Bi 0 (d' aD).1.is.blk;simp[C']at c0;have aM:=z12 (d' aD).2.1;have aI:=z12 (d' aD).1.is.blk;refine AI
  [Ep ac 0,Ep ac 0,Ep ac 0,Ep V 0,Ep I.heap.size 4,Ev (.int .u64 kp),λv aN=>Qw be.heap.size aN v L,λv aN=>Qw be.heap.size aN v L]
  [[1],[1055],[2056],[3057],[5],[5059],[4058,6060],[7061]] [56,57,58,59,60,61,62,14] [13,1,41,7,71] ?_ ?_ (hst:=by repeat' (first|exact Y' _|exact ae' _ _ _ _|exact trivial|apply z13))
 .refine⟨?_,?_,?_,?_,?_,?_,?_,?_,trivial⟩;all_goals
   intro dq x hb aA;have z0:=Bc hb aI c0;have z4:=Bc hb aM c4;have ao:=y' (((d' aD).1.below (M':=λ_=>False) hb (λ_ h=>h.elim)).is.p.2.call kp);have cl:=hb.size;unfold C' at ao;clear hb;simp only[J',List.getD_cons_zero,List.getD_cons_succ,Array.getD_eq_getD_getElem?]at aA;try simp only[and_true,Nat.reduceLT,Nat.reduceDiv,Nat.reduceMod,Nat.reduceSub,if_true,if_false,List.getD_cons_zero]at aA
   try go_simp
   try exact z11 _ _
  all_goals first
   |exact⟨rfl,z11 _ _⟩
   |(refine Cm ao ?_;rintro e eU ⟨v,rfl,cm,aO⟩;exact⟨_,rfl,aO,DI cm cl⟩)
   |exact⟨_,rfl,z11 _ _,aA⟩
   |skip
 intro f2 bf bY aq;simp only[AJ]at aq;have au:=aq.2.2.2.2.2.2.2.1;obtain⟨dJ,cw⟩:=exq (f2 13);rw[<-cw]at au;simp only[V',<-cw,Nat.zero_add,Nat.reduceAdd];clear cw aq;obtain⟨cx,cy,eW⟩:∃cx cy,dJ=Es cx 0 7808 cy:=by have h:Qw be.heap.size bf dJ L:=au;unfold Qw at h;obtain⟨g,c,e⟩:=BS (DI h (z54 _)) (by have:=d' bn;omega);rw[d' bn]at e;exact⟨g,c,e⟩
 subst eW;have aP:bf.ownsRow 0 5 1 (Es cx 0 7808 cy) L.length (bv L):=DI au (z54 _);have bq:=(CM (A:=λ_ _=>True) (by rw[AC];exact aP) (λ_ _ _ _=>trivial)).str;rw[<-(d' ch).1]at bq;have aU:=((d' aD).1.below (M':=M) bY (λz F=>.inl (.inr F))).as (P':=skP b ar lf r.dead V G H U) ((d' aD).1.below (M':=M) bY (λz F=>.inl (.inr F))).is.p.1 (λ_ h=>h);have hA9:(∀lf aC,SkL (b+1) false lf false bf aa ⟨G.Qa,aG,[]⟩ aC M):=λN lf=>((d' aD).2.2 N lf).far (fbF bY) Ih;have dK:=y' (λ(x:World) (eX:El bf x)=>lZ ((aU.below (M':=λ_=>False) eX (λ_ h=>h.elim)).is.r.at_) (d' eQ));have c1:=Bi 1 aU.is.blk;simp[C']at c1;have dL:=y' (z13 aU hA9);clear au aP aU bY aD c4 c0 aM aI hA9;try unfold C'
 go_upto_region 14 with (go_at_call 195;refine((d' dK) _ (z11 _ _)).mono ?_;rintro fJ J ⟨rb,aK,av,rfl,bg,aV,bh⟩;have dM:=y' (z13 bg (z13 aV bh));clear bg aV bh)
 clear dK bq c1;obtain⟨aU,hA9⟩:=d' dL;obtain⟨bg,aV,bh⟩:=d' dM;have cz:=bg.lt;have hA10:(∀lf aC,SkL (b+1) false lf false J aa ⟨G.Qa,aG,[]⟩ aC M):=λN lf=>(hA9 N lf).far (fbF aV) Ih;have cA:∀z,M z->z < bf.heap.size:=(hA9 0 H).lt;have bC:=aU.below (M':=λz=>M z\/SkU rb aK av z) aV (λz F=>F.imp id (λh=>⟨bh z h,cz z h⟩));obtain⟨X,bD⟩:=exq ((J.alloc (.cells #[Er aa 0,Er rb 0,.bool false,Ej 0] 182)).alloc (.cells #[Er J.heap.size 0] 176));have bi:El J X:=by rw[bD];exact bna.alloc (by simp) _
 have dN:X.heap[J.heap.size]? =some (.cells #[C' aa,C' rb,.bool false,Ej 0] 182 (0,0)):=by rw[bD,z35 _ _ _ (by simp)];exact z19 J _
 obtain⟨t2,bE⟩:=exq (AZ 182 J.heap.size aa rb (skP (b+1) false 0 false aa ⟨G.Qa,aG,[]⟩ H M) (skA rb (MB G) (EP G r) aK av) false 0:AD);have dO:t2.q=J.heap.size:=by rw[bE];rfl
 have dP:t2.Is X:=by rw[bE];exact⟨dN,(hA10 0 H).far (fbF bi) Ih,bg.far (fbF bi) Ih,λh=>by have:=cA _ h;have:=aV.size;omega,λh=>by have:=cz _ h;omega,λz h h2=>by have:=cA _ h;have:=bh _ h2;omega⟩
 have dQ:∀z,t2.In z->(M z\/SkU rb aK av z)\/J.heap.size<=z:=by intro z F;rw[bE]at F;rcases F with e|e|e;exact .inr (by omega);exact .inl (.inr e);exact .inl (.inl e)
 have cB:=y' (λw1 v1 eY eZ=>bC.pushS (X:=X) (w1:=w1) (v1:=v1) (d' ao) eS eP bi eY t2 eZ dP dQ);rw[dO]at cB;obtain⟨fK,fL,fM,bF,_,_,_⟩:=bC.open_ (d' ao);have dR:=y' (bF.below bi).Vu;have bG:=bF.wat.blk;have c0:=Bi 1 bG;have f0:=H' (i:=1) bG;simp at c0;have cC:=y' bi;have dS:=y' bG;have dT:=y' (λ(e:u.ownBlock=some ah)=>(bF.ssu ah e).2 (.inl rfl));have cD:=bF.us ax _ (d' ao);have dU:=y' (z13 bC.is.blk (z13 bC.is.r (z13 (cD ac (.inl rfl)) (λz F=>cD z (.inr (.inl F))))));have dV:=y' bE;have fa:=z12 bG;have fb:=y' bD;have dW:Hid (X.cell? ⟨J.heap.size+1,0,none⟩=some (C' J.heap.size)):=by show _= _;rw[bD];simp[C']
 clear hA9 bh bg aV hA10 cA cz bi dN dP dQ bG dO dL dM bF cD bE aU;subst bD;try unfold C' at *
 go_upto_region 15 with (at_builtin;(refine DV rfl (.tmp 90) (.tmp 92) 88 rfl 176 (.pointer none) 8 underlying88 Cs rfl u (Z.map λcE=>Er cE.q 0) (by rw[z42];exact d' dR) rfl ⟨J.heap.size+1,0,none⟩ (Er J.heap.size 0) rfl (d' dW) rfl (by rw[z42];omega) (by rw[z42];omega) ?_;intro v1 w1 cF fc cG;have dX:=y' (d' cB w1 v1 cG cF);obtain⟨g1,fN,dY⟩:=BS cF (by simp);rw[show(Z.map (λcE=>Value.pointer (some ⟨cE.q,0,none⟩))++[Value.pointer (some ⟨J.heap.size,0,none⟩)]).length=Z.length+1 by simp]at dY;have cH:=EW cG (λz F=>(d' cC).block z F) (d' cC).size (d' dS) (d' dT);subst dY;have fd:=Bi 1 cH;have f11:=H' (i:=1) cH;clear cH cF fc cG))
 refine G' (λaL=>∃bj,Qm w a (q+8) (λ_=>False) I aL ah y bj Y (Z++[t2]) (Y.length+Z.length) t2/\aL.heap[ac]? =some (.cells #[Er V 0,Er ab 0,.bool ar,Ej lf] 182 (0,0))/\QI aL ab G r lv F mo)
  (by obtain⟨h1,h2⟩:=d' dX;obtain⟨fe,ff,dZ,ea⟩:=d' dU;exact⟨_,h1,h2.blk fe (λe=>e.elim (λe=>dZ.2.1 (.inl e)) dZ.2.2.2),(skR ab G r lv F mo).far ff h2 (λz F e=>e.elim (λe=>(ea z F).2.1 (.inl e)) (ea z F).2.2.2)⟩) ?_
 rintro aL ⟨bj,eb,ec,cI⟩;have c1:=Bi 1 ec;have d4:=Bi 1 cI.at_.blk;simp[AK]at c1 d4;have bH:=y' eb;clear ec dX fd f11 c0 f0 fa fb bC eb dU cB dW dT dR dS cC;cases aW:r.dead with
 |false=>
  rw[aW]at d4;clear cI;go_wp2;go_ret;have cJ:aG=G.Qc:=by rw[d' dd];unfold wG;rw[if_neg (by rw[aW];decide)]
  obtain⟨bZ,fO⟩:=(d' bm).live aW;rw[d' dV,cJ]at bH;have T:=d' bH;have cK:=T.ref (R':=skR rb (MB G) (EP G r) aK av []) (ar':=false) (lf':=0) (Far.refl _ _) T.is.blk ⟨T.is.r,by show _= _/\ _;rw[show(EP G r).more=En from bZ];exact z20 _ _ _ _,λz F=>by rw[show(EP G r).more=En from bZ]at F;cases F⟩ (λz F=>F.elim .inl (λh=>by rw[show(EP G r).more=En from bZ]at h;cases h));have bI:GJ (q+1) (AZ 182 J.heap.size aa rb (skP (b+1) false 0 false aa (MB G) H M) (skR rb (MB G) (EP G r) aK av []) false 0):=⟨b+1,J.heap.size,aa,rb,MB G,EP G r,aK,av,[],H,M,false,0,by have:=d' dg;omega,rfl,by show(0:Int)<= _;omega,rJ (d' bm).Vr,λ_=>⟨bZ,rfl⟩,λh=>by cases h⟩;exact⟨rfl,bj,_,bI,_,_,bI,(cK.Vu rfl).mono (by omega)⟩
 |true=>
  rw[aW]at d4;rw[d' dV]at bH;have cJ:H=aG:=by rw[d' dd];unfold wG;rw[if_pos aW]
  subst cJ;go_upto_region 18 with fail;obtain⟨lb,ed⟩:=exq (aL.heap.size);have cL:=y' (Yh.start (Ls:=H) (d' bH));rw[<-ed]at cL ⊢;have ee:=y' (show ∀j:Nat,j < 3->mA false (⟨G.Qa,H,[]⟩:Mq.Sk) (j:Int)=H j fromλj hj=>by unfold mA ML;rw[if_neg (by decide),if_pos (by omega)];rfl);have cM:=y' (show ∀j,j < 3->(H j).length<=900 fromλj hj=>by obtain⟨_,_,ef,_⟩:=(d' bm).dead aW;unfold Mq.Sk.count at ef;simp only at ef;obtain rfl|rfl|rfl:j=0\/j=1\/j=2:=(by omega);all_goals omega);clear ed c1 d4 bH cI;go_wp2;go_loopw[16,17] (λi _ wr=>∃ (j:Nat) (aX:Nat->Value),j<=3/\i=.int .i64 j/\Yh w a (q+8+4 * j) I wr ah y bj Y (Z++[AZ 182 J.heap.size aa rb (skP (b+1) false 0 false aa ⟨G.Qa,H,[]⟩ H M) (skA rb (MB G) (EP G r) aK av) false 0]) (Y.length+Z.length) (AZ 182 J.heap.size aa rb (skP (b+1) false 0 false aa ⟨G.Qa,H,[]⟩ H M) (skA rb (MB G) (EP G r) aK av) false 0) lb j aX H) (λi _ _=>3 - (intOf i).toNat)
  case atStart=>exact⟨0,_,by omega,rfl,d' cL⟩
  case round=>
   obtain⟨j,aX,hj,rfl,aE⟩:=hrel;clear cL;by_cases bk:j < 3
   .have fP:(j:Int) < 3:=(by omega);have ca:=y' (SkL.log j aE.am.is.p);rw[(d' ee) j bk]at ca;have cN:=Bi j (aE.box.trans rfl);rw[Ez aX bk,aE.none_ j (z16 _)]at cN;have eg:=H' (i:=j) aE.box;have aF:=z12 aE.box;have eh:=y' aE;unfold C' at ca;clear aE;go_upto_region 22 with (go_at_call 17;refine Cm ca ?_;rintro fQ fR ⟨lv,rfl,au,bJ⟩;have cb:=y' au;have ei:=Bc bJ aF cN;have ej:=(bJ.frozen (p:=⟨lb,j,none⟩) aF).trans eg;have cO:=z21 aF bJ.size;have ek:=y' bJ;clear au bJ);clear cN eg aF ca;obtain⟨em,en,eo,rfl⟩:∃em en eo,lv=.slice em en eo:=⟨_,_,_,(AR (d' cb)).form⟩;go_upto_region 23 with (at_builtin;(refine OL rfl (.tmp 114) (.tmp 115) rfl rfl rfl (AR (d' cb)) ((d' cM) j bk) ?_;intro v' fS cP cc eq;obtain⟨er,un,es,rfl⟩:∃er un es,v'=.slice er un es:=⟨_,_,_,(cP.listAt rfl).form⟩;have fg:=Bc cc cO ei;have fh:=(cc.frozen (p:=⟨lb,j,none⟩) cO).trans ej;have cQ:=y' (Yh.round (d' eh) bk (d' ek) (d' cb) ((d' cM) j bk) cc cP eq (by omega));clear cP cc eq));clear ei ej cO cb ek eh;unfold C' at cQ;go_upto_region 20 with (go_at_call 91;refine Cm cQ ?_;rintro fi fj ⟨rfl,et⟩;have fk:=y' et;clear et);clear cQ fg fh;go_wp2;go_roundw
    case rel=>exact⟨j+1,_,by omega,by go_num,d' fk⟩
    case measure=>simp[intOf];omega
   have fm:j=3:=(by omega);subst fm;have aY:=y' aE;clear aE hj bk cM ee;have cR:=y' (SkL.Qa (d' aY).am.is.p);unfold C' at cR;go_upto_region 25 with (go_at_call 27;refine Cm cR ?_;rintro fi fj ⟨rfl,rfl⟩);clear cR;have cS:=Bi 1 (d' aY).am.is.blk;have aI:=z12 (d' aY).am.is.blk;have aF:=z12 (d' aY).box;obtain⟨cT,cU,cV⟩:=DQ (d' aY).box;simp[C']at cS cT cU cV;refine CO
    [Ep J.heap.size 0,Ep J.heap.size 0,Ep J.heap.size 1,Ep rb 0,Ei G.Qa,Ev (.agg #[aX 0,aX 1,aX 2]),Et,Et]
    [[14],[1125],[2126],[3127],[18],[15],[4128,5129,6130],[7131]] [126,127,128,129,130,131,132,20] [19,1,105,7,1]
    6 _ rfl ?_ ?_ ?_
   .refine⟨?_,?_,?_,?_,?_,?_,trivial⟩;all_goals
     intro dq x hb aA;have fT:=Bc hb aI cS;have u0:=Bc hb aF cT;have u1:=Bc hb aF cU;have u2:=Bc hb aF cV;clear hb;simp[J']at aA;try go_simp
     try exact z11 _ _
    all_goals first|exact⟨rfl,z11 _ _⟩|skip
   intro f9 bf aq;rfl;intro f9 fo hb aq;simp only[AJ,List.take]at aq;obtain⟨_,_,_,eu,ev,ew,_⟩:=aq;have bl:=y' ((d' aY).below hb);clear hb aY cS cT cU cV aI aF;simp only[V',eu,ev,ew];clear eu ev ew;go_simp;have ey:=(d' bl).list;obtain⟨nd,ez,eA,eB⟩:=(d' bm).dead aW;have eC:=(z25.1 (d' ao)).1;rw[z29]at eC;have cW:=(d' bl).am.other (j:=ax) (u:=skT b ac V ab G r lv F mo H U ar lf) (by omega) (by rw[<-z39,z44 (by rw[z29];exact eC)];exact d' ao);have eD:QI fo ab G r lv F mo:=Vp.r cW.1;have cX:Mq.Sk.count {MB G with Qc:=H}<=120:=eA;refine(vA (r:=EP G r) (d' bl).am.is.r (mo:=mo) (AR eD.row) (λz F h=>cW.2 z (.inr (.inl (.inr F))) (.inr (.inl h))) ez eB cX (ls:=aX) ey (λs k z F h=>(d' bl).am.mnot (.inr ⟨s,k,F⟩) (.inr (.inl h)))).mono ?_;rintro fV fq ⟨rfl,cY,eE,hF,eF⟩;have fs:Hid (∃t0,GJ (q+1) t0/\Xv GJ w a (q+20) (q+1) I fq ah y bj Y (Z++[t0]) (Y.length+Z.length)):=by have T:=(d' bl).am;have cK:=T.ref (R':=skR rb ⟨G.Qa,H,[]⟩ ⟨false,(EP G r).next,(EP G r).inn,En⟩ cY av []) (ar':=false) (lf':=0) (hF.mono (λz _ h=>.inr h)) (hF.blk T.is.blk T.is.qR) ⟨eE,z20 _ _ _ _,λz F=>by cases F⟩ (λz F=>F.elim (eF z) (λh=>by cases h));have bI:GJ (q+1) (AZ 182 J.heap.size aa rb (skP (b+1) false 0 false aa ⟨G.Qa,H,[]⟩ H M) (skR rb ⟨G.Qa,H,[]⟩ ⟨false,(EP G r).next,(EP G r).inn,En⟩ cY av []) false 0):=⟨b+1,J.heap.size,aa,rb,⟨G.Qa,H,[]⟩,⟨false,(EP G r).next,(EP G r).inn,En⟩,cY,av,[],H,M,false,0,by have:=d' dg;omega,rfl,by show(0:Int)<= _;omega,⟨λh ft=>by simp at ft,by simp,cX,(d' bm).Vr.ep⟩,λ_=>⟨rfl,rfl⟩,λh=>by cases h⟩;exact y' ⟨_,bI,_,_,bI,(cK.Vu rfl).mono (by omega)⟩
   clear eE hF eF bl ey cW eD cX eB eA ez;intro eG fW;obtain⟨fX,rfl⟩:∃b,eG=b+1:=⟨eG - 1,by omega⟩;refine BP (i:=7) (by kernel_rfl) rfl rfl ?_;go_simp;refine DP (by kernel_rfl) ?_;go_wp2;go_ret;obtain⟨t0,g1,g2⟩:=d' fs;exact⟨rfl,bj,t0,g1,g2⟩
open Go.ChangeShapes Go.WideShapes Go.ChangeAt
theorem Tryz.own:ownKnob prog.godebug=none:=by kernel_rfl
theorem Tryz.laidOut:laidOutB prog=true:=by kernel_rfl
theorem wJ:prog.cellsOf 94=10:=by kernel_rfl
theorem Ib:prog.cellsOf 63=5:=by kernel_rfl
theorem rO:prog.cellsOf 3=1:=by kernel_rfl
theorem Fb:prog.cellsOf 23=1:=by kernel_rfl
theorem strCells:prog.cellsOf 9=1:=by kernel_rfl
theorem jG (b off k:Nat):(⟨b,off,none⟩:Addr).add k=⟨b,off+k,none⟩:=by
 unfold Addr.add;split;rename_i h;rw[h];rfl;rfl
theorem eG {z:Type} {d:DataW z}:∀ {l:List (DataW z)},d∈l->Rows.uptoBulk d<=Rows.uptoBulkAll l
 |[],h=>by cases h
 |x::r,h=>by
  rw[Rows.uptoBulkAll];rw[zR]at h;rcases h with rfl|h
  .omega
  .have:=eG h;omega
theorem Fc {z:Type} (d:DataW z):1<=Rows.uptoBulk d:=by
 cases d with
 |lit x=>cases x <;> simp[Rows.uptoBulk]
 | _=>simp[Rows.uptoBulk]
theorem rP {z:Type}:∀ (l:List (DataW z)),l.length<=Rows.uptoBulkAll l
 |[]=>by simp
 |x::r=>by rw[Rows.uptoBulkAll,z60];have:=rP r;have:=Fc x;omega
def wK (z F:Int) (s b:z10):Prop:=(-9223372036854775808<=z/\z<=9223372036854775807)/\(-9223372036854775808<=F/\F<=9223372036854775807)/\s.size<=1048576/\b.size<=1048576
def OpJ (w:World) (F o:Nat):Prop:=
 ∃ (G z i:Int) (s:z10) (kp k e st q:Int) (b:z10),wK z i s b/\
  ∀j,j < 10->w.cell? (Ea F (o+j))= #[Ej G,Ej z,Ej i,.string s,.int .u64 kp,Ej k,Ej e,Ej st,Ej q,.string b][j]?
theorem QJ (w:World):Qr w.heap.size 0 (λ_ _=>False) (w.alloc (.cells #[En,En,En] 91)) w.heap.size En En En [] [] []:=
 ⟨by simp,⟨z19 w _,z20 _ _ _ _,λp z=>absurd z uY⟩,z20 _ _ _ _,z20 _ _ _ _,by simp,by simp,λi u h=>by(simp at h),λi j u v h=>by(simp at h),λi u h=>by(simp at h),λk h=>by(cases h),λk h=>by(cases h),λk h=>h.elim (λh=>by omega) (λh=>by cases h),by simp,λb o h=>h.elim⟩
theorem rQ (K:DK) (w:World):Qx K w.heap.size (w.heap.size+1) 0 (w.alloc (.cells #[En,En,En] 91)) w.heap.size:=
 ⟨_,_,_,_,_,[],[],QJ w,λk h=>by
  rcases h with (h|h)|h|h|⟨i,u,h,_⟩
  .omega
  .cases h
  .cases h
  .cases h
  .simp at h,λt h=>absurd h uY,λt h=>absurd h uY⟩
def mI (K:DK) (f0 t0:Int):Prop:=∀ (B D n:Nat) (x:World) (z:Nat),Qx K B D n x z->∀ (F G i:Int) (s:z10) (kp I J M Q:Int) (H:z10),f0<=F/\F<=t0->wK G i s H->n+60<=1000000000->
 Cp 60 #[C' z,AL F G i s kp I J M Q H] x λr y=>Rr r (.bool true)/\Qx K B y.heap.size (n+60) y z/\Far (λk=>B<=k/\k < D) x y
theorem zL {K:DK} (hst:mI K o V) (ab:Option Addr) (len cap:Nat) (w:World) (bd:60 * len+60<=1000000000) (h:0 < len->∃M off,ab=some ⟨M,off,none⟩/\M < w.heap.size/\∀i,i < len->OpJ w M (off+i * 10)):
  Cp 32 #[.slice ab len cap,.int .i64 o,.int .i64 V,.int .i64 o,.int .i64 V] w λr w'=>r=.returned (.int .i64 (-1))/\Below w.heap.size w w':=by
 have aW:=y' hst;clear hst;have ac:=y' h;have ad:=y' (rQ K w);clear h;have n1:len<=9223372036854775807:=by omega
 go_enter func32,ntmps32;go_wp2;go_loopw[12] (λi wr=>∃k n:Nat,k<=len/\i=.int .i64 k/\n<=60 * k/\Qx K w.heap.size wr.heap.size n wr w.heap.size/\Below w.heap.size w wr) (λi _=>len - (intOf i).toNat)
 case atStart=>exact⟨0,0,by omega,rfl,by omega,(d' ad).size,bna⟩
 case round=>
  obtain⟨k,n,be,rfl,hn,S,hb⟩:=hrel;by_cases aX:k < len
  .obtain⟨M,off,rfl,G,ah⟩:=(d' ac) (by omega);obtain⟨J,ai,aj,s,kp,ak,ao,aq,au,av,ax,H⟩:=ah k aX;have c0:=Bc hb G (H 0 (by omega));have c1:=Bc hb G (H 1 (by omega));have c2:=Bc hb G (H 2 (by omega));have c3:=Bc hb G (H 3 (by omega));have c4:=Bc hb G (H 4 (by omega));have c5:=Bc hb G (H 5 (by omega));have ay:=Bc hb G (H 6 (by omega));have az:=Bc hb G (H 7 (by omega));have aA:=Bc hb G (H 8 (by omega));have aB:=Bc hb G (H 9 (by omega));simp at c0 c1 c2 c3 c4 c5 ay az aA aB;have I:=y' S;have z:=y' hb;have aC:=y' ax;clear H ah G S hb ax ac ad;go_upto_region 6 with fail;refine G' (λx=>Qx K w.heap.size wr.heap.size n x w.heap.size/\Below w.heap.size w x/\w.heap.size<=wr.heap.size/\wr.heap.size < x.heap.size/\x.heap[wr.heap.size]? =some (.cells #[.int .i64 J,.int .i64 ai,.int .i64 aj,.string s,.int .u64 kp,.int .i64 ak,.int .i64 ao,.int .i64 aq,.int .i64 au,.string av] 94 (0,0)))
    ⟨(d' I).below bna,(d' z).trans (bna.mono (d' z).size),(d' z).size,by simp,z19 wr _⟩ ?_
   clear c0 c1 c2 c3 c4 c5 ay az aA aB I z;generalize wr.heap.size=aY;rintro x ⟨S,hb,bf,aZ,F⟩;have Q:=Bi 0 F;have aD:=Bi 1 F;have aE:=Bi 2 F;have aF:=Bi 3 F;have aG:=Bi 4 F;have aH:=Bi 5 F;have aI:=Bi 6 F;have aJ:=Bi 7 F;have aK:=Bi 8 F;have aL:=Bi 9 F;simp at Q aD aE aF aG aH aI aJ aK aL;have aM:=y' F;have z:=y' hb;have I:=y' S;clear S hb aZ F;by_cases k8:o<=J
   .by_cases k10:J<=V
    .have Y:=y' ((d' aW) w.heap.size aY n x w.heap.size (d' I) J ai aj s kp ak ao aq au av ⟨k8,k10⟩ (d' aC) (by omega));unfold C' AL at Y;clear I aC;go_upto_region 8 with (go_at_call 60;refine Cm Y ?_;rintro r bg ⟨rfl,aN,aO⟩;have ba:=y' aN;have Z:=y' aO;clear aN aO);have aP:=(d' Z).blk (d' aM) (by omega);have aQ:=(d' z).trans ((d' Z).below (B:=w.heap.size) (d' z).size (λg bh e=>by omega));have aR:=y' aP;have aS:=y' aQ;have aT:=y' (d' ba).looks;unfold C' at aT;clear Y Q aD aE aF aG aH aI aJ aK aL aM z aP aQ Z;go_upto_region 9 with (go_at_call 62;refine Cm aT ?_;rintro r bi ⟨rfl,aU,aa⟩;have aV:=(aa.block _ (z12 (d' aR))).trans (d' aR);have Q:=Bi 0 aV;simp at Q;have bb:=y' aU;have bc:=y' aa;clear aU aa aV);go_wp2;go_roundw
     case rel=>exact⟨k+1,n+60,by omega,by go_num,by omega,(d' bb).size,(d' aS).trans ((d' bc).mono (d' aS).size)⟩
     case measure=>simp[intOf];omega
    have bj:V < J:=(by omega);go_wp2;go_roundw
    case rel=>exact⟨k+1,n,by omega,by go_num,by omega,(d' I).size,d' z⟩
    case measure=>simp[intOf];omega
   have bk:J < o:=(by omega);go_wp2;go_roundw
   case rel=>exact⟨k+1,n,by omega,by go_num,by omega,(d' I).size,d' z⟩
   case measure=>simp[intOf];omega
  have z:=y' hb;clear hb S;go_wp2;go_ret;exact⟨rfl,d' z⟩
theorem Fe {M:Type} {enc:TypeId×Value->M} {y:DataW M×List MemPlace}
  (h:DataW.trod enc prog p w dM aD a 94 C=some y) (Q:Rows.uptoBulk y.1<=1048576):
  ∃ (H G i:Int) (s:z10) (kp k e st q:Int) (b:z10),C=[Ej H,Ej G,Ej i,.string s,.int .u64 kp,Ej k,Ej e,Ej st,Ej q,.string b]/\wK G i s b:=by
 obtain⟨xs,n,_,rfl,hl,aq,z⟩:=DataW.trod_struct underlying94 h;rw[wJ]at hl;match C,hl,xs,aq with
 |[d0,d1,d2,d3,d4,d5,d6,d7,d8,d9],_,[aA,aB,aC,aE,aF,aG],_=>
  have h0:=z 0 _ rfl;have h1:=z 1 _ rfl;have h2:=z 2 _ rfl;have h3:=z 3 _ rfl;have h4:=z 4 _ rfl;have h5:=z 5 _ rfl;simp[rO,strCells,Fb,Ib]at h0 h1 h2 h3 h4 h5;obtain⟨H,V,_,_⟩:=rN underlying3 h0;obtain⟨G,Y,_,I⟩:=rN underlying3 h1;obtain⟨i,Z,_,J⟩:=rN underlying3 h2;obtain⟨s,aa,au,_⟩:=DataW.trod_string underlying9 h3;obtain⟨kp,ab,_,_⟩:=rN underlying23 h4;obtain⟨av,n2,_,ax,_,ay,F⟩:=DataW.trod_struct underlying63 h5;match av,ay with
  |[z0,aH,aI,z3,z4],_=>have g0:=F 0 _ rfl;have g1:=F 1 _ rfl;have g2:=F 2 _ rfl;have ac:=F 3 _ rfl;have ad:=F 4 _ rfl;simp[rO,strCells]at g0 g1 g2 ac ad;obtain⟨k,ah,_,_⟩:=rN underlying3 g0;obtain⟨e,ai,_,_⟩:=rN underlying3 g1;obtain⟨st,aj,_,_⟩:=rN underlying3 g2;obtain⟨q,ak,_,_⟩:=rN underlying3 ac;obtain⟨b,ao,az,_⟩:=DataW.trod_string underlying9 ad;simp at V Y Z aa ab ah ai aj ak ao;subst V Y Z aa ab ah ai aj ak ao;subst az ax au;simp only[Lit.wf,Bool.and_eq_true,decide_eq_true_eq]at I J;rw[show IntKind.i64.min= -9223372036854775808 from by decide,show IntKind.i64.max=9223372036854775807 from by decide]at I J;simp only[Rows.uptoBulk,Rows.uptoBulkAll,List.map_cons]at Q;simp at Q;exact⟨H,G,i,s,kp,k,e,st,q,b,rfl,I,J,by omega,by omega⟩
theorem zM {M:Type} {enc:TypeId×Value->M} {d:DataW M}
  (h:DataW.Trod enc prog p w dM aD 65 y d pM) (aa:∃a len cap,y=.slice a len cap) (ab:Rows.uptoBulk d<=1048576):
  ∃Q len cap,y=.slice Q len cap/\len<=1048576/\(0 < len->∃F off,Q=some ⟨F,off,none⟩/\F < p.heap.size/\∀i,i < len->OpJ p F (off+i * 10)):=by
 obtain⟨a0,z,c0,rfl⟩:=aa;obtain⟨az,V⟩:=h;have ac:(Value.slice a0 z c0).cells.toList=[.slice a0 z c0]:=rfl;rw[ac]at V;rcases Deep.open_slice underlying65 V with ⟨e,_⟩|⟨a,len,cap,m,n,D,aA,e,_,hl,_,ad,hd,hi⟩;injection e with e;injection e with G H I;subst G H I;exact⟨none,0,0,rfl,by omega,λh=>absurd h (by omega)⟩;injection e with e;injection e with G H I;subst G H I;injection hd with hd _;subst hd;have aB:z<=m:=by rw[ad];split <;> omega
 have Y:((List.range z).map D).length<=1048576/\∀x∈ (List.range z).map D,Rows.uptoBulk x<=1048576:=by simp only[Rows.uptoBulk]at ab;have h1:=rP ((List.range z).map D);refine⟨by omega,λx ah=>?_⟩;have:=eG ah;omega
 refine⟨some a,z,c0,rfl,by have:=Y.1;simpa using this,λh0=>?_⟩;rw[wJ]at hi;obtain⟨F,off,Z⟩:=a;have ai:Z=none/\F < p.heap.size:=by
  obtain⟨aj,h1,h2⟩:=hi 0 (by omega);obtain⟨_,ak,J⟩:=World.cells?_some h1;have:=J 0 (by omega);rw[z17 (by omega)]at this;simp only[Addr.add,Nat.zero_mul,if_true]at this;unfold World.cell? at this;simp only at this;split at this
  .rename_i hb;refine⟨?_,z12 hb⟩;cases Z with
   |none=>rfl
   |some _=>simp at this
  cases this
 obtain⟨rfl,ao⟩:=ai;refine⟨F,off,rfl,ao,λi aq=>?_⟩;obtain⟨aj,h1,h2⟩:=hi i (by omega);obtain⟨_,ak,J⟩:=World.cells?_some h1;obtain⟨au,av,ax,s,kp,k,e,st,q,b,rfl,ay⟩:=Fe h2 (Y.2 _ (z66.2 ⟨i,by simpa using aq,rfl⟩));refine⟨au,av,ax,s,kp,k,e,st,q,b,ay,λj hj=>?_⟩;have:=J j hj;rw[jG,jG]at this;rw[this];simp
theorem Qx.keepE {K:DK} {l:List UInt8} (S:Qx K w a q p b) (hb:El p f) (J:f.ownsRow 0 5 1 y l.length (bv l)) (H:∀g,y.ownBlock=some g->p.heap.size<=g) (M:q+4<=17592186044416) (Q:l.length<=140737488353990):
  Cp 91 #[C' b,C' f.heap.size] (f.alloc (.cells #[En,y,En,Ej 0,.string ⟨#[]⟩,.string ⟨#[]⟩] 160)) λr z=>Rr r (.tuple #[])/\Qx K w z.heap.size (q+4) z b/\Far (λk=>w<=k/\k < a) p z/\
   ∀k,p.heap.size<=k->k < f.heap.size->y.ownBlock≠some k->z.heap[k]? =f.heap[k]? :=by
 obtain⟨A,V,Y,aq,hs,Z,ls,S,aa,ab,ac⟩:=S;have I:=Zz.start S;have ad:=S.wat.us_lt;refine((I.below hb).keep En y En [] [] l (z20 _ _ _ _) J (z20 _ _ _ _) (λg ah=>?_) M Q (by simp) (by simp)).mono ?_;rcases ah with h|h|h;cases h;exact⟨I.mine (H g h),H g h⟩;cases h;rintro r z ⟨rfl,ai,aj,ak,F,ao,_⟩;refine⟨rfl,⟨ai,V,Y,aj,ak,Z,ls,F.S,F.S.bnd,λt G=>K.upA (by omega) (ab t G),λt G=>K.upS (by omega) (ac t G)⟩,F.far.mono (λk _ h=>⟨S.usB k h,aa k (.inl h)⟩),λk h1 h2 h3=>ao.rest k h2 ?_⟩;rintro((h|h|h)|h);cases h;exact h3 h;cases h;have:=ad k h;omega
theorem mJ {K:DK} (B C:Nat) (w:World) (F n:Nat) (ao aq i:Int) (s:z10) (kp k e st q:Int) (b:z10) (S:Qx K B C n w F) (au:n+4<=17592186044416) (z:Qb.proper k e st q b=true):
  Cp 57 #[C' F,AL ao aq i s kp k e st q b] w λr w'=>Rr r (.bool true)/\Qx K B w'.heap.size (n+4) w' F/\Far (λk=>B<=k/\k < C) w w':=by
 have G:=λw=>y' (PJ k e st q b w z);have H:=λw=>y' (eQ k e st q b w z);have aa:Hid ((Qb.bytes k e st q b.data.toList).length<=1000):=by obtain⟨_,_,_,_,h5⟩:=BZ z;show _<= _;rw[Zu];simp;omega
 have av:=y' S;clear S z;generalize Qb.bytes k e st q b.data.toList=l at G H aa;unfold C' AL;go_enter func57,ntmps57;go_upto_region 2 with (go_at_call 26;refine Cm (G _) ?_;rintro r w1 ⟨v,rfl,I,J⟩;have ax:=y' I.at;have y:=DA J;have ab:=y 5;have ac:=y 6;have ad:=y 7;have ah:=y 8;have ai:=y 9;simp at ab ac ad ah ai;have aj:=XK J (z16 _);have M:=y' I;have Q:=y' aj;clear y J I aj);go_upto_region 3 with (go_at_call 90;refine Cm (H _) ?_;rintro r aD ⟨rfl,V⟩;have ak:=(d' M).below V (λg Y=>((d' M).lt g Y).2);have b2:=(d' Q).trans (V.mono (d' Q).size);have Z:=y' ak;have ay:=y' b2;clear V ak b2);have az:=(CM (A:=λ_ _=>True) (by have:=(d' Z).zero;rw[<-AC l]at this;exact this) (λ_ _ _ _=>trivial)).str;go_upto_region 4 with fail;clear ab ac ad ah ai az G H M Q;have aE:=d' aa;obtain⟨aF,cap,aA,_⟩:=d' ax;subst aA;go_wp2_with (go_at_call 91;refine((d' av).keepE (d' ay) (d' Z).zero (λg Y=>by have:=((d' Z).lt g Y).1;simp at this;omega) au (by omega)).mono ?_;rintro r aG ⟨rfl,aB,aC,_⟩);go_ret;exact⟨rfl,aB,aC⟩
theorem rR {K:DK} (B C:Nat) (w:World) (z n:Nat) (ac ad i:Int) (s:z10) (kp k e st q:Int) (b:z10) (S:Qx K B C n w z) (ah:n+4<=17592186044416) (hb:b.size<=9223372036854775807) (F:Qb.proper k e st q b=false):
  Cp 57 #[C' z,AL ac ad i s kp k e st q b] w λr w'=>Rr r (.bool true)/\Qx K B w'.heap.size (n+4) w' z/\Far (λk=>B<=k/\k < C) w w':=by
 have I:=λw=>y' (QQ k e st q b w F);have J:=λw=>y' (jQ k e st q b w hb F);have ai:=y' S;clear S F hb;unfold C' AL;go_enter func57,ntmps57;go_upto_region 2 with (go_at_call 26;refine Cm (I _) ?_;rintro r w1 ⟨rfl,G⟩;have y:=DA G;have M:=y 5;have Q:=y 6;have V:=y 7;have Y:=y 8;have Z:=y 9;simp at M Q V Y Z;have aa:=XK G (z16 _);have H:=y' aa;clear y G aa);go_upto_region 3 with (go_at_call 90;refine Cm (J _) ?_;rintro r aj ⟨rfl,ab⟩;have b2:=(d' H).trans (ab.mono (d' H).size);have ak:=y' b2;clear ab b2);have ao:=(CM (A:=λ_ _=>True) (w:=aj) (v:=En) (l:=[]) (z20 _ _ _ _) (λ_ _ _ _=>trivial)).str;go_upto_region 4 with fail;clear M Q V Y Z ao I J H;go_wp2_with (go_at_call 91;refine((d' ai).keepE (l:=[]) (d' ak) (z20 _ _ _ _) (λg aq=>by cases aq) ah (by simp)).mono ?_;rintro r ax ⟨rfl,au,av,_⟩);go_ret;exact⟨rfl,au,av⟩
theorem SW {K:DK} (B C:Nat) (w:World) (z n:Nat) (F G i:Int) (s:z10) (kp k e st q:Int) (b:z10) (S:Qx K B C n w z) (H:n+4<=17592186044416) (hb:b.size<=9223372036854775807):
  Cp 57 #[C' z,AL F G i s kp k e st q b] w λr w'=>Rr r (.bool true)/\Qx K B w'.heap.size (n+4) w' z/\Far (λk=>B<=k/\k < C) w w':=by
 cases I:Qb.proper k e st q b;exact rR B C w z n F G i s kp k e st q b S H hb I;exact mJ B C w z n F G i s kp k e st q b S H I
theorem mK {K:DK} (B C:Nat) (w:World) (Y n:Nat) (be bf i:Int) (s:z10) (kp k e st q:Int) (b:z10) (S:Qx K B C n w Y) (aq:n+4<=17592186044416) (Z:s.size<=140737488353980)
  (a1 a2 a3 a4:Int) (a5:z10) (au:Int)
  (av:∀v w,Qk w v s.data.toList->Cp 64 #[v] w λr w'=>Rr r (.tuple #[.agg #[Ej a1,Ej a2,Ej a3,Ej a4,.string a5],Ej au])/\El w w')
  (ax:∀w,Cp 93 #[.string s] w λr w'=>Rr r (.tuple #[.agg #[Ej a1,Ej a2,Ej a3,Ej a4,.string a5],Ej au])/\El w w'):
  Cp 58 #[C' Y,AL be bf i s kp k e st q b] w λr w'=>Rr r (.bool true)/\Qx K B w'.heap.size (n+4) w' Y/\Far (λk=>B<=k/\k < C) w w':=by
 obtain⟨z,hn⟩:∃z:Nat,s.size+8=z:=⟨_,rfl⟩;have ay:=λw O e h=>y' (Ar s w O e z hn Z h);have az:=λv w h=>y' (av v w h);have aA:=λw=>y' (ax w);have bg:=y' S;have H:=y' hn;have bh:¬z=0:=by omega
 have bi:s.size<=z:=by omega
 have bj:(s.size:Int)<=z:=by omega
 clear S av ax hn;unfold C' AL;go_enter func58,ntmps58;go_upto_region 2 with (go_at_call 92;refine Cm (ay _ _ _ (by simp)) ?_;rintro r w1 ⟨g,rfl,aa⟩;have I:=y' aa;have s3:=aa.s3;clear aa);clear ay;go_upto_region 3 with (go_at_call 64;refine Cm (az _ w1 ((d' I).at (d' H) Z)) ?_;rintro r ab ⟨rfl,ac⟩;have aB:=(d' I).below ac;have aC:=y' aB;have aD:=z21 (d' I).glt ac.size;have ad:=y' aD;clear aB ac aD s3);refine G' (λx=>Lay w x s g z/\ab.heap.size < x.heap.size/\Xe x ab.heap.size a1 a2 a3 a4 a5) ⟨(d' aC).below bna,by simp,CU _ _ _ _ _ _ _⟩ ?_;clear aC I az;generalize ab.heap.size=f6 at ad ⊢;rintro br ⟨ah,aE,aF⟩;have s3:=ah.s3;have aG:=y' ah;have aH:=y' aF;have ai:=y' aE;clear ah aE aF;go_upto_region 4 with (go_at_call 93;refine Cm (aA _) ?_;rintro r J ⟨rfl,M⟩;have aI:=(d' aG).below M;have aJ:=y' aI;have aK:=(d' aH).below M (d' ai);have aL:=y' aK;have aM:=z21 (d' ai) M.size;have F:=y' aM;clear aI M aK aM s3);refine G' (λx=>Lay w x s g z/\J.heap.size < x.heap.size/\Xe x J.heap.size a1 a2 a3 a4 a5/\Xe x f6 a1 a2 a3 a4 a5) ⟨(d' aJ).below bna,by simp,CU _ _ _ _ _ _ _,(d' aL).below (C:=J.heap.size) bna (d' F)⟩ ?_;clear aJ aG aA aH aL ai;generalize J.heap.size=f8 at F ⊢;rintro aj ⟨Q,aN,aO,aP⟩;have s3:=Q.s3;have aQ:=y' Q;have aR:=y' aO;have aS:=y' aP;have V:=y' aN;have aT:=y' (Q.bat (d' H));clear Q aN aO aP;go_upto_region 5 with (go_at_call 94;refine(LU _ _ s aj (d' aT) (by omega)).mono ?_;rintro r bt ⟨rfl,nq,rfl⟩);refine G' (λx=>Lay w x s g z/\f8 < x.heap.size/\Xe x f8 a1 a2 a3 a4 a5/\Xe x f6 a1 a2 a3 a4 a5) ⟨(d' aQ).below (z36 (z11 _ _) _),d' V,(d' aR).below (C:=aj.heap.size) (z36 (z11 _ _) _) (d' V),(d' aS).below (C:=aj.heap.size) (z36 (z11 _ _) _) (Nat.lt_trans (d' F) (d' V))⟩ ?_;clear aQ aR aS V aT s3;rintro bu ⟨G,aU,aV,aW⟩;have ak:=y' G;have aX:=y' aV;have aY:=y' aW;have aZ:=y' aU;have ba:=y' ((d' bg).keepE (l:=DC s) G.bel (by rw[BM,d' H];exact G.own) (λk bk=>by cases bk;exact Nat.le_of_lt G.lt) aq (by rw[BM];omega));clear G aU aV aW;go_upto_region 6 with (go_at_call 91;refine Cm ba ?_;rintro r bw ⟨rfl,bb,bc,bd⟩;have bl:=y' bb;have bm:=y' bc;have ao:=y' bd;clear bb bc bd);have bn:=(d' ak).bel.size;have bo:=(d' ak).lt;have b2:=d' ad;have bp:=d' F;have bq:=d' aZ;have k6:=(d' ao) f6 (by omega) (by omega) (λe=>by injection e with e;change g= _ at e;omega);have k8:=(d' ao) f8 (by omega) (by omega) (λe=>by injection e with e;change g= _ at e;omega);obtain⟨bz,bA,bB,bC,bD⟩:=(d' aY).kept k6;obtain⟨z0,aq,bE,z3,z4⟩:=(d' aX).kept k8;clear k6 k8 ao ba aX aY ak bn bo b2 bp bq aZ F ad H bi bj bh Z;go_wp2;go_ret;exact⟨rfl,d' bl,d' bm⟩
theorem TA {K:DK} (B C:Nat) (w:World) (z n:Nat) (F G i:Int) (s:z10) (kp k e st q:Int) (b:z10) (S:Qx K B C n w z) (J:n+4<=17592186044416) (M:s.size<=140737488353980):
  Cp 58 #[C' z,AL F G i s kp k e st q b] w λr w'=>Rr r (.bool true)/\Qx K B w'.heap.size (n+4) w' z/\Far (λk=>B<=k/\k < C) w w':=by
 have H:=λv w h=>PL v s.data.toList w h;have I:=λw=>eT s w (by omega);cases Q:Qb.reads s.data.toList;all_goals
  simp only[Q,if_true,if_false,Bool.false_eq_true]at H I;exact mK B C w z n F G i s kp k e st q b S J M _ _ _ _ _ _ H I
theorem zN {K:DK} (B C:Nat) (w:World) (z n:Nat) (F i:Int) (s:z10) (kp k e st q:Int) (b:z10) (S:Qx K B C n w z) (H:n+4<=17592186044416) (hb:b.size<=9223372036854775807):
  Cp 60 #[C' z,AL 1 F i s kp k e st q b] w λr w'=>Rr r (.bool true)/\Qx K B w'.heap.size (n+4) w' z/\Far (λk=>B<=k/\k < C) w w':=by
 have G:=λO=>y' (SW B C (w.alloc O) z n 1 F i s kp k e st q b (S.below bna) H hb);clear S;unfold C' AL at G ⊢;go_enter func60,ntmps60;go_wp2_with (go_at_call 57;refine Cm (G _) ?_;rintro r w1 ⟨rfl,I,J⟩);go_ret;exact⟨rfl,I,(I' (E:=λk=>B<=k/\k < C) bna).trans J Ih⟩
theorem zO {K:DK} (B C:Nat) (w:World) (z n:Nat) (F i:Int) (s:z10) (kp k e st q:Int) (b:z10) (S:Qx K B C n w z) (I:n+4<=17592186044416) (G:s.size<=140737488353980):
  Cp 60 #[C' z,AL 2 F i s kp k e st q b] w λr w'=>Rr r (.bool true)/\Qx K B w'.heap.size (n+4) w' z/\Far (λk=>B<=k/\k < C) w w':=by
 have H:=λO=>y' (TA B C (w.alloc O) z n 2 F i s kp k e st q b (S.below bna) I G);clear S G;unfold C' AL at H ⊢;go_enter func60,ntmps60;go_wp2_with (go_at_call 58;refine Cm (H _) ?_;rintro r w1 ⟨rfl,J,M⟩);go_ret;exact⟨rfl,J,(I' (E:=λk=>B<=k/\k < C) bna).trans M Ih⟩
theorem rS (K:DK) (w:World):
  Cp 29 #[] w λr w'=>Rr r (.bool true)/\El w w':=by
 have F:=y' (rQ K w);have z:=λO=>y' (SW w.heap.size (w.heap.size+1) ((w.alloc (.cells #[En,En,En] 91)).alloc O) w.heap.size 0 0 0 0 ⟨#[]⟩ 0 1 1 0 0 ⟨#[]⟩ ((d' F).below bna) (by omega) (by decide));unfold C' AL at z;go_enter func29,ntmps29;go_upto_region 4 with (go_at_call 57;refine Cm (z _) ?_;rintro r w1 ⟨rfl,G,H⟩;have M:=y' G;have Q:=y' H;clear G H);clear z F;have I:=y' ((((z11 w.heap.size w).alloc (z16 _) _).alloc (by simp) _).trans ((d' Q).below (B:=w.heap.size) (by simp only[World.size_alloc];omega) (λk V e=>by omega)));have J:=y' (TA w.heap.size w1.heap.size w1 w.heap.size 4 0 0 0 ⟨#[1,1,0,0,0,0,0,0,0,0,0]⟩ 0 0 0 0 0 ⟨#[]⟩ (d' M) (by omega) (by decide));unfold C' AL at J;go_wp2_with (go_at_call 58;refine Cm J ?_;rintro r Z ⟨rfl,aa,Y⟩);go_ret;exact⟨rfl,(d' I).trans (Y.below (d' I).size (λk V e=>by omega))⟩
def KL:DK where
 A:=IG
 S:=GJ
 upA:=λh ⟨m,q,z,F,a,r,H,G,U,ar,lf,h1,h2⟩=>⟨m,q,z,F,a,r,H,G,U,ar,lf,z26 h1 h,h2⟩
 upS:=λh ⟨m,q,z,F,a,r,lv,G,mo,I,U,ar,lf,h1,h2⟩=>⟨m,q,z,F,a,r,lv,G,mo,I,U,ar,lf,z26 h1 h,h2⟩
def jH:UJ KL where
 At0 x v U:=∀N lf,AgL N false lf false x v ag0 U
 lt0:=λh=>(h 0 0).lt
 below0:=λh hb N lf=>(h N lf).far (fbF hb) Ih
 open0:=λbs H=>Eg bs H
 mk0:=by
  intro y q F z U n I J M Q V Y;refine⟨agT 0 q F z ag0 rr0 SK SK U false 0,rfl,⟨I,J 0 0,yL _ z M,V,?_,?_⟩,⟨0,q,F,z,ag0,rr0,SK,SK,U,false,0,z54 _,rfl,⟨none,0,0,rfl⟩,by omega,pH 0,z16 _⟩,?_⟩
  .rintro(e|⟨_,_,e|e⟩)
   .exact Q e
   .cases e
   .cases e
  .rintro k G (e|⟨_,_,e|e⟩)
   .have e:k=z:=e;rw[e]at G;exact Y G
   .cases e
   .cases e
  .rintro k (e|(e|⟨_,_,e|e⟩)|e)
   .exact .inl e
   .exact .inr (.inl e)
   .cases e
   .cases e
   .exact .inr (.inr e)
def jI:UK KL where
 At0 x v U:=∀K lf F,SkL K false lf false x v sk0 F U
 lt0:=λh=>(h 0 0 (λ_=>[])).lt
 below0:=λh hb K lf F=>(h K lf F).far (fbF hb) Ih
 open0:=λbs I=>Eo bs I
 mk0:=by
  intro y q G z U n J M Q V Y Z;refine⟨skT 0 q G z sk0 r0 SK En [] (λ_=>[]) U false 0,rfl,⟨J,M 0 0 _,⟨Ct _ z Q,z20 _ _ _ _,λk h=>(by cases h)⟩,Y,?_,?_⟩,⟨0,q,G,z,sk0,r0,SK,_,[],_,U,false,0,z54 _,rfl,by omega,sN,λ_=>⟨rfl,rfl⟩,λh=>(by cases h)⟩,?_⟩
  .rintro((e|⟨_,_,e⟩|e)|e)
   .exact V e
   .cases e
   .cases e
   .cases e
  .rintro k H ((e|⟨_,_,e⟩|e)|e)
   .have e:k=z:=e;rw[e]at H;exact Z H
   .cases e
   .cases e
   .cases e
  .rintro k (e|((e|⟨_,_,e⟩|e)|e)|e)
   .exact .inl e
   .exact .inr (.inl e)
   .cases e
   .cases e
   .cases e
   .exact .inr (.inr e)
section
variable {B D n N m':Nat} {A:Nat->Nat->Prop} {w x y:World} {wb ix:Nat} {asv ssv hv:Value} {hs:List Nat} {la ls:List AD}
theorem Xv.doneA (h:Xv IG B D n m' w y wb asv ssv la ls ix) (z:∀u∈la,IG n u) (F:∀u∈ls,GJ n u) (H:ix < la.length) (hn:n<=N) (G:m'<=N):Qx KL B y.heap.size N y wb/\Far (λk=>B<=k/\k < D) w y:=by
 obtain⟨I,t',h1,h2⟩:=h;exact(h2.mono hn).done (K:=KL) z F hn ⟨λ_=>KL.upA G h1,λh=>by omega⟩
theorem Xv.doneS (h:Xv GJ B D n m' w y wb asv ssv la ls ix) (z:∀u∈la,IG n u) (F:∀u∈ls,GJ n u) (H:la.length<=ix) (hn:n<=N) (G:m'<=N):Qx KL B y.heap.size N y wb/\Far (λk=>B<=k/\k < D) w y:=by
 obtain⟨I,t',h1,h2⟩:=h;exact(h2.mono hn).done (K:=KL) z F hn ⟨λh=>by omega,λ_=>KL.upS G h1⟩
theorem Ic (S:Qr B n A x wb asv ssv hv hs la ls) (Q:JG D wb asv ssv hv (la++ls)) (ai:∀t∈la,IG n t) (ak:∀t∈ls,GJ n t) {j:Nat} {t:AD} (hj:la[j]? =some t) (z F i:Int) (s:z10) (kp G H I J:Int) (M:z10)
  (ao:z=4\/z=5\/z=6\/z=7\/z=13) (aq: -9223372036854775808<=i/\i<=9223372036854775807) (au:s.size<=140737488353980) (av:n+60<=1000000000):
  Cp 96 #[C' wb,C' t.q,AL z F i s kp G H I J M] x λr y=>Rr r (.bool true)/\Qx KL B y.heap.size (n+60) y wb/\Far (λk=>B<=k/\k < D) x y:=by
 have aj:=(z25.1 hj).1;have V:(la++ls)[j]? =some t:=by rw[z44 aj];exact hj
 obtain⟨m,q,Y,Z,a,r,aa,ab,U,ar,lf,ax,rfl,O⟩:=ai t (z65 hj);have ac:∀ {ad ah:Nat} {r:Ending} {y:World},ad<=n+60->n<=ad->ah<=n+60->(r=.returned (.bool true)/\Xv IG B D ad ah x y wb asv ssv la ls j)->r=.returned (.bool true)/\Qx KL B y.heap.size (n+60) y wb/\Far (λk=>B<=k/\k < D) x y:=by rintro ad ah r y h1 h2 h3 ⟨rfl,h⟩;exact⟨rfl,h.doneA (λu hu=>KL.upA h2 (ai u hu)) (λu hu=>KL.upS h2 (ak u hu)) aj h1 h3⟩
 rcases ao with rfl|rfl|rfl|rfl|rfl;exact(WO x wb j F i s kp G H I J M q Y Z a r aa ab U ar lf S Q V O (by omega)).mono λ_ _ h=>ac (by omega) (z16 _) (by omega) h;exact(gP x wb j F i s kp G H I J M q Y Z a r aa ab U ar lf S Q V O (by omega) (by omega)).mono λ_ _ h=>ac (by omega) (by omega) (by omega) h;exact(mF x wb j F i s kp G H I J M q Y Z a r aa ab U ar lf S Q V O (by omega) au (by omega)).mono λ_ _ h=>ac (by omega) (by omega) (by omega) h;exact(eF x wb j F i s kp G H I J M q Y Z a r aa ab U ar lf S Q V O (by omega)).mono λ_ _ h=>ac (by omega) (by omega) (by omega) h;exact(mG x wb j F i s kp G H I J M q Y Z a r aa ab U ar lf S Q V O aq).mono λ_ _ h=>ac (by omega) (by omega) (by omega) h
theorem Ie (S:Qr B n A x wb asv ssv hv hs la ls) (V:JG D wb asv ssv hv (la++ls)) (aj:∀t∈la,IG n t) (ai:∀t∈ls,GJ n t) {j:Nat} {t:AD} (hj:ls[j]? =some t) (z F i:Int) (s:z10) (kp G H I J:Int) (M:z10)
  (ak:z=9\/z=10\/z=14) (ao: -9223372036854775808<=i/\i<=9223372036854775807) (aq:s.size<=140737488353980) (au:n+60<=1000000000):
  Cp 98 #[C' wb,C' t.q,AL z F i s kp G H I J M] x λr y=>Rr r (.bool true)/\Qx KL B y.heap.size (n+60) y wb/\Far (λk=>B<=k/\k < D) x y:=by
 have Y:(la++ls)[la.length+j]? =some t:=by rw[z27 (by omega),Ka];exact hj
 obtain⟨m,q,Z,aa,a,r,lv,ab,mo,ac,U,ar,lf,av,rfl,O⟩:=ai t (z65 hj);have ad:∀ {Q ah:Nat} {r:Ending} {y:World},Q<=n+60->n<=Q->ah<=n+60->(r=.returned (.bool true)/\Xv GJ B D Q ah x y wb asv ssv la ls (la.length+j))->r=.returned (.bool true)/\Qx KL B y.heap.size (n+60) y wb/\Far (λk=>B<=k/\k < D) x y:=by rintro Q ah r y h1 h2 h3 ⟨rfl,h⟩;exact⟨rfl,h.doneS (λu hu=>KL.upA h2 (aj u hu)) (λu hu=>KL.upS h2 (ai u hu)) (by omega) h1 h3⟩
 rcases ak with rfl|rfl|rfl;exact(mH x wb _ F i s kp G H I J M q Z aa a r lv ab mo ac U ar lf S V Y O (by omega) aq (by omega)).mono λ_ _ h=>ad (by omega) (by omega) (by omega) h;exact(gQ x wb _ F i s kp G H I J M q Z aa a r lv ab mo ac U ar lf S V Y O (by omega)).mono λ_ _ h=>ad (by omega) (by omega) (by omega) h;exact(rL x wb _ F i s kp G H I J M q Z aa a r lv ab mo ac U ar lf S V Y O ao).mono λ_ _ h=>ad (by omega) (by omega) (by omega) h
theorem Ff (S:Qr B n A x wb asv ssv hv hs la ls) (V:JG D wb asv ssv hv (la++ls)) (z:∀t∈la,IG n t) (Y:∀t∈ls,GJ n t) {j:Nat} {t:AD} (hj:la[j]? =some t) (F G i:Int) (s:z10) (kp H I J M:Int) (Q:z10)
  (Z:la.length < 6) (ak:n+60<=1000000000):
  Cp 152 #[C' wb,C' t.q,AL F G i s kp H I J M Q] x λr y=>Rr r (.bool true)/\Qx KL B y.heap.size (n+60) y wb/\Far (λk=>B<=k/\k < D) x y:=by
 have aa:=(z25.1 hj).1;have ab:(la++ls)[j]? =some t:=by rw[z44 aa];exact hj
 obtain⟨m,q,ac,ad,a,r,ah,ai,U,ar,lf,aj,rfl,O⟩:=z t (z65 hj);refine(zK x wb j F G i s kp H I J M Q q ac ad a r ah ai U ar lf S V ab O aj Z (by omega)).mono ?_;rintro r y ⟨rfl,v1,t0,h1,h2⟩;refine⟨rfl,h2.doneA (λu hu=>?_) (λu hu=>KL.upS (by omega) (Y u hu)) (by simp) (by omega) (by omega)⟩;rcases z55.1 hu with h|h;exact KL.upA (by omega) (z u h);rw[z51]at h;rw[h];exact KL.upA (by omega) h1
theorem Fg (S:Qr B n A x wb asv ssv hv hs la ls) (V:JG D wb asv ssv hv (la++ls)) (Y:∀t∈la,IG n t) (z:∀t∈ls,GJ n t) {j:Nat} {t:AD} (hj:ls[j]? =some t) (F G i:Int) (s:z10) (kp H I J M:Int) (Q:z10)
  (Z:ls.length < 6) (aj:n+60<=1000000000):
  Cp 155 #[C' wb,C' t.q,AL F G i s kp H I J M Q] x λr y=>Rr r (.bool true)/\Qx KL B y.heap.size (n+60) y wb/\Far (λk=>B<=k/\k < D) x y:=by
 have aa:(la++ls)[la.length+j]? =some t:=by rw[z27 (by omega),Ka];exact hj
 obtain⟨m,q,ab,ac,a,r,lv,ad,mo,ah,U,ar,lf,ai,rfl,O⟩:=z t (z65 hj);refine(Ia x wb _ F G i s kp H I J M Q q ab ac a r lv ad mo ah U ar lf S V aa O ai Z (by omega)).mono ?_;rintro r y ⟨rfl,v1,t0,h1,h2⟩;refine⟨rfl,h2.doneS (λu hu=>KL.upA (by omega) (Y u hu)) (λu hu=>?_) (by omega) (by omega) (by omega)⟩;rcases z55.1 hu with h|h;exact KL.upS (by omega) (z u h);rw[z51]at h;rw[h];exact KL.upS (by omega) h1
theorem UP:mI KL 1 14:=by
 intro B D n x wb S z F i s kp G H I J M ay hb hn;obtain⟨ao,aq,az,aA⟩:=hb;have ai:∀ {y:World} {m:Nat},m<=n+60->Qx KL B y.heap.size m y wb/\Far (λk=>B<=k/\k < D) x y->Qx KL B y.heap.size (n+60) y wb/\Far (λk=>B<=k/\k < D) x y:=λau h=>⟨h.1.mono au,h.2⟩;obtain rfl|rfl|rfl|rfl|hA4|aB:z=1\/z=2\/z=3\/z=8\/(z=4\/z=5\/z=6\/z=7\/z=11\/z=13)\/(z=9\/z=10\/z=12\/z=14):=by omega
 refine(zN B D x wb n F i s kp G H I J M S (by omega) (by omega)).mono ?_;rintro r y ⟨rfl,h⟩;exact⟨rfl,ai (by omega) h⟩;refine(zO B D x wb n F i s kp G H I J M S (by omega) (by omega)).mono ?_;rintro r y ⟨rfl,h⟩;exact⟨rfl,ai (by omega) h⟩;refine(qU jH B D n x wb F i s kp G H I J M S).mono ?_;rintro r y ⟨rfl,h⟩;exact⟨rfl,ai (by omega) h⟩;refine(qV jI B D n x wb F i s kp G H I J M S).mono ?_;rintro r y ⟨rfl,h⟩;exact⟨rfl,ai (by omega) h⟩;obtain⟨A,asv,ssv,hv,hs,la,ls,S,ab,Y,Z⟩:=S;have ac:∀ {y Q:World},El x y->Far (λk=>B<=k/\k < D) y Q->Far (λk=>B<=k/\k < D) x Q:=λhb hF=>(I' (E:=λk=>B<=k/\k < D) hb).trans hF Ih;have ad:∀y,El x y->Qx KL B y.heap.size (n+60) y wb/\Far (λk=>B<=k/\k < D) x y:=λy hb=>
  ⟨Qx.mono (K:=KL) ⟨A,asv,ssv,hv,hs,la,ls,S.below hb,(S.below hb).bnd,Y,Z⟩ (by omega),I' hb⟩
 by_cases h0:la.length=0;have aj:la=[]:=z68 h0;have ah:=S.Yj;rw[aj]at ah;exact UI _ A x wb asv ssv hv hs z F i s kp G H I J M S.wat ah (by omega) ad;have hj:=RZ F (n:=la.length) (by omega);have aa:=z17 hj;refine qT _ A x wb asv ssv hv hs la z F i s kp G H I J M S.wat S.Yj S.sixA ao (by omega) _ aa (by omega) (λy hb=>?_);by_cases av:z=11;subst av;refine eB _ A y wb asv ssv hv hs la _ F i s kp G H I J M (S.below hb).wat (S.below hb).Yj (λak Q V=>?_) (λQ V=>ad Q (hb.trans (V.mono hb.size)));refine(Ff ((S.below hb).below V) ab Y Z aa 11 F i s kp G H I J M ak hn).mono ?_;rintro r u ⟨rfl,h1,h2⟩;exact⟨rfl,h1,ac (hb.trans (V.mono hb.size)) h2⟩;refine(Ic (S.below hb) ab Y Z aa z F i s kp G H I J M (by omega) aq (by omega) hn).mono ?_;rintro r u ⟨rfl,h1,h2⟩;exact⟨rfl,h1,ac hb h2⟩;obtain⟨A,asv,ssv,hv,hs,la,ls,S,ab,Y,Z⟩:=S;have ac:∀ {y Q:World},El x y->Far (λk=>B<=k/\k < D) y Q->Far (λk=>B<=k/\k < D) x Q:=λhb hF=>(I' (E:=λk=>B<=k/\k < D) hb).trans hF Ih;have ad:∀y,El x y->Qx KL B y.heap.size (n+60) y wb/\Far (λk=>B<=k/\k < D) x y:=λy hb=>
  ⟨Qx.mono (K:=KL) ⟨A,asv,ssv,hv,hs,la,ls,S.below hb,(S.below hb).bnd,Y,Z⟩ (by omega),I' hb⟩
 by_cases h0:ls.length=0;have aj:ls=[]:=z68 h0;have ah:=S.Vu;rw[aj]at ah;exact ZT _ A x wb asv ssv hv hs z F i s kp G H I J M S.wat ah (by omega) ad;have hj:=RZ F (n:=ls.length) (by omega);have aa:=z17 hj;refine zD _ A x wb asv ssv hv hs ls z F i s kp G H I J M S.wat S.Vu S.sixS ao (by omega) _ aa (by omega) (λy hb=>?_);by_cases ax:z=12;subst ax;refine gN _ A y wb asv ssv hv hs ls _ F i s kp G H I J M (S.below hb).wat (S.below hb).Vu (λak Q V=>?_) (λQ V=>ad Q (hb.trans (V.mono hb.size)));refine(Fg ((S.below hb).below V) ab Y Z aa 12 F i s kp G H I J M ak hn).mono ?_;rintro r u ⟨rfl,h1,h2⟩;exact⟨rfl,h1,ac (hb.trans (V.mono hb.size)) h2⟩;refine(Ie (S.below hb) ab Y Z aa z F i s kp G H I J M (by omega) aq (by omega) hn).mono ?_;rintro r u ⟨rfl,h1,h2⟩;exact⟨rfl,h1,ac hb h2⟩
end
theorem vC {K:DK} (z:UJ K) (w:World):Cp 59 #[C' w.heap.size,AL 3 0 0 ⟨#[]⟩ 0 0 0 0 0 ⟨#[]⟩] (w.alloc (.cells #[En,En,En] 91)) λr w'=>
  r=.returned (.bool true)/\Qx K w.heap.size w'.heap.size 0 w' w.heap.size/\El w w':=by
 have S:=QJ w;refine(Ds z w.heap.size _ 0 _ _ w.heap.size _ _ _ [] [] [] 0 0 ⟨#[]⟩ 0 0 0 0 0 ⟨#[]⟩ S S.bnd (λt h=>absurd h uY) (λt h=>absurd h uY) (by simp)).mono ?_;rintro r w' ⟨rfl,F,G⟩;exact⟨rfl,F,bna.trans (G.below (by simp) (λk H h=>by omega))⟩
theorem vD {K:DK} (z:UK K) (w:World):Cp 59 #[C' w.heap.size,AL 8 0 0 ⟨#[]⟩ 0 0 0 0 0 ⟨#[]⟩] (w.alloc (.cells #[En,En,En] 91)) λr w'=>
  r=.returned (.bool true)/\Qx K w.heap.size w'.heap.size 0 w' w.heap.size/\El w w':=by
 have S:=QJ w;refine(Dt z w.heap.size _ 0 _ _ w.heap.size _ _ _ [] [] [] 0 0 ⟨#[]⟩ 0 0 0 0 0 ⟨#[]⟩ S S.bnd (λt h=>absurd h uY) (λt h=>absurd h uY) (by simp)).mono ?_;rintro r w' ⟨rfl,F,G⟩;exact⟨rfl,F,bna.trans (G.below (by simp) (λk H h=>by omega))⟩
theorem IZ (h1:z.size<=1000) (h2:bP.size<=1000):wK 0 0 z bP:=⟨by omega,by omega,by omega,by omega⟩
theorem rT {K:DK} (aj:UJ K) (hst:mI K o V) (ax:o<=4) (ay:7<=V) (w:World):
  Cp 30 #[] w λr w'=>Rr r (.bool true)/\El w w':=by
 have F:=y' (vC aj w);have G:=y' hst;clear hst;unfold C' AL at F;go_enter func30,ntmps30;go_upto_region 3 with (go_at_call 59;refine Cm F ?_;rintro r w1 ⟨rfl,J,M⟩;have Q:=y' J;have H:=y' M;clear J M);clear F;have z:=y' ((d' G) w.heap.size _ 0 w1 w.heap.size (d' Q) 4 0 0 ⟨#[97]⟩ 0 0 0 0 0 ⟨#[]⟩ ⟨by omega,by omega⟩ (IZ (by decide) (by decide)) (by omega));unfold C' AL at z;go_upto_region 6 with (go_at_call 60;refine Cm z ?_;rintro r ak ⟨rfl,Y,Z⟩;have aa:=y' Y;have I:=y' ((d' H).trans (Z.below (B:=w.heap.size) (d' H).size (λk ab h=>by omega)));clear Y Z);clear z Q H;have z:=y' ((d' G) w.heap.size _ 60 ak w.heap.size (d' aa) 5 0 0 ⟨#[]⟩ 0 0 0 0 0 ⟨#[]⟩ ⟨by omega,by omega⟩ (IZ (by decide) (by decide)) (by omega));unfold C' AL at z;go_upto_region 7 with (go_at_call 60;refine Cm z ?_;rintro r ao ⟨rfl,ac,ad⟩;have aq:=y' ac;have ah:=y' ((d' I).trans (ad.below (B:=w.heap.size) (d' I).size (λk ab h=>by omega)));clear ac ad);clear z aa I;have z:=y' ((d' G) w.heap.size _ 120 ao w.heap.size (d' aq) 7 0 0 ⟨#[]⟩ 0 0 0 0 0 ⟨#[]⟩ ⟨by omega,by omega⟩ (IZ (by decide) (by decide)) (by omega));unfold C' AL at z;go_upto_region 8 with (go_at_call 60;refine Cm z ?_;rintro r az ⟨rfl,au,ai⟩;have av:=y' ((d' ah).trans (ai.below (B:=w.heap.size) (d' ah).size (λk ab h=>by omega)));clear au ai);go_wp2;go_ret;exact⟨rfl,d' av⟩
theorem vE {K:DK} (ak:UK K) (hst:mI K o V) (aA:o<=9) (aB:10<=V) (w:World):
  Cp 31 #[] w λr w'=>Rr r (.bool true)/\El w w':=by
 have F:=y' (vD ak w);have Q:=y' hst;clear hst;obtain⟨Y,G⟩:=exq (⟨(Qb.bytes 3 0 0 1 (⟨#[97]⟩:z10).data.toList).toArray⟩:z10);have H:=λw'=>y' (DH 3 0 0 1 ⟨#[97]⟩ w' (by decide));rw[<-G]at H;have ao:Y.size<=1000:=by rw[G];simp[ByteArray.size,GF]
 clear G;unfold C' AL at F;go_enter func31,ntmps31;go_upto_region 3 with (go_at_call 59;refine Cm F ?_;rintro r w1 ⟨rfl,Z,aa⟩;have ab:=y' Z;have I:=y' aa;clear Z aa);clear F;go_upto_region 6 with (go_at_call 61;refine Cm (H _) ?_;rintro r aq ⟨rfl,J⟩;have ac:=y' ((d' ab).below J).size;have M:=y' ((d' I).trans (J.mono (d' I).size));clear J);clear H ab I;have z:=y' ((d' Q) w.heap.size _ 0 aq w.heap.size (d' ac) 9 0 0 Y 0 0 0 0 0 ⟨#[]⟩ ⟨by omega,by omega⟩ (IZ ao (by decide)) (by omega));unfold C' AL at z;go_upto_region 7 with (go_at_call 60;refine Cm z ?_;rintro r au ⟨rfl,ad,ah⟩;have av:=y' ad;have ai:=y' ((d' M).trans (ah.below (B:=w.heap.size) (d' M).size (λk ax h=>by omega)));clear ad ah);clear z ac M;have z:=y' ((d' Q) w.heap.size _ 60 au w.heap.size (d' av) 10 0 0 ⟨#[]⟩ 0 0 0 0 0 ⟨#[]⟩ ⟨by omega,by omega⟩ (IZ (by decide) (by decide)) (by omega));unfold C' AL at z;go_upto_region 8 with (go_at_call 60;refine Cm z ?_;rintro r aC ⟨rfl,ay,aj⟩;have az:=y' ((d' ai).trans (aj.below (B:=w.heap.size) (d' ai).size (λk ax h=>by omega)));clear ay aj);go_wp2;go_ret;exact⟨rfl,d' az⟩
theorem OpJ.belowL (h:OpJ p w a) (z:w < p.heap.size) (hb:El p f):OpJ f w a:=by
 obtain⟨F,G,H,s,kp,k,e,st,q,b,I,J⟩:=h;exact⟨F,G,H,s,kp,k,e,st,q,b,I,λj hj=>Bc hb z (J j hj)⟩
theorem If (F:Option Addr) (len cap:Nat) (w:World) (ac:len<=1048576) (h:0 < len->∃z off,F=some ⟨z,off,none⟩/\z < w.heap.size/\∀i,i < len->OpJ w z (off+i * 10)):
  Cp 5 #[.slice F len cap] w λr w'=>Rr r (.bool true)/\El w w':=by
 have Y:=λw1 (hb:El w w1)=>y' (zL UP F len cap w1 (by omega) (λh0=>by obtain⟨z,off,e,H,Z⟩:=h h0;exact⟨z,off,e,z21 H hb.size,λi hi=>(Z i hi).belowL H hb⟩));clear h;go_enter func5,ntmps5;go_wp2_with (first|(go_at_call 29;refine(rS KL _).mono ?_;rintro r w0 ⟨rfl,I⟩;have J:=y' I;clear I)|(go_at_call 30;refine(rT jH UP (by omega) (by omega) _).mono ?_;rintro r w1 ⟨rfl,M⟩;have Q:=y' ((d' J).trans (M.mono (d' J).size));clear M)|(go_at_call 31;refine(vE jI UP (by omega) (by omega) _).mono ?_;rintro r ad ⟨rfl,V⟩;have G:=y' ((d' Q).trans (V.mono (d' Q).size));have aa:=Y _ (d' G);clear V)|(go_at_call 32;refine Cm aa ?_;rintro r ah ⟨rfl,ab⟩));go_ret;exact⟨rfl,(d' G).trans (ab.mono (d' G).size)⟩
theorem vF (os:Os) (I:os.Started) (J:Type) (enc:TypeId×Value->J) (M:Stop.Interp):
  ReturnsInHanded {} Tryz.checked os 5 .any ((Rows.OpenSpec.upto Rows.allSpec).pre6 enc prog Tryz.f5 Rows.allUptoRow.domain false) (((Rows.OpenSpec.upto Rows.allSpec).at M).post enc prog Tryz.f5 false true false false):=by
 refine returnsInHanded_of_cond (C:=Tryz.checked) (k:=Rows.uptoSmall) rfl Tryz.own I (by kernel_rfl) func5
  (OpenSpec.witness (enc:=enc) (C:=Tryz.checked) (x:=([.nil],[],[])) rfl false ⟨#[],#[En],[]⟩ 8 (by kernel_rfl) (by kernel_rfl) (by kernel_rfl) (by kernel_rfl) (by kernel_rfl) (by kernel_rfl)) ?_
 intro W base args Q ak ao z F aq V au;have G:∀ (j:Nat) t v,Tryz.f5.params[j]? =some t->args[j]? =some v->Value.okWide prog W .any base t v:=z;have Y:=F;obtain⟨p,q,hA0,Z,rfl,av,ax⟩:=F;have H:DataW.TrodAll enc prog W 0 (λ_=>true) true Tryz.f5.params.toList args.toList Q p:=hA0;rw[params5]at H G;obtain⟨v0,ay,d0,az,aa,aA,aB,rfl,rfl,h0,r0⟩:=trodAll_cons H;obtain⟨rfl,rfl,rfl⟩:=trodAll_nil r0;obtain rfl:args= #[v0]:=by cases args;simp_all
 obtain⟨rfl,rfl⟩:=trodVars_none Z;have k0:=h0;have lt0:∀x∈aa,x.block < W.heap.size:=by obtain⟨m,ab⟩:=k0;exact DataW.trod_lt m _ _ _ ab
 have ac:Rows.uptoBulk d0<=1048576:=by have h:Rows.uptoBulkAll ([d0]++[])<=1048576:=rV V;have:=eG (d:=d0) (l:=[d0]++[]) (by simp);omega
 obtain⟨ad,len,cap,rfl,ah,ai⟩:=zM h0 (okWide_slice underlying65 (G 0 65 v0 rfl rfl)) ac;clear hA0 z;refine(If ad len cap W ah ai).mono λe aC ⟨aj,bel⟩=>?_;subst aj;exact⟨_,rfl,_,_,_,[],_,[],Y,trodAll_mk1 (shut_bool underlying4 _),(trodAll_cons_mk (Below.trod Tryz.laidOut (by kernel_rfl) (rV (by kernel_rfl)) k0 bel lt0) trodAll_mk0),rfl,bel.frame _,λh=>by cases h⟩
theorem all_holds:Rows.AllUptoSaid:=
 OpenClaim.holds_of_cond 5 Tryz.f5 rfl rfl rfl rfl rfl rfl rfl ⟨rfl,rfl,rfl,rfl,rfl⟩ rfl rfl rfl rfl rfl (by kernel_rfl) func5 (by kernel_rfl)
  (rV (by kernel_rfl)) (by unfold Func.isWrapper;rw[if_neg (by decide+kernel)];exact⟨rfl,rfl⟩)
  (λos z F enc _ G=>by rw[OpenClaim.pre_of_none' rfl];exact vF os z F enc G)
