/-
  Part 3 of a proof.
-/
import Derived.Laws.OwnMore
import Derived.Deep.RegionLaw
import Derived.Test.YtamafdcnbcoegabGreatOa2
set_option maxRecDepth 100000
set_option maxHeartbeats 40000000
namespace Go.Proofs.YtamafdcnbcoegabGreat
attribute [local simp, local go_sem] Ev Ep Ei Eb Et Ej Ea En Er Es
open Qb Mq
abbrev z55:= @List.mem_append
abbrev z96:= @List.map_append
abbrev jZ:= @List.nodup_append
abbrev sL:= @List.mem_filter
abbrev Nf:= @List.getElem_cons_zero
abbrev Fx:= @List.pairwise_map
abbrev Kl:= @List.take_length
abbrev Fy:= @Nat.sub_self
open Go.RowKit Go.Proofs.Tryz
def AF (l:List z10):List Value:=l.map .string
theorem AO (l:List z10):(AF l).length=l.length:=by simp[AF]
theorem LH:∀ (l:List (z10×Nat)) (i:Nat) (h:i < l.length),(BO l)[i * 2]? =some (.string l[i].1)
 |x::l,0,_=>rfl
 |x::l,i+1,h=>by have:=LH l i (by simpa using h);rw[show(i+1) * 2=i * 2+2 by omega];simpa[BO]using this
theorem LI:∀ (l:List (z10×Nat)) (i:Nat) (h:i < l.length),(BO l)[i * 2+1]? =some (Ej (l[i].2:Nat))
 |x::l,0,_=>rfl
 |x::l,i+1,h=>by have:=LI l i (by simpa using h);rw[show(i+1) * 2+1=i * 2+1+2 by omega];simpa[BO]using this
variable{bC:List (z10×Nat)}{w a q:Nat}{p f:World}{c:Ag}{P:AY}{m I:Nat -> Value}{j:TypeId}{y u:Value}{C:List Value}{cW:List (Nat×Nat×z10)}{aC:Array Oper}{J:Oper}{G:Act}{aB:Exit -> Act -> World -> Prop}{bQ:Prop}{cM:Addr}{o V aF aH dS dT dU:Int}{z:z10}{O:Nat -> Nat}
theorem xF (h:w < bC.length):AF ((bC.take (w+1)).map (·.1))=AF ((bC.take w).map (·.1))++[.string bC[w].1]:=by
 rw[z84 h,z96];unfold AF;rw[z96];rfl
theorem CW:(prog.info? 9).map (λi=>(i.zero,i.size,i.bytes))=some (some (.string ⟨#[]⟩),1,16):=by kernel_rfl
theorem nK (R:Qi p w c P m I) (hd:P.dead=false) (s:Nat) (hs:s < 3):
  Cp 150 #[Er w 0,Ej s] p λe w'=>∃v,e=.returned v/\w'.ownsRow p.heap.size 9 1 v (c.Xn s).length (AF (c.Xn s))/\El p w':=by
 obtain⟨c0,c1,c2⟩:=DR R s hs;have c4:=Bi 4 R.blk;simp[AE,hd]at c4;obtain⟨aB,cap,G,h1,h2,h3⟩:=(R.kept s hs).shape;rw[G]at c1;have hl:=R.kl s hs;have ac:=z12 R.blk;have H:=(R.kept s hs).lt;rw[G]at H;have ad:Hid (c.Xn s=(c.fl s).kept.map (·.1)):=rfl;have aC:(s:Int) < 3:=by omega
 have aD:¬ (s:Int) < 0:=by omega
 have aE:¬ (3:Int)<=s:=by omega
 clear R G c0 c2 hd;generalize (c.fl s).kept=l at *;have ah:=y' h3;have ai:=y' H;have aj:=y' c1;obtain⟨i0,hi,ak,ao,aq⟩:=AT CW;clear h3 H c1;go_enter func150,ntmps150;go_wp2;go_loopw[5,6] (λv i wr=>∃k:Nat,k<=l.length/\i=.int .i64 k/\wr.ownsRow p.heap.size 9 1 v k (AF ((l.take k).map (·.1)))/\Below p.heap.size p wr) (λ_ i _=>l.length - (intOf i).toNat)
 case atStart=>exact⟨0,z54 _,rfl,z20 _ _ _ _,z11 _ _⟩
 case round=>
  obtain⟨k,aF,rfl,z,hb⟩:=hrel;have c1:=Bc hb ac (d' aj);have Q:=y' z;have F:=y' hb;by_cases V:k < l.length
  .obtain⟨g,o,rfl,Y⟩:=(d' ah) (by omega);have J:=Bc hb ((d' ai) g rfl) (Y (k * 2) (by omega));rw[LH l k V]at J;have Z:=y' (xF V);clear Y z hb;generalize l[k].1=au at J Z;go_upto_region 6 with (at_builtin;refine z67 _ rfl (.tmp 32) (.tmp 44) 33 rfl p.heap.size 9 i0 (.string ⟨#[]⟩) 1 16 underlying33 hi ak ao aq rfl (by decide) u5 k (AF ((l.take k).map (·.1))) rfl ((d' Q).alloc _) ⟨wr.heap.size,0,none⟩ 1 1 [.string au] rfl rfl AW (by intro u hu;simp at hu;subst hu;rfl) (by unfold maxLen;omega) (by omega) (by have:=(d' F).size;simp;omega) ?_;intro v' w1 M aa _;have ab:=((d' F).trans (bna.mono (d' F).size)).trans (AB (B:=p.heap.size) aa (by have:=(d' F).size;simp;omega) (λg av=>(z14 (d' Q) g av).1));rw[<-d' Z]at M;have ax:=y' M;have ay:=y' ab;clear M aa ab);clear c1 J;go_wp2;go_roundw
   case rel=>exact⟨k+1,by omega,by go_num,d' ax,d' ay⟩
   case measure=>simp[intOf];omega
  have az:k=l.length:=by omega
  subst az;rw[Kl]at z;have aA:=y' z;clear z hb;go_wp2;go_ret;refine⟨_,rfl,?_,d' F⟩;rw[d' ad,z42];exact d' aA
def xG (v:Value) (k size:Nat):Value:=
 match v with
 | .slice z l c=>.slice (if c=k then z else z.map λx=>x.add (k * size)) (l - k) (c - k)
 |v=>v
theorem XL (z:Option Addr) (l c k size:Nat):xG (.slice z l c) k size=.slice (if c=k then z else z.map λx=>x.add (k * size)) (l - k) (c - k):=rfl
theorem MI (b off k:Nat):(⟨b,off,none⟩:Addr).add k=⟨b,off+k,none⟩:=by
 unfold Addr.add;split;rename_i h;rw[h];rfl;rfl
theorem Ql.cut (h:Ql p j w y a C) (G:q<=a):
  Ql p j w (xG y q w) (a - q) (C.drop (q * w))/\(xG y q w).ownBlock=y.ownBlock:=by
 obtain⟨h1,h2⟩:=id h;rcases h2 with ⟨rfl,rfl⟩|⟨g,o,cap,H,rfl,I,hn,_⟩;have:q=0:=by omega
 subst this;have z:C=[]:=z68 (by simpa using h1);subst z;have:=BW p j w;exact⟨by simpa[xG]using this,rfl⟩;rw[XL];by_cases F:cap=q;have:a=q:=by omega
 subst this;subst F;have z:C.drop (cap * w)=[]:=by rw[<-h1];simp
 rw[z,if_pos rfl,Fy];exact⟨h.none_left,rfl⟩;rw[if_neg F,Option.map_some,MI];exact⟨h.drop G,rfl⟩
theorem PA:∀ (k:Nat) (l:List (z10×Nat)),BO (l.drop k)=(BO l).drop (k * 2)
 |0,l=>by simp
 |k+1,[]=>by simp[BO]
 |k+1,x::l=>by have:=PA k l;rw[show(k+1) * 2=k * 2+2 by omega];simpa[BO]using this
theorem KQ (f:Nat->Js) (s:Nat) (x y:Js):upd (upd f s x) s y=upd f s y:=by
 funext t;unfold upd;split <;> rfl
theorem eW (a:Ag) (r:AY) (z F:Nat->Value) (s:Nat) (hs:s < 3) (b:Nat):
  (AE a r z F).setIfInBounds (5+s * 3) (Ej b)=AE {a with fl:=upd a.fl s {a.fl s with base:=b}} r z F:=by
 obtain rfl|rfl|rfl:s=0\/s=1\/s=2:=by omega
 all_goals rfl
theorem Qi.baseStep (R:Qi p w c P m I) (s:Nat) (hs:s < 3) (b:Nat) (hb:b<=1000000000000000):
  Qi (p.setCell ⟨w,5+s * 3,none⟩ (Ej b)) w {c with fl:=upd c.fl s {c.fl s with base:=b}} P m I:=by
 have H:=T' p w (5+s * 3) (Ej b);have J:∀t,(upd c.fl s {c.fl s with base:=b} t).kept=(c.fl t).kept:=by intro t;unfold upd;split <;> simp_all
 have M:∀t,(upd c.fl s {c.fl s with base:=b} t).held=(c.fl t).held:=by intro t;unfold upd;split <;> simp_all
 refine⟨by rw[<-eW c P m I s hs];exact AA R.blk,λt z=>?_,λt z=>?_,R.apk,R.aph,R.ep,R.tk,λt z=>?_,λt z=>?_,λt z=>?_⟩;simp only[J];exact(R.kept t z).far H (λg F G=>(R.kept t z).ne R.blk (by decide) (by rw[F,G]));simp only[M];exact(R.held t z).far H (λg F G=>(R.held t z).ne R.blk (by decide) (by rw[F,G]));by_cases Q:t=s;subst Q;simp only[Mq.Qn];exact hb;simp only[Va _ _ Q];exact R.bs t z;simp only[J];exact R.kl t z;simp only[M];exact R.hl t z
theorem UX (R:Qi p w c P m I) (n:Nat->Nat) (hn:∀s,s < 3->n s<=(c.fl s).kept.length) (ab:∀s,s < 3->(c.fl s).base+n s<=1000000000000000):
  Cp 208 #[.pointer (some ⟨w,0,none⟩),.agg #[.int .i64 (n 0),.int .i64 (n 1),.int .i64 (n 2)]] p λe w'=>e=.returned (.tuple #[])/\CC p w' w (c.drop n) P m I:=by
 have ao:=y' R;have aA:=y' hn;have aS:=y' ab;clear R hn ab;go_enter func208,ntmps208;go_wp2;go_loopw[4] (λi wr=>∃ (s:Nat) (Q V:Nat->Value),s<=3/\i=.int .i64 s/\Qi wr w {c with fl:=Za c.fl n s} P Q V/\Far (CP w m I) p wr/\(∀k,CP w Q V k->CP w m I k\/p.heap.size < k)/\p.heap.size < wr.heap.size/\∀j,j < 3->wr.cell? ⟨p.heap.size,j,none⟩=some (.int .i64 (n j))) (λi _=>3 - (intOf i).toNat)
 case atStart=>
  have hb:Below p.heap.size p (p.alloc (.cells #[.int .i64 (n 0),.int .i64 (n 1),.int .i64 (n 2)] 35)):=bna;refine⟨0,m,I,by omega,rfl,?_,I' hb,λk h=>.inl h,by simp,λj hj=>?_⟩;rw[dropTo_zero];exact(d' ao).far (fbF hb) Ih;rw[D' (z19 p _)];obtain rfl|rfl|rfl:j=0\/j=1\/j=2:=by omega
  all_goals rfl
 case round=>
  obtain⟨s,Q,V,hs,rfl,R,hF,hK,F,H⟩:=hrel;by_cases z:s < 3
  .have aq:=(d' aA) s z;have ab:=(d' aS) s z;obtain⟨c0,c1,c2⟩:=DR R s z;simp only[Vt]at c0;have d0:=H s z;have f0:=H' (i:=5+s * 3) R.blk;have aB:(s:Int) < 3:=(by omega);have aC:IntKind.i64.wrap (((c.fl s).base:Int)+(n s:Int))=(c.fl s).base+n s:=(by rw[z28];omega);have G:=z12 R.blk;have J:=y' R;have M:=y' hF;have ac:=y' hK;have Y:=y' H;clear R hF hK H;go_upto_region 5 with fail;refine Z'
    [Ep w (5+s * 3),Ep w (5+s * 3),Ep w (5+s * 3),Ep w (5+s * 3),Ei ((c.fl s).base),Ei s,Ep p.heap.size s,Ei (n s),Ei ((c.fl s).base+n s),Ep w (5+s * 3),Ep w (5+s * 3),Et]
    [[5],[5],[2016],[3017],[4018],[4],[3,6020],[7021],[5019,8022],[1015],[10024],[11025,9023]]
    [16,17,18,19,20,21,22,23,24,25,26,0]
    [15,11,999]
    11 _ rfl rfl ?_ ?_
   .refine⟨?_,?_,?_,?_,?_,?_,?_,?_,?_,?_,?_,trivial⟩;all_goals
     intro b x hb au;have av:=Bc hb G c0;have aD:=Bc hb F d0;clear hb;simp[J']at au;try go_simp
     try exact z11 _ _
    all_goals first|exact⟨rfl,z11 _ _⟩|(rw[aC];exact⟨rfl,z11 _ _⟩)
   intro f5 aE hb Z;simp only[AJ,List.take]at Z;obtain⟨_,_,_,_,_,_,_,_,aT,_,aU,_⟩:=Z;have aF:=(d' J).far (fbF hb) Ih;have av:=Bc hb G c0;have aG:=(hb.frozen (p:=⟨w,5+s * 3,none⟩) G).trans f0;have aH:=aF.baseStep s z ((c.fl s).base+n s) ab;have aI:=(d' M).trans (fbF hb) (λ_ _ h=>h.elim);have aJ:=y' (aI.trans (T' aE w (5+s * 3) (.int .i64 (((c.fl s).base+n s:Nat):Int))) (λk _ h=>.inl h));have aK:Hid (∀j,j < 3->(aE.setCell ⟨w,5+s * 3,none⟩ (.int .i64 (((c.fl s).base+n s:Nat):Int))).cell? ⟨p.heap.size,j,none⟩=some (.int .i64 (n j))):=λj hj=>by rw[z46 (AG (by have aV:=(d' ao).lt w (.inl rfl);show p.heap.size≠w;omega))];exact Bc hb F ((d' Y) j hj)
   have aL:=z21 F hb.size;have aM:=y' aH;clear hb aF aH c0 c1 c2 d0 f0 aC aq aI M Y J;simp only[V',aT,aU];go_simp;go_upto_region 6 with fail;refine G' (λx=>Qi x w {c with fl:=upd (Za c.fl n s) s {c.fl s with base:=(c.fl s).base+n s}} P Q V/\Far (CP w m I) p x/\p.heap.size < x.heap.size/\∀j,j < 3->x.cell? ⟨p.heap.size,j,none⟩=some (.int .i64 (n j)))
    ⟨by have:=d' aM;simp only[Vt]at this;exact this,d' aJ,by rw[z80];exact aL,d' aK⟩ ?_
   clear av aG aL aM aJ aK F G;rintro aW ⟨R,hF,F,H⟩;obtain⟨_,c1,_⟩:=DR R s z;have d0:=H s z;have f1:=H' (i:=5+s * 3+1) R.blk;have G:=z12 R.blk;have aq:=(d' aA) s z;have ad:=R.kept s z;simp only[Mq.Qn]at ad;obtain⟨aN,aO,aa,bk,_⟩:=ad.shape;obtain⟨ax,ay⟩:=ad.cut aq;rw[<-PA,<-z97,aa]at ax;rw[aa]at ay;have hcut:=y' ax;have aP:=y' ay;clear ax ay;rw[aa]at c1;have ah:=y' aa;have J:=y' R;have M:=y' hF;have Y:=y' H;clear R hF H ad aa;refine Z'
    [Ep w (5+s * 3),Ep w (5+s * 3),Ep w (5+s * 3),Ep w (5+s * 3+1),Ev (.slice aN (c.fl s).kept.length aO),Ei s,Ep p.heap.size s,Ei (n s),Ev (xG (.slice aN (c.fl s).kept.length aO) (n s) 2),Ep w (5+s * 3),Ep w (5+s * 3+1),Et]
    [[5],[5],[2027],[3028],[4029],[4],[3,6031],[7032],[5030,8033],[1026],[10035],[11036,9034]]
    [27,28,29,30,31,32,33,34,35,36,37,0]
    [26,11,999]
    11 _ rfl rfl ?_ ?_
   .refine⟨?_,?_,?_,?_,?_,?_,?_,?_,?_,?_,?_,trivial⟩;all_goals
     intro b x hb au;have av:=Bc hb G c1;have aD:=Bc hb F d0;clear hb;simp[J']at au;try go_simp
     try exact z11 _ _
    all_goals exact⟨rfl,z11 _ _⟩
   intro f7 aQ hb Z;simp only[AJ,List.take]at Z;obtain⟨_,_,_,_,_,_,_,_,aX,_,aY,_⟩:=Z;have ai:Far (λ_=>False) aW aQ:=I' hb;have aR:=(d' J).far ai Ih;have az:=(d' hcut).far ai Ih;rw[<-d' ah]at az;have aZ:=aR.keptStep s z (x:=(c.fl s).kept.drop (n s)) (Far.refl _ _) (v':=xG (Q s) (n s) 2) (λg ba=>.inl (by have:=d' aP;rw[<-d' ah]at this;rw[<-this];exact ba)) az (by have:=(d' J).kl s z;simp only[Mq.Qn]at this;rw[z97];omega);obtain⟨_,aj⟩:=aZ;simp only[Mq.Qn,KQ]at aj;rw[d' ah]at aj;have aD:=Bc hb G c1;have aG:=(hb.frozen (p:=⟨w,5+s * 3+1,none⟩) G).trans f1;have bb:=y' aj;have bc:=y' ((d' M).trans ai (λ_ _ h=>h.elim));have bd:Hid (∀j,j < 3->aQ.cell? ⟨p.heap.size,j,none⟩=some (.int .i64 (n j))):=λj hj=>Bc hb F ((d' Y) j hj);have be:=z21 F hb.size;clear hb ai aR az aj c1 f1 d0 F G M Y J hcut aP ah;simp only[V',aX,aY];rw[XL]at *;go_simp;go_wp2;go_roundw
   case rel=>obtain⟨bf,bg,bh,bi,bj⟩:=d' bb;refine⟨s+1,bf,bg,by omega,by go_num,?_,?_,?_,by rw[z80];exact be,?_⟩;rw[dropTo_succ];exact bh;exact(d' bc).trans bi (λk ak h=>((d' ac) k h).elim id (λh=>by omega));intro k ak;rcases bj k ak with h|h;exact(d' ac) k h;exact .inr (by omega);intro j hj;rw[z46 (AG (by have aV:=(d' ao).lt w (.inl rfl);show p.heap.size≠w;omega))];exact(d' bd) j hj
   case measure=>simp[intOf];omega
  have aB:s=3:=by omega
  subst aB;have J:=y' R;have M:=y' hF;have ac:=y' hK;clear R hF hK H;go_wp2;refine z74 (z64 rfl _ _ _) rfl ?_;exact⟨rfl,Q,V,d' J,d' M,λk ak=>((d' ac) k ak).elim .inl (λh=>.inr (by omega))⟩
namespace Mq
structure Sk where
 Qa:Nat
 Qc:Nat->List z10
 held:List (Nat×Nat×z10)
def Sk.count (s:Sk):Nat:=(s.Qc 0).length+(s.Qc 1).length+(s.Qc 2).length
def ixFrom (st q:Nat):Nat->List (Nat×Nat×z10)->Option Nat
 | _,[]=>none
 |i,h::l=>if h.1=st/\h.2.1=q then some i else ixFrom st q (i+1) l
def Sk.ix (s:Sk) (st q:Nat):Option Nat:=ixFrom st q 0 s.held
variable{S:List z10}{b:Nat}
theorem ixFrom_none:∀ {l:List (Nat×Nat×z10)} {i:Nat},(∀j (hj:j < l.length),¬ (l[j].1=w/\l[j].2.1=a))->ixFrom w a i l=none
 |[],_,_=>rfl
 |h::l,i,z=>by have h0:=z 0 (by simp);simp only[List.getElem_cons_zero]at h0;rw[ixFrom,if_neg h0];exact ixFrom_none (λj hj=>by have:=z (j+1) (by simp;omega);simpa using this)
theorem ixFrom_some:∀ {l:List (Nat×Nat×z10)} {i k:Nat} (F:k < l.length),(∀j (hj:j < l.length),j < k->¬ (l[j].1=w/\l[j].2.1=a))->l[k].1=w/\l[k].2.1=a->ixFrom w a i l=some (i+k)
 |h::l,i,0,_,_,z=>by simp only[List.getElem_cons_zero]at z;rw[ixFrom,if_pos z];simp
 |h::l,i,k+1,F,G,z=>by have h0:=G 0 (by simp) (by omega);simp only[List.getElem_cons_zero]at h0;rw[ixFrom,if_neg h0,ixFrom_some (k:=k) (by simpa using F) (λj hj H=>by have:=G (j+1) (by simp;omega) (by omega);simpa using this) (by simpa using z)];congr 1;omega
def ixInt:Option Nat->Int
 |none=> -1
 |some i=>i
def Sk.commitFrom (a:Sk) (st q n:Nat):Nat->List z10->List z10
 |0,out=>out
 |f+1,out=>if n+out.length < 120 then
   match a.ix st (q+out.length)with
   |none=>out
   |some i=>Sk.commitFrom a st q n f (out++[(a.held.getD i (0,0,⟨#[]⟩)).2.2])
  else out
def Sk.Qg (a:Sk) (k e st q:Int) (b:z10):List z10:=
 if k≠3\/e≠a.Qa\/q≠(a.Qc st.toNat).length+1 then []else if 120<=a.count then []else a.commitFrom st.toNat q.toNat a.count 120 [b]
theorem Sk.Zm {a:Sk} {st q f:Nat} (h:¬w+S.length < 120):a.commitFrom st q w f S=S:=by
 cases f with
 |zero=>rfl
 |succ f=>rw[Sk.commitFrom,if_neg h]
variable{bR:Sk}
theorem Sk.Vj {f:Nat} (h:q+S.length < 120) (hi:bR.ix w (a+S.length)=none):bR.commitFrom w a q f S=S:=by
 cases f with
 |zero=>rfl
 |succ f=>rw[Sk.commitFrom,if_pos h,hi]
theorem Sk.Vh {f:Nat} (h:q+S.length < 120) (hi:bR.ix w (a+S.length)=some b):bR.commitFrom w a q (f+1) S=bR.commitFrom w a q f (S++[(bR.held.getD b (0,0,⟨#[]⟩)).2.2]):=by
 rw[Sk.commitFrom,if_pos h,hi]
theorem ixFrom_lt:∀ {l:List (Nat×Nat×z10)} {i k:Nat},ixFrom w a i l=some k->i<=k/\k < i+l.length
 |[],_,_,h=>by simp[ixFrom]at h
 |x::l,i,k,h=>by
  rw[ixFrom]at h;split at h
  .injection h with h;subst h;simp
  .have:=ixFrom_lt h;simp;omega
def keeps (st up:Nat) (h:Nat×Nat×z10):Bool:= !(decide (h.1=st)) ||decide (up < h.2.1)
def Sk.forget (a:Sk) (st up:Nat):Sk:={a with held:=a.held.filter (keeps st up)}
end Mq
def BV (l:List (Nat×Nat×z10)):List Value:=l.flatMap λh=>[Ej (h.1:Int),Ej (h.2.1:Int),.string h.2.2]
structure AU where
 dead:Bool
 next:Int
 inn:Int
 more:Value
def AK (a:Mq.Sk) (r:AU) (lv:Nat->Value) (z:Value):Array Value:=
 #[Ej a.Qa,.bool r.dead,lv 0,lv 1,lv 2,z,Ej r.next,Ej r.inn,r.more]
structure Jg (w:World) (p:Nat) (a:Mq.Sk) (r:AU) (lv:Nat->Value) (hv:Value):Prop where
 blk:w.heap[p]? =some (.cells (AK a r lv hv) 180 (0,0))
 Qc:∀s,s < 3->Ql w 9 1 (lv s) (a.Qc s).length (AF (a.Qc s))
 held:Ql w 281 3 hv a.held.length (BV a.held)
 apl:∀s t,s < 3->t < 3->s≠t->∀g,(lv s).ownBlock=some g->(lv t).ownBlock≠some g
 ep:a.Qa<=2147483647
 ll:a.count<=120
 hl:a.held.length<=1000
 hb:∀h∈a.held,h.1 < 3/\h.2.1<=2147483647
def SkU (p:Nat) (lv:Nat->Value) (z:Value) (k:Nat):Prop:=k=p\/(∃s,s < 3/\(lv s).ownBlock=some k)\/z.ownBlock=some k
theorem Jg.far {E:Nat->Prop} {w x:World} {p:Nat} {a:Mq.Sk} {r:AU} {lv:Nat->Value} {z:Value} (h:Jg w p a r lv z) (F:Far E w x) (G:∀k,SkU p lv z k->¬E k):Jg x p a r lv z:=
 ⟨F.blk h.blk (G p (.inl rfl)),λs hs=>(h.Qc s hs).far F (λg H=>G g (.inr (.inl ⟨s,hs,H⟩))),h.held.far F (λg H=>G g (.inr (.inr H))),h.apl,h.ep,h.ll,h.hl,h.hb⟩
theorem Jg.lt {w:World} {p:Nat} {a:Mq.Sk} {r:AU} {lv:Nat->Value} {F:Value} (h:Jg w p a r lv F):∀k,SkU p lv F k->k < w.heap.size:=by
 rintro k (rfl|⟨s,hs,z⟩|z);exact z12 h.blk;exact(h.Qc s hs).lt k z;exact h.held.lt k z
variable{x:Mq.Sk}{M:AU}
theorem LV (R:Jg p w x M m y) (s:Nat) (hs:s < 3):p.cell? (Ea w (2+s))=some (m s):=by
 obtain rfl|rfl|rfl:s=0\/s=1\/s=2:=by omega
 all_goals exact D' R.blk
theorem Jg.len (R:Jg p w x M m y) (s:Nat) (hs:s < 3):(x.Qc s).length<=120:=by
 have:=R.ll;unfold Mq.Sk.count at this;obtain rfl|rfl|rfl:s=0\/s=1\/s=2:=by omega
 all_goals omega
theorem iA (R:Jg p w x M m y):
  Cp 210 #[Er w 0] p λe w'=>Rr e (Ej x.count)/\∃n,w'=p.drewN n:=by
 have c2:=Bi 2 R.blk;have c3:=Bi 3 R.blk;have c4:=Bi 4 R.blk;obtain⟨I,J,z,_⟩:=(R.Qc 0 (by omega)).shape;obtain⟨Q,V,F,_⟩:=(R.Qc 1 (by omega)).shape;obtain⟨Y,Z,G,_⟩:=(R.Qc 2 (by omega)).shape;have k0:=R.len 0 (by omega);have k1:=R.len 1 (by omega);have k2:=R.len 2 (by omega);simp[AK]at c2 c3 c4;rw[z]at c2;rw[F]at c3;rw[G]at c4;have H:Hid ((x.count:Int)=(x.Qc 0).length+(x.Qc 1).length+(x.Qc 2).length):=by show _= _;simp[Mq.Sk.count]
 clear R z F G;generalize (x.Qc 0).length=n0,(x.Qc 1).length=n1,(x.Qc 2).length=n2 at *;go_enter func210,ntmps210;go_wp2;go_quiet (fail);go_wp2;go_ret;exact⟨IP (d' H).symm,_,rfl⟩
theorem JK:∀ (l:List (Nat×Nat×z10)) (i:Nat) (h:i < l.length),(BV l)[i * 3]? =some (Ej (l[i].1:Int))/\(BV l)[i * 3+1]? =some (Ej (l[i].2.1:Int))/\(BV l)[i * 3+2]? =some (.string l[i].2.2)
 |x::l,0,_=>⟨rfl,rfl,rfl⟩
 |x::l,i+1,h=>by obtain⟨h0,h1,h2⟩:=JK l i (by simpa using h);rw[show(i+1) * 3=i * 3+3 by omega,show i * 3+3+1=i * 3+1+3 by omega,show i * 3+3+2=i * 3+2+3 by omega];exact⟨by simpa[BV]using h0,by simpa[BV]using h1,by simpa[BV]using h2⟩
theorem KB (R:Jg p w x M m y) (st q:Nat):
  Cp 211 #[Er w 0,Ej st,Ej q] p λe w'=>Rr e (Ej (Mq.ixInt (x.ix st q)))/\w'=p:=by
 have c5:=Bi 5 R.blk;simp[AK]at c5;obtain⟨au,cap,z,h1,h2,h3⟩:=R.held.shape;rw[z]at c5;have hl:=R.hl;have V:Hid (x.ix st q=Mq.ixFrom st q 0 x.held):=rfl;clear R z;generalize x.held=l at *;have ad:=y' h3;clear h3;go_enter func211,ntmps211;go_wp2;go_loop [7] (λi=>∃k:Nat,k<=l.length/\i=.int .i64 k/\∀j (hj:j < l.length),j < k->¬ (l[j].1=st/\l[j].2.1=q)) (λi=>l.length - (intOf i).toNat)
 case atStart=>exact⟨0,by omega,rfl,λj hj h=>absurd h (by omega)⟩
 case round=>
  obtain⟨k,av,rfl,Y⟩:=hrel;have H:=y' Y;clear Y;by_cases Z:k < l.length
  .obtain⟨g,o,rfl,I⟩:=(d' ad) (by omega);obtain⟨z,aa,ah⟩:=JK l k Z;have ax:=(I (k * 3) (by omega)).trans z;have ay:p.cell? (Ea g (o+k * 3+1))=some (Ej (l[k].2.1:Int)):=(I (k * 3+1) (by omega)).trans aa;clear I z aa ah;have ai:=y' (λaj=>ixFrom_some (i:=0) Z (d' H) aj);have ab:Hid (∀b,(¬ (l[k].1=st/\l[k].2.1=q))->b=k->∀ (hb:b < l.length),¬ (l[b].1=st/\l[b].2.1=q)):=λb h hb az=>(by subst hb;exact h);generalize l[k].1=xs,l[k].2.1=F at *;by_cases hs:xs=st
   .by_cases G:F=q
    .have ac:((xs:Int) == (st:Int))=true:=(by rw[hs];simp);have ak:((F:Int) == (q:Int))=true:=(by rw[G];simp);have ao:=y' ((d' ai) ⟨hs,G⟩);clear hs G;go_wp2;go_ret;exact⟨IP (by rw[d' V,d' ao];simp[Mq.ixInt]),rfl⟩
    have ac:((xs:Int) == (st:Int))=true:=(by rw[hs];simp);have ak:((F:Int) == (q:Int))=false:=(by simp;omega);have J:=y' (λ(h:xs=st/\F=q)=>G h.2);clear hs G;go_wp2;go_round
    case rel=>exact⟨k+1,by omega,by go_num,λj hj aq=>by by_cases Q:j=k;exact(d' ab) j (d' J) Q hj;exact(d' H) j hj (by omega)⟩
    case measure=>simp[intOf];omega
   have ac:((xs:Int) == (st:Int))=false:=(by simp;omega);have J:=y' (λ(h:xs=st/\F=q)=>hs h.1);clear hs;go_wp2;go_round
   case rel=>exact⟨k+1,by omega,by go_num,λj hj aq=>by by_cases Q:j=k;exact(d' ab) j (d' J) Q hj;exact(d' H) j hj (by omega)⟩
   case measure=>simp[intOf];omega
  go_wp2;go_ret;exact⟨IP (by rw[d' V,ixFrom_none (λj hj=>(d' H) j hj (by omega))];rfl),rfl⟩
theorem xH (R:Jg p w x M m y) (hd:M.dead=false) (s:Nat) (hs:s < 3):
  Cp 154 #[Er w 0,Ej s] p λe w'=>Rr e (m s)/\w'=p:=by
 have c1:=Bi 1 R.blk;simp[AK,hd]at c1;have z:=LV R s hs;have F:(s:Int) < 3:=by omega
 have G:¬ (s:Int) < 0:=by omega
 have H:¬ (3:Int)<=s:=by omega
 clear R hd;go_enter func154,ntmps154;go_wp2;go_ret;exact⟨rfl,rfl⟩
def lenOf:Value->Nat
 | .slice _ n _=>n
 | _=>0
structure Zj (w x:World) (p:Nat) (a:Mq.Sk) (r:AU) (lv:Nat->Value) (hv:Value) (k e st q:Int) (b:z10):Prop where
 bel:El w x
 box:x.heap[w.heap.size]? =some (.cells #[Ej k,Ej e,Ej st,Ej q,.string b] 63 (0,0))
 ref:Jg x p a r lv hv
theorem DS (R:Jg p w x M m y) (k e st q:Int) (b:z10):Zj p (p.alloc (.cells #[Ej k,Ej e,Ej st,Ej q,.string b] 63)) w x M m y k e st q b:=
 ⟨bna,z19 p _,R.far (fbF bna) Ih⟩
theorem Zj.below {w x y:World} {p:Nat} {a:Mq.Sk} {r:AU} {lv:Nat->Value} {z:Value} {k e st q:Int} {b:z10} (h:Zj w x p a r lv z k e st q b) (hb:El x y):Zj w y p a r lv z k e st q b:=
 ⟨h.bel.trans (hb.mono h.bel.size),(hb.block _ (z12 h.box)).trans h.box,h.ref.far (fbF hb) Ih⟩
theorem Zj.drew {w x:World} {p:Nat} {a:Mq.Sk} {r:AU} {lv:Nat->Value} {z:Value} {k e st q:Int} {b:z10} (h:Zj w x p a r lv z k e st q b) (n:Nat):Zj w (x.drewN n) p a r lv z k e st q b:=h.below (z36 (z11 _ _) n)
theorem UY (R:Jg p w x M m y) (k e st q:Int) (b:z10) (F:¬k=3):
  Cp 193 #[Er w 0,.agg #[Ej k,Ej e,Ej st,Ej q,.string b]] p λz w'=>Rr z En/\El p w':=by
 have k3:(k !=3)=true:=by simpa using F
 have G:=y' (DS R k e st q b);clear R F;go_enter func193,ntmps193;go_upto_region 2 with fail;refine G' (λz=>Zj p z w x M m y k e st q b) (d' G) ?_;clear G;intro z L;have H:=Bi 0 L.box;simp at H;have I:=y' L;clear L;go_quiet (fail);go_wp2;go_ret;exact⟨rfl,((d' I).drew _).bel⟩
theorem UZ (R:Jg p w x M m y) (k e st q:Int) (b:z10) (F:k=3) (G:¬e=x.Qa):
  Cp 193 #[Er w 0,.agg #[Ej k,Ej e,Ej st,Ej q,.string b]] p λz w'=>Rr z En/\El p w':=by
 have k3:(k !=3)=false:=by subst F;rfl
 have Y:(e != (x.Qa:Int))=true:=by simpa using G
 have H:=y' (DS R k e st q b);clear R F G;generalize I:(x.Qa:Int)=ep at *;go_enter func193,ntmps193;go_upto_region 2 with fail;refine G' (λz=>Zj p z w x M m y k e st q b) (d' H) ?_;clear H;intro z L;obtain⟨J,Q⟩:=GK L.box;have c0:=Bi 0 L.ref.blk;simp[AK]at J Q c0;rw[I]at c0;have V:=y' L;clear L I;go_quiet (fail);go_wp2;go_ret;exact⟨rfl,((d' V).drew _).bel⟩
theorem VA (R:Jg p w x M m y) (k e:Int) (s qn:Nat) (b:z10) (F:k=3) (G:e=x.Qa) (hs:s < 3) (Q:¬qn=(x.Qc s).length+1):
  Cp 193 #[Er w 0,.agg #[Ej k,Ej e,Ej s,Ej qn,.string b]] p λz w'=>Rr z En/\El p w':=by
 have k3:(k !=3)=false:=by subst F;rfl
 have ad:(e != (x.Qa:Int))=false:=by simpa using G
 have ah:((qn:Int) != ((x.Qc s).length:Int)+1)=true:=by simp;omega
 have H:=y' (DS R k e s qn b);have ai:=R.len s hs;have aj:(s:Int) < 3:=by omega
 clear R F G Q;generalize I:(x.Qa:Int)=ep at *;go_enter func193,ntmps193;go_upto_region 2 with fail;refine G' (λz=>Zj p z w x M m y k e s qn b) (d' H) ?_;clear H;intro z L;obtain⟨V,Y,Z,aa⟩:=gX L.box;have c0:=Bi 0 L.ref.blk;have ab:=LV L.ref s hs;obtain⟨ak,ao,J,_⟩:=(L.ref.Qc s hs).shape;simp[AK]at V Y Z aa c0;rw[I]at c0;rw[J]at ab;have ac:=y' L;clear L I J;go_quiet (fail);go_wp2;go_ret;exact⟨rfl,((d' ac).drew _).bel⟩
theorem PN (h:p.ownsRow w j 1 y a C) (hn:0 < a):∃g cap,y=Es g 0 a cap:=by
 obtain⟨_,h2⟩:=h;rcases h2 with ⟨_,h2⟩|⟨g,cap,z,j,_⟩;omega;exact⟨g,cap,j⟩
theorem As (h:p.ownsRow w j 1 y a C):p.ownsRow 0 j 1 y a C:=by
 obtain⟨h1,h2⟩:=h;refine⟨h1,?_⟩;rcases h2 with h2|⟨g,cap,z,j,F,r⟩;exact .inl h2;exact .inr ⟨g,cap,z,j,z54 _,r⟩
theorem xI (l:List z10) (b:z10):AF (l++[b])=AF l++[.string b]:=by simp[AF]
theorem QZ (R:Jg p w x M m y) (k e:Int) (s qn:Nat) (b:z10) (H:k=3) (I:e=x.Qa) (hs:s < 3) (ad:qn=(x.Qc s).length+1) (ah:120<=x.count):
  Cp 193 #[Er w 0,.agg #[Ej k,Ej e,Ej s,Ej qn,.string b]] p λz w'=>
   z=.returned En/\El p w':=by
 have k3:(k !=3)=false:=by subst H;rfl
 have ak:(e != (x.Qa:Int))=false:=by simpa using I
 have ao:((qn:Int) != ((x.Qc s).length:Int)+1)=false:=by simp;omega
 have J:=y' (DS R k e s qn b);have aq:=R.len s hs;have ai:=R.ll;have au:(s:Int) < 3:=by omega
 have av:qn<=121:=by omega
 clear R H I ad;generalize Q:(x.Qa:Int)=ep at *;obtain⟨n,hn⟩:=exq (x.count);have aj:=y' hn;rw[<-hn]at ai ah;clear hn;go_enter func193,ntmps193;go_upto_region 2 with fail;refine G' (λz=>Zj p z w x M m y k e s qn b) (d' J) ?_;clear J;intro z L;obtain⟨V,Y,Z,aa⟩:=gX L.box;have c0:=Bi 0 L.ref.blk;have ab:=LV L.ref s hs;obtain⟨ax,ay,ac,_⟩:=(L.ref.Qc s hs).shape;simp[AK]at V Y Z aa c0;rw[Q]at c0;rw[ac]at ab;have F:=y' L;clear L Q ac;go_quiet (fail);have G:=y' (iA ((d' F).drew nq).ref);rw[<-d' aj]at G;clear V Y Z aa c0 ab;go_upto_region 5 with (go_at_call 210;refine Cm G ?_;rintro az w1 ⟨rfl,aA,rfl⟩);refine G' (λz=>Zj p z w x M m y k e s qn b) ((d' F).drew _) ?_;clear F G;intro aB L;have F:=y' L;have aC:120<=(n:Int):=by omega
 clear L;go_wp2;go_ret;exact⟨rfl,(d' F).bel⟩
theorem kA (R:Jg p w x M m y) (k e:Int) (s qn:Nat) (b:z10) (I:k=3) (aA:e=x.Qa) (hs:s < 3) (bd:qn=(x.Qc s).length+1) (be:x.count < 120):
  Cp 193 #[Er w 0,.agg #[Ej k,Ej e,Ej s,Ej qn,.string b]] p λF w'=>
   ∃v n,F=.returned v/\w'.ownsRow p.heap.size 9 1 v n (AF (x.commitFrom s qn x.count 120 [b]))/\El p w':=by
 have k3:(k !=3)=false:=by subst I;rfl
 have bB:(e != (x.Qa:Int))=false:=by simpa using aA
 have bC:((qn:Int) != ((x.Qc s).length:Int)+1)=false:=by simp;omega
 have aB:=y' (DS R k e s qn b);have bD:=R.len s hs;have bf:=R.ll;have bE:(s:Int) < 3:=by omega
 have bF:qn<=121:=by omega
 obtain⟨i0,hi,aC,aD,aE⟩:=AT CW;have bg:=y' (λk I=>R.lt k I);clear R I aA bd;generalize aF:(x.Qa:Int)=ep at *;obtain⟨n,hn⟩:=exq (x.count);have bh:=y' hn;rw[<-hn]at bf be ⊢;clear hn;obtain⟨bi,au⟩:=exq (x.commitFrom s qn n 120 [b]);rw[<-au];have bj:=y' au;clear au;go_enter func193,ntmps193;go_upto_region 2 with fail;refine G' (λF=>Zj p F w x M m y k e s qn b) (d' aB) ?_;clear aB;intro F L;obtain⟨aG,aH,ab,ac⟩:=gX L.box;have c0:=Bi 0 L.ref.blk;have aI:=LV L.ref s hs;obtain⟨bG,bH,aJ,_⟩:=(L.ref.Qc s hs).shape;simp[AK]at aG aH ab ac c0;rw[aF]at c0;rw[aJ]at aI;have z:=y' L;clear L aF aJ;go_quiet (fail);have Y:=y' (iA ((d' z).drew nq).ref);rw[<-d' bh]at Y;clear aG aH ab ac c0 aI;go_upto_region 5 with (go_at_call 210;refine Cm Y ?_;rintro aK w1 ⟨rfl,bI,rfl⟩);refine G' (λF=>Zj p F w x M m y k e s qn b) ((d' z).drew _) ?_;clear z Y;intro ad L;have bJ:¬120<=(n:Int):=by omega
 have aL:=Bi 4 L.box;simp at aL;have z:=y' L;clear L;go_upto_region 8 with (at_builtin;refine z67 _ rfl (.tmp 40) (.tmp 43) 33 rfl p.heap.size 9 i0 (.string ⟨#[]⟩) 1 16 underlying33 hi aC aD aE rfl (by decide) En 0 [] rfl (z20 _ _ _ _) ⟨ad.heap.size,0,none⟩ 1 1 [.string b] rfl rfl AW (by intro u hu;simp at hu;subst hu;rfl) (by unfold maxLen;omega) (by omega) (by have:=(d' z).bel.size;simp;omega) ?_;intro v' bK aM aN _;have aO:=((z11 ad.heap.size ad).alloc (z16 _) (.cells #[.string b] 9)).trans (AB (B:=ad.heap.size) aN (by simp) (λg av=>by cases av));have G:=y' aM;have aP:=y' aO;clear aM aN aO);refine G' (λF=>Zj p F w x M m y k e s qn b/\F.ownsRow p.heap.size 9 1 v' 1 (AF [b])) ⟨(d' z).below (d' aP),by simpa[AF]using d' G⟩ ?_;clear aL z G aP;rintro bL ⟨aQ,aR⟩;have aS:=y' aQ;have aT:=y' aR;clear aQ aR;go_wp2;go_loopw[5] (λv wr=>∃ (out:List z10) (f:Nat),1<=out.length/\n+out.length<=120/\x.commitFrom s qn n f out=bi/\120<=f+n+out.length/\wr.ownsRow p.heap.size 9 1 v out.length (AF out)/\Zj p wr w x M m y k e s qn b) (λv _=>120 - lenOf v)
 case atStart=>exact⟨[b],120,by simp,by simp;omega,(d' bj).symm,by simp;omega,d' aT,d' aS⟩
 case round=>
  obtain⟨out,f,h1,h2,ah,bM,Z,L⟩:=hrel;obtain⟨g,cap,bk⟩:=PN Z (by omega);clear aS aT;subst bk;have ab:=Bi 2 L.box;have ac:=Bi 3 L.box;have c5:=Bi 5 L.ref.blk;simp[AK]at ab ac c5;have aa:=y' ah;have G:=y' Z;have bl:=y' (AX (As Z) L.box (by decide));by_cases J:n+out.length < 120
  .have bm:(n:Int)+out.length < 120:=(by omega);have Q:=KB L.ref s (qn+out.length);rw[show((qn+out.length:Nat):Int)=(qn:Int)+out.length by omega]at Q;obtain⟨bN,bO,ax,_,_,ay⟩:=L.ref.held.shape;have bn:=L.ref.hl;rw[ax]at c5;have Y:=y' ay;have z:=y' L;have bP:=y' J;cases V:x.ix s (qn+out.length)with
   |none=>rw[V]at Q;have az:=y' Q;have H:=y' (Mq.Sk.Vj (f:=f) J V);clear ah Z L ay Q V J ax;go_wp2_with (go_at_call 211;refine Cm az ?_;rintro aK w1 ⟨rfl,rfl⟩;simp only[Mq.ixInt]);go_ret;exact⟨_,out.length,rfl,by rw[<-d' aa,d' H];exact d' G,(d' z).bel⟩
   |some i=>
    rw[V]at Q;have az:=y' Q;have ai:i < x.held.length:=(by have:=(ixFrom_lt (show Mq.ixFrom s (qn+out.length) 0 x.held=some i from V)).2;omega);obtain⟨g2,bo,aU,aV⟩:=(d' Y) (show 0 < x.held.length from Nat.lt_of_le_of_lt (z54 _) ai);rw[aU]at c5;have bp:wr.cell? (Ea g2 (bo+i * 3+2))=some (.string x.held[i].2.2):=(aV (i * 3+2) (by omega)).trans (JK x.held i ai).2.2;obtain⟨aj,rfl⟩:∃aj,f=aj+1:=⟨f - 1,by omega⟩;have H:=y' (Mq.Sk.Vh (f:=aj) J V);have aW:x.held.getD i (0,0,⟨#[]⟩)=x.held[i]:=(by rw[z15,z17 ai];rfl);rw[aW]at H;obtain⟨ak,aX⟩:=exq (x.held[i].2.2);rw[<-aX]at bp H;obtain⟨bq,aY⟩:=exq (x.held.length);rw[<-aY]at c5 bn ai;have bQ:(i:Int) < bq:=(by omega);clear ah Z L ay aV aU Q V J ax aW aX Y aY;go_wp2_with (first|(go_at_call 211;refine Cm az ?_;rintro aK w1 ⟨rfl,rfl⟩;simp only[Mq.ixInt])|(at_builtin;refine z67 _ rfl (.tmp 62) (.tmp 71) 33 rfl p.heap.size 9 i0 (.string ⟨#[]⟩) 1 16 underlying33 hi aC aD aE rfl (by decide) (Es g 0 out.length cap) out.length (AF out) rfl ((d' G).alloc _) ⟨w1.heap.size,0,none⟩ 1 1 [.string ak] rfl rfl AW (by intro u hu;simp at hu;subst hu;rfl) (by unfold maxLen;omega) (by omega) (by have:=(d' z).bel.size;simp;omega) ?_;intro v9 aZ ao ba _;rw[<-xI]at ao;obtain⟨bR,bS,br⟩:=PN ao (by omega);subst br;have bb:=(λg av=>(z14 (d' G) g av).1);have bt:=y' ao;have bu:=y' ba;have bw:=y' bb;clear ao ba bb));go_roundw
    case rel=>have bz:=((z11 w1.heap.size w1).alloc (z16 _) (.cells #[.string ak] 9));have bA:Zj p aZ w x M m y k e s qn b:=(by have aq:=(d' z).below bz;have hF:Far (λk=>(Value.slice (some ⟨g,0,none⟩) out.length cap).ownBlock=some k) (w1.alloc (.cells #[.string ak] 9)) aZ:=BU (d' bu);have bT:=(d' bw) g rfl;have bU:=(d' z).bel.size;have bc:=aq.bel;refine⟨bc.trans (hF.below (by have:=bc.size;exact this) (λk I e=>by injection e with e;change g=k at e;omega)),(hF.rest _ (z12 aq.box) (λe=>by injection e with e;change g= _ at e;exact(d' bl) (congrArg some e))).trans aq.box,aq.ref.far hF (λk I e=>by injection e with e;change g=k at e;have:=(d' bg) k I;omega)⟩);exact⟨out++[ak],aj,by simp,by simp;omega,by rw[<-d' H];exact d' aa,by simp;omega,by simpa using d' bt,bA⟩
    case measure=>simp[lenOf];omega
  have bm:¬ (n:Int)+out.length < 120:=by omega
  have H:=y' (Mq.Sk.Zm (a:=x) (st:=s) (q:=qn) (f:=f) J);have z:=y' L;clear ah Z L J;go_wp2;go_ret;first
   |exact⟨_,out.length,rfl,by rw[<-d' aa,d' H];exact d' G,(d' z).bel⟩
   |exact⟨_,rfl,⟨out.length,by rw[<-d' aa,d' H];exact d' G⟩,(d' z).bel⟩
   |exact⟨_,rfl,out.length,by rw[<-d' aa,d' H];exact d' G,(d' z).bel⟩
theorem nL:(prog.info? 281).map (λi=>(i.zero,i.size,i.bytes))=some (some (.agg #[Ej 0,Ej 0,.string ⟨#[]⟩]),3,32):=by kernel_rfl
theorem NM (l:List (Nat×Nat×z10)) (h:Nat×Nat×z10):BV (l++[h])=BV l++[Ej (h.1:Int),Ej (h.2.1:Int),.string h.2.2]:=by simp[BV]
def JA (w w':World) (p:Nat) (a':Mq.Sk) (r:AU) (lv:Nat->Value) (z:Value):Prop:=
 ∃F G,Jg w' p a' r F G/\Far (SkU p lv z) w w'/\∀k,SkU p F G k->SkU p lv z k\/w.heap.size<=k
theorem Jg.Zw {w w1:World} {p:Nat} {a:Mq.Sk} {r:AU} {lv:Nat->Value} {z v':Value} {x:List (Nat×Nat×z10)} (R:Jg w p a r lv z) (G:Far (λk=>z.ownBlock=some k) w w1)
  (hl:∀g,v'.ownBlock=some g->z.ownBlock=some g\/w.heap.size<=g) (V:Ql w1 281 3 v' x.length (BV x)) (Y:x.length<=1000) (hb:∀h∈x,h.1 < 3/\h.2.1<=2147483647):
  (∃C,Eh w1 p C 180/\C[5]? =some z)/\JA w (w1.setCell ⟨p,5,none⟩ v') p {a with held:=x} r lv z:=by
 have M:z.ownBlock≠some p:=R.held.ne R.blk (by decide);have Q:=G.blk R.blk M;have H:=T' w1 p 5 v';refine⟨⟨_,Q,rfl⟩,lv,v',⟨?_,?_,?_,R.apl,R.ep,R.ll,Y,hb⟩,?_,?_⟩;have:=AA (j:=5) (v:=v') Q;rw[this];rfl;intro s hs;exact((R.Qc s hs).far G (λg F Z=>(R.Qc s hs).ty R.held (by decide) F Z)).far H (λg F I=>(R.Qc s hs).ne R.blk (by decide) (by rw[F,I]));refine V.far H (λg F I=>?_);rw[I]at F;exact(hl p F).elim M (λh=>by have:=z12 R.blk;omega);exact(G.mono (E':=SkU p lv z) (λk _ h=>.inr (.inr h))).trans H (λk _ h=>.inl h);rintro k (rfl|⟨s,hs,J⟩|J);exact .inl (.inl rfl);exact .inl (.inr (.inl ⟨s,hs,J⟩));exact(hl k J).elim (λh=>.inl (.inr (.inr h))) .inr
theorem nM {f:Nat×Nat×z10->Bool} (h:w < cW.length):(cW.take (w+1)).filter f=(cW.take w).filter f++(if f cW[w]=true then [cW[w]]else []):=by
 rw[z84 h,List.filter_append,List.filter_cons];split <;> simp
theorem CV (h:p.ownsRow w j a y q C):Ql p j a y q C:=by
 obtain⟨h1,h2⟩:=h;refine⟨h1,?_⟩;rcases h2 with h2|⟨g,cap,z,rfl,_,F,hn,G,hs,H⟩;exact .inl h2;exact .inr ⟨g,0,cap,z,rfl,F,hn,G,by omega,by simpa using H⟩
theorem RA (R:Jg p w x M m y) (st up:Nat):
  Cp 215 #[.pointer (some ⟨w,0,none⟩),.int .i64 st,.int .i64 up] p λe w'=>e=.returned (.tuple #[])/\JA p w' w (x.forget st up) M m y:=by
 have c5:=Bi 5 R.blk;simp[AK]at c5;obtain⟨aY,cap,Q,h1,h2,h3⟩:=R.held.shape;rw[Q]at c5;have hl:=R.hl;have aA:=z12 R.blk;have ak:=R.held.lt;rw[Q]at ak;have aB:=y' R;obtain⟨l,ao⟩:=exq (x.held);have aC:=y' ao;rw[<-ao]at c5 h1 h3 hl;obtain⟨i0,hi,aD,aE,aF⟩:=AT nL;have aM:=y' h3;have aN:=y' ak;have aG:=y' c5;clear R Q h3 ao ak c5;go_enter func215,ntmps215;go_wp2;go_loopw[6,7] (λv i wr=>∃ (k n:Nat),k<=l.length/\i=.int .i64 k/\n<=k/\n=((l.take k).filter (Mq.keeps st up)).length/\wr.ownsRow p.heap.size 281 3 v n (BV ((l.take k).filter (Mq.keeps st up)))/\Below p.heap.size p wr) (λ_ i _=>l.length - (intOf i).toNat)
 case atStart=>exact⟨0,0,by omega,rfl,by omega,rfl,z20 _ _ _ _,z11 _ _⟩
 case round=>
  obtain⟨k,n,aO,rfl,aZ,hn,H,hb⟩:=hrel;have c5:=Bc hb aA (d' aG);have Y:=y' H;have z:=y' hb;have Z:=y' hn;clear hn;by_cases aH:k < l.length
  .obtain⟨g,o,rfl,ad⟩:=(d' aM) (by omega);obtain⟨Q,aI,aJ⟩:=JK l k aH;have F:=(d' aN) g rfl;have aq:=(hb.cell (p:=⟨g,o+k * 3,none⟩) F).trans ((ad (k * 3) (by omega)).trans Q);have ah:wr.cell? ⟨g,o+k * 3+1,none⟩=some (.int .i64 (l[k].2.1:Int)):=(hb.cell (p:=⟨g,o+(k * 3+1),none⟩) F).trans ((ad (k * 3+1) (by omega)).trans aI);have au:wr.cell? ⟨g,o+k * 3+2,none⟩=some (.string l[k].2.2):=(hb.cell (p:=⟨g,o+(k * 3+2),none⟩) F).trans ((ad (k * 3+2) (by omega)).trans aJ);have av:=y' (nM (f:=Mq.keeps st up) aH);have ai:Hid (Mq.keeps st up l[k]=(!(decide (l[k].1=st)) ||decide (up < l[k].2.1))):=rfl;clear H hb ad Q aI aJ;generalize l[k]=aP at *;obtain⟨xs,G,V⟩:=aP;simp only at aq ah au ai;by_cases J:xs=st
   .have aQ:((xs:Int) != (st:Int))=false:=(by rw[J];simp);by_cases aj:(up:Int) < G
    .have ba:=y' J;clear J;have I:=y' (show(List.filter (Mq.keeps st up) (List.take (k+1) l))=List.filter (Mq.keeps st up) (List.take k l)++[(xs,G,V)] by rw[d' av,if_pos (by rw[d' ai];simp;omega)]);go_upto_region 3 with (at_builtin;refine z67 _ rfl (.tmp 39) (.tmp 47) 178 rfl p.heap.size 281 i0 (.agg #[.int .i64 0,.int .i64 0,.string ⟨#[]⟩]) 3 32 underlying178 hi aD aE aF rfl (by decide) u6 n (BV ((l.take k).filter (Mq.keeps st up))) rfl ((d' Y).alloc _) ⟨wr.heap.size,0,none⟩ 1 1 [.int .i64 xs,.int .i64 G,.string V] rfl rfl AW (by intro u hu;simp at hu;rcases hu with rfl|rfl|rfl <;> rfl) (by unfold maxLen;omega) (by omega) (by have:=(d' z).size;simp;omega) ?_;intro v' w1 aa ab _;have ac:=((d' z).trans (((z11 _ _).alloc (z16 _) (.cells #[.int .i64 xs,.int .i64 G,.string V] 281)).mono (d' z).size)).trans (AB (B:=p.heap.size) ab (by have:=(d' z).size;simp;omega) (λg F=>(z14 (d' Y) g F).1));have ax:=y' aa;have ay:=y' ac;clear aa ab ac);clear c5 aq ah au;go_wp2;go_roundw
     case rel=>exact⟨k+1,n+1,by omega,by go_num,by omega,by rw[d' I,z29,<-d' Z];rfl,by rw[d' I,NM];exact d' ax,d' ay⟩
     case measure=>simp[intOf];omega
    have bb:¬ (up:Int) < G:=aj;have aR:Hid (xs=st/\¬up < G):=⟨J,by omega⟩;clear J;have I:=y' (show(List.filter (Mq.keeps st up) (List.take (k+1) l))=List.filter (Mq.keeps st up) (List.take k l) by rw[d' av,if_neg (by rw[d' ai];have:=d' aR;simp[this.1];omega),List.append_nil]);go_wp2;go_roundw
    case rel=>exact⟨k+1,n,by omega,by go_num,by omega,by rw[d' I];exact d' Z,by rw[d' I];exact d' Y,d' z⟩
    case measure=>simp[intOf];omega
   have aQ:((xs:Int) != (st:Int))=true:=(by simp;omega);have aS:=y' J;clear J;have I:=y' (show(List.filter (Mq.keeps st up) (List.take (k+1) l))=List.filter (Mq.keeps st up) (List.take k l)++[(xs,G,V)] by rw[d' av,if_pos (by rw[d' ai];simp[d' aS])]);go_upto_region 3 with (at_builtin;refine z67 _ rfl (.tmp 39) (.tmp 47) 178 rfl p.heap.size 281 i0 (.agg #[.int .i64 0,.int .i64 0,.string ⟨#[]⟩]) 3 32 underlying178 hi aD aE aF rfl (by decide) u6 n (BV ((l.take k).filter (Mq.keeps st up))) rfl ((d' Y).alloc _) ⟨wr.heap.size,0,none⟩ 1 1 [.int .i64 xs,.int .i64 G,.string V] rfl rfl AW (by intro u hu;simp at hu;rcases hu with rfl|rfl|rfl <;> rfl) (by unfold maxLen;omega) (by omega) (by have:=(d' z).size;simp;omega) ?_;intro v' w1 aa ab _;have ac:=((d' z).trans (((z11 _ _).alloc (z16 _) (.cells #[.int .i64 xs,.int .i64 G,.string V] 281)).mono (d' z).size)).trans (AB (B:=p.heap.size) ab (by have:=(d' z).size;simp;omega) (λg F=>(z14 (d' Y) g F).1));have ax:=y' aa;have ay:=y' ac;clear aa ab ac);clear c5 aq ah au;go_wp2;go_roundw
   case rel=>exact⟨k+1,n+1,by omega,by go_num,by omega,by rw[d' I,z29,<-d' Z];rfl,by rw[d' I,NM];exact d' ax,d' ay⟩
   case measure=>simp[intOf];omega
  have aT:l.length=k:=by omega
  rw[z48 (by omega)]at H Z;have bc:=y' H;have aj:=y' ((d' aB).Zw (I' hb) (v':=u6) (x:=l.filter (Mq.keeps st up)) (λg F=>.inr (z14 H g F).1) (by have:=CV H;rw[d' Z]at this;exact this) (by have:=List.length_filter_le (Mq.keeps st up) l;omega) (λh aU=>(d' aB).hb h (by rw[<-d' aC];exact(sL.1 aU).1)));have aV:=(d' aj).1;obtain⟨C,az,aK⟩:=aV;have ah:=(Bi 5 az).trans aK;have f1:=H' (i:=5) az;have c5:=Bc hb aA (d' aG);have aW:=(CV H).shape;clear aT H hb az aK aO;obtain⟨bd,be,aX,_⟩:=aW;subst aX;go_wp2;refine z74 (z64 rfl _ _ _) rfl ?_;refine⟨rfl,?_⟩;have aL:=(d' aj).2;rw[d' aC]at aL;exact aL
theorem NO (R:Jg p w x M m y) (k e:Int) (s qn:Nat) (b:z10) (hs:s < 3):
  Cp 193 #[Er w 0,.agg #[Ej k,Ej e,Ej s,Ej qn,.string b]] p λG w'=>
   ∃v n,G=.returned v/\w'.ownsRow p.heap.size 9 1 v n (AF (x.Qg k e s qn b))/\El p w':=by
 have none_:∀ {G:Ending} {w':World},x.Qg k e s qn b=[]->G=.returned En/\El p w'->∃v n,G=.returned v/\w'.ownsRow p.heap.size 9 1 v n (AF (x.Qg k e s qn b))/\El p w':=by rintro G w' h ⟨rfl,hb⟩;rw[h];exact⟨_,0,rfl,z20 _ _ _ _,hb⟩
 by_cases z:k=3;by_cases F:e=x.Qa;by_cases H:qn=(x.Qc s).length+1;have h1:¬ (k≠3\/e≠x.Qa\/(qn:Int)≠(x.Qc (s:Int).toNat).length+1):=by simp[z,F,H]
 by_cases h2:120<=x.count;exact(QZ R k e s qn b z F hs H h2).mono λ_ _ h=>none_ (by rw[Mq.Sk.Qg,if_neg h1,if_pos h2]) h;have h3:x.Qg k e s qn b=x.commitFrom s qn x.count 120 [b]:=by rw[Mq.Sk.Qg,if_neg h1,if_neg h2];rfl
 rw[h3];exact kA R k e s qn b z F hs H (by omega);exact(VA R k e s qn b z F hs H).mono λ_ _ h=>none_ (by rw[Mq.Sk.Qg,if_pos];right;right;simp;omega) h;exact(UZ R k e s qn b z F).mono λ_ _ h=>none_ (by rw[Mq.Sk.Qg,if_pos];exact .inr (.inl F)) h;exact(UY R k e s qn b z).mono λ_ _ h=>none_ (by rw[Mq.Sk.Qg,if_pos];exact .inl z) h
theorem LJ:∀ {f:Nat} {out:List z10},out≠ []->x.commitFrom w a q f out≠ []
 |0,_,h=>h
 |f+1,out,h=>by
  rw[Mq.Sk.commitFrom];split
  .split
   .exact h
   .exact LJ (by simp)
  .exact h
theorem NP:∀ {f:Nat} {out:List z10},q+out.length<=120->q+(x.commitFrom w a q f out).length<=120
 |0,_,h=>h
 |f+1,out,h=>by
  rw[Mq.Sk.commitFrom];split
  .split
   .exact h
   .exact NP (by simp;omega)
  .exact h
theorem nN (R:Jg p w x M m y) (k e:Int) (s qn:Nat) (b:z10) (hs:s < 3) (hn:x.Qg k e s qn b=[]):
  Cp 193 #[Er w 0,.agg #[Ej k,Ej e,Ej s,Ej qn,.string b]] p λH w'=>Rr H En/\El p w':=by
 by_cases z:k=3;by_cases F:e=x.Qa;by_cases G:qn=(x.Qc s).length+1;have h1:¬ (k≠3\/e≠x.Qa\/(qn:Int)≠(x.Qc (s:Int).toNat).length+1):=by simp[z,F,G]
 by_cases h2:120<=x.count;exact QZ R k e s qn b z F hs G h2;rw[Mq.Sk.Qg,if_neg h1,if_neg h2]at hn;exact(LJ (by simp) hn).elim;exact VA R k e s qn b z F hs G;exact UZ R k e s qn b z F;exact UY R k e s qn b z
theorem JL {a:Mq.Sk} (k e:Int) (s qn:Nat) (b:z10) (h:a.count<=120):a.count+(a.Qg k e s qn b).length<=120:=by
 rw[Mq.Sk.Qg];split;simpa using h;split;simpa using h;exact NP (by simp;omega)
theorem VB (a:Mq.Sk) (r:AU) (lv:Nat->Value) (z:Value) (s:Nat) (hs:s < 3) (v:Value) (x:List z10):
  (AK a r lv z).setIfInBounds (2+s) v=AK {a with Qc:=λt=>if t=s then x else a.Qc t} r (TF lv s v) z:=by
 obtain rfl|rfl|rfl:s=0\/s=1\/s=2:=by omega
 all_goals rfl
theorem Jg.logStep {w w1:World} {p:Nat} {a:Mq.Sk} {r:AU} {lv:Nat->Value} {I:Value} (R:Jg w p a r lv I) (s:Nat) (hs:s < 3) {v':Value} {x:List z10} (M:Far (λk=>(lv s).ownBlock=some k) w w1)
  (hl:∀g,v'.ownBlock=some g->(lv s).ownBlock=some g\/w.heap.size<=g) (ah:Ql w1 9 1 v' x.length (AF x)) (ai:Mq.Sk.count {a with Qc:=λt=>if t=s then x else a.Qc t}<=120):
  (∃C,Eh w1 p C 180/\C[2+s]? =some (lv s))/\JA w (w1.setCell ⟨p,2+s,none⟩ v') p {a with Qc:=λt=>if t=s then x else a.Qc t} r lv I:=by
 have Z:∀t,t < 3->(lv t).ownBlock≠some p:=λt F=>(R.Qc t F).ne R.blk (by decide);have aj:I.ownBlock≠some p:=R.held.ne R.blk (by decide);have ac:=M.blk R.blk (Z s hs);have aa:∀k,k < w.heap.size->v'.ownBlock=some k->(lv s).ownBlock=some k:=λk H e=>(hl k e).elim id (λh=>by omega);have Q:=T' w1 p (2+s) v';refine⟨⟨_,ac,?_⟩,TF lv s v',I,⟨?_,?_,?_,?_,R.ep,ai,R.hl,R.hb⟩,?_,?_⟩
 .obtain rfl|rfl|rfl:s=0\/s=1\/s=2:=by omega
  all_goals rfl
 rw[<-VB a r lv I s hs];exact AA ac;intro t F;by_cases G:t=s;subst G;rw[CG];simp only[if_true];refine ah.far Q (λg z J=>?_);rw[J]at z;exact Z t hs (aa p (z12 R.blk) z);rw[BE _ _ G];simp only[if_neg G];exact((R.Qc t F).far M (λg z ab=>R.apl t s F hs G g z ab)).far Q (λg z J=>Z t F (by rw[z,J]));exact(R.held.far M (λg z ab=>R.held.ty (R.Qc s hs) (by decide) z ab)).far Q (λg z J=>aj (by rw[z,J]));intro t u F hu V g z;by_cases G:t=s;subst G;rw[CG]at z;rw[BE _ _ (λe=>V e.symm)];intro Y;have ak:=(R.Qc u hu).lt g Y;exact R.apl t u F hu V g (aa g ak z) Y;rw[BE _ _ G]at z;by_cases ad:u=s;subst ad;rw[CG];intro Y;exact R.apl t u F hu V g z (aa g ((R.Qc t F).lt g z) Y);rw[BE _ _ ad];exact R.apl t u F hu V g z;exact(M.mono (E':=SkU p lv I) (λk _ h=>.inr (.inl ⟨s,hs,h⟩))).trans Q (λk _ h=>.inl h);rintro k (rfl|⟨t,F,H⟩|H);exact .inl (.inl rfl);by_cases G:t=s;subst G;rw[CG]at H;rcases hl k H with h|h;exact .inl (.inr (.inl ⟨t,F,h⟩));exact .inr h;rw[BE _ _ G]at H;exact .inl (.inr (.inl ⟨t,F,H⟩));exact .inl (.inr (.inr H))
theorem VX {K:Act->World->Prop} (F:J.guard=none) (s x:Operand) (t:TypeId) (H:J.op=.call {callee:=.builtin .append,args:= #[s,x],argTypes:= #[t,t]})
  (e:TypeId) (i:TypeInfo) (size:Nat) (z:prog.underlying t=some (.slice e)) (hi:prog.info? e=some i)
  (v:Value) (n:Nat) (xs:List Value) (I:Ql p e size v n xs) (hs:G.eval s=v) (M:G.eval x=En)
  (h:K (G.put J.dst v) p):if Region.wanted J (yielded aC G.tmps)=true then J.wp prog G p K aB else bQ:=by
 rw[if_pos (by simp[Region.wanted,F])];have Q:(Builtin.append_ #[t,t] J.type #[v,En]).run prog p=.ok v p:=by rcases I.2 with ⟨rfl,rfl⟩|⟨g,Y,cap,Z,rfl,_,V,_⟩;simp[Builtin.append_,run_underlying z,sizeOf,typeInfo,hi,Builtin.lenOf,Builtin.firstCells];simp[Builtin.append_,run_underlying z,sizeOf,typeInfo,hi,Builtin.lenOf,Builtin.firstCells,V,storeCells]
 unfold Oper.wp;simp[execOp,H,resolve,invoke,builtin,hs,M,Q,Result.andThen];exact h
theorem ES {K:Act->World->Prop} {w:World} (I:J.guard=none) (s x:Operand) (t:TypeId) (M:J.op=.call {callee:=.builtin .append,args:= #[s,x],argTypes:= #[t,t]})
  (e:TypeId) (F:Value) (size bytes:Nat) (Q:prog.underlying t=some (.slice e)) (V:(prog.info? e).map (λi=>(i.zero,i.size,i.bytes))=some (some F,size,bytes)) (Y:F.cells.size=size)
  (v:Value) (n:Nat) (xs:List Value) (Z:Ql w e size v n xs) (hs:G.eval s=v) (H:Addr) (m c:Nat) (z:List Value) (aa:G.eval x=.slice (some H) m c) (hl:z.length=m * size) (ab:∀j u,z[j]? =some u->w.cell? (H.add j)=some u)
  (h1:∀u∈z,u.oneCell'=true) (ac:0 < m) (hb:(n+m) * bytes<=140737488355328) (ad:n+m<=140737488355328)
  (h:∀v' w',Ql w' e size v' (n+m) (xs++z)->App w w' v v'->K (G.put J.dst v') w'):if Region.wanted J (yielded aC G.tmps)=true then J.wp prog G w K aB else bQ:=by
 rw[if_pos (by simp[Region.wanted,I])];obtain⟨i0,hi,ah,ai,aj⟩:=AT V;obtain⟨v',w',ak,h2,h3⟩:=QY (P:=prog) w t J.type e i0 F size bytes Q hi ah ai aj Y v n xs Z H m c z hl ab h1 ac hb ad;unfold Oper.wp execOp;simp only[M,resolve,invoke,builtin,Sem.run_bind,Sem.run_pure,Result.andThen_ok,List.map_toArray,List.map_cons,List.map_nil,hs,aa,ak];exact h v' w' h2 h3
theorem Au (h:p.cell? cM=some u):(p.setCell cM y).drew.cell? cM=some y:=by
 have:=z99 p cM y h;exact this
structure Zn (w:World) (p:Nat) (lv0:Nat->Value) (hv0:Value) (r:AU) (k e st q:Int) (b:z10) (a:Mq.Sk) (lv:Nat->Value) (hv:Value) (x:World):Prop where
 far:Far (SkU p lv0 hv0) w x
 box:x.heap[w.heap.size]? =some (.cells #[Ej k,Ej e,Ej st,Ej q,.string b] 63 (0,0))
 ref:Jg x p a r lv hv
 loc:∀k,SkU p lv hv k->SkU p lv0 hv0 k\/w.heap.size < k
 old:∀k,SkU p lv0 hv0 k->k < w.heap.size
theorem WP (h:Zj p f w x M m y o V aF aH z) (F:∀o,SkU w m y o->o < p.heap.size):Zn p w m y M o V aF aH z x m y f:=
 ⟨I' h.bel,h.box,h.ref,λ_ h=>.inl h,F⟩
theorem Zn.below {w x y:World} {p:Nat} {z:Nat->Value} {F:Value} {r:AU} {k e st q:Int} {b:z10} {a:Mq.Sk} {lv:Nat->Value} {G:Value} (h:Zn w p z F r k e st q b a lv G x) (hb:El x y):Zn w p z F r k e st q b a lv G y:=
 ⟨h.far.trans (fbF hb) (λ_ _ h=>h.elim),(hb.block _ (z12 h.box)).trans h.box,h.ref.far (fbF hb) Ih,h.loc,h.old⟩
theorem Zn.drew {w x:World} {p:Nat} {z:Nat->Value} {F:Value} {r:AU} {k e st q:Int} {b:z10} {a:Mq.Sk} {lv:Nat->Value} {G:Value} (h:Zn w p z F r k e st q b a lv G x) (n:Nat):Zn w p z F r k e st q b a lv G (x.drewN n):=
 h.below (z36 (z11 _ _) n)
theorem Zn.step {w x y:World} {p:Nat} {G:Nat->Value} {H:Value} {r:AU} {k e st q:Int} {b:z10} {a a2:Mq.Sk} {lv:Nat->Value} {I:Value} (h:Zn w p G H r k e st q b a lv I x) (hs:JA x y p a2 r lv I):
  ∃z F,Zn w p G H r k e st q b a2 z F y:=by
 obtain⟨z,F,h1,h2,h3⟩:=hs;have M:=z12 h.box;refine⟨z,F,h.far.trans h2 (λj hj hu=>(h.loc j hu).elim id (λh=>by omega)),(h2.rest _ M (λhu=>?_)).trans h.box,h1,λj hj=>(h3 j hj).elim (λhu=>h.loc j hu) (λh=>.inr (by omega)),h.old⟩;rcases h.loc _ hu with J|J;exact absurd (h.old _ J) (by omega);omega
theorem Zn.done (h:Zn p w m y M o V aF aH z x I u f):JA p f w x M m y:=
 ⟨I,u,h.ref,h.far,λj hj=>(h.loc j hj).elim .inl (λh=>.inr (by omega))⟩
def CQ (a:Mq.Sk) (s up:Nat):Nat->Nat
 |0=>0
 |i+1=>CQ a s up i+(if(a.ix s (up+2+i)).isSome then 2 ^ i else 0)
theorem XM (a:Mq.Sk) (s up:Nat):CQ a s up 3<=7:=by
 simp only[CQ];split <;> split <;> split <;> omega
theorem XN (a:Mq.Sk) (s up:Nat):∀j,CQ a s up j < 2 ^ j
 |0=>by simp[CQ]
 |j+1=>by have:=XN a s up j;rw[CQ,Nat.pow_succ];split <;> omega
def Jn (a:Mq.Sk) (s up:Nat):z10:=⟨#[UInt8.ofNat (CQ a s up 3)]⟩
theorem XO {a:Mq.Sk} {s up:Nat} (I:a.Qa<=2147483647) (hs:s < 3) (hu:up<=2147483647):Qb.proper 4 a.Qa s up (Jn a s up)=true:=by
 have J:=XM a s up;have z:Qb.isNum (a.Qa:Int)=true:=by simp[Qb.isNum];omega
 have F:Qb.isNum (up:Int)=true:=by simp[Qb.isNum];omega
 have G:Qb.isStr (s:Int)=true:=by simp[Qb.isStr];omega
 have H:Qb.Jn (Jn a s up)=true:=by
  have:(UInt8.ofNat (CQ a s up 3)).toNat=CQ a s up 3:=by simp[UInt8.toNat_ofNat'];omega
  simp[Qb.Jn,Jn,this,ByteArray.size];omega
 simp[Qb.proper,z,F,G,H]
theorem TG (a:Mq.Sk) (s:Nat):({a with Qc:=λt=>if t=s then a.Qc s else a.Qc t}:Mq.Sk)=a:=by
 have:(λt=>if t=s then a.Qc s else a.Qc t)=a.Qc:=by funext t;by_cases h:t=s <;> simp[h]
 rw[this]
def CS (a:Mq.Sk) (s q:Nat) (b:z10):Mq.Sk:=
 if(a.Qc s).length+2<=q/\q<=(a.Qc s).length+4/\a.ix s q=none then {a with held:=a.held++[(s,q,b)]}else a
theorem MJ (a:Mq.Sk) (s q:Nat) (b:z10):(CS a s q b).Qa=a.Qa:=by
 unfold CS;split <;> rfl
theorem VY (l:List (Nat×Nat×z10)) (s q:Nat) (b:z10):BV (l++[(s,q,b)])=BV l++[Ej s,Ej q,.string b]:=by simp[BV]
def grown (a:Mq.Sk) (s:Nat) (z:List z10):Mq.Sk:={a with Qc:=λt=>if t=s then a.Qc s++z else a.Qc t}
theorem IS (a:Mq.Sk) (s:Nat) (hs:s < 3) (z:List z10):(grown a s z).count=a.count+z.length:=by
 obtain rfl|rfl|rfl:s=0\/s=1\/s=2:=by omega
 all_goals
  simp[grown,Mq.Sk.count];omega
def EJ (a:Mq.Sk) (s:Nat) (z:List z10):Mq.Sk:=(grown a s z).forget s (a.Qc s++z).length
theorem kB (a:Mq.Sk) (s:Nat) (z:List z10):(EJ a s z).Qa=a.Qa:=rfl
theorem nO (l m:List z10):AF (l++m)=AF l++AF m:=by simp[AF]
theorem XQ (l:List z10):∀u∈AF l,u.oneCell'=true:=by
 intro u hu;simp[AF]at hu;obtain⟨_,_,rfl⟩:=hu;rfl
theorem Fz {B g n cap:Nat} {w:World} {xs:List Value} (h:w.ownsRow B 9 1 (Es g 0 n cap) n xs):∀j u,xs[j]? =some u->w.cell? ((⟨g,0,none⟩:Addr).add j)=some u:=by
 intro j u hj;have z:j < n * 1:=by have:=(z25.1 hj).1;rw[h.1]at this;exact this
 have:=z59 h j z;rw[hj]at this;simp only[Addr.add];split;rename_i h0;subst h0;exact this;simpa using this
theorem VC (R:Jg p w x M m y) (k e:Int) (s qn:Nat) (b:z10) (hs:s < 3) (bM:qn<=2147483647) (aS:x.held.length < 1000) (a3:Mq.Sk) (up:Nat)
  (aD:(x.Qg k e s qn b=[]/\a3=CS x s qn b/\up=(x.Qc s).length)\/∃F,x.Qg k e s qn b=F/\F≠ []/\a3=EJ x s F/\up=(x.Qc s++F).length):
  Cp 212 #[Er w 0,.agg #[Ej k,Ej e,Ej s,Ej qn,.string b]] p λG w'=>
   G=.returned (.string ⟨(Qb.bytes 4 x.Qa s up (Jn a3 s up).data.toList).toArray⟩)/\JA p w' w a3 M m y:=by
 have bN:=y' aS;have bO:Hid (a3.Qa=x.Qa):=by rcases aD with ⟨_,rfl,_⟩|⟨F,_,_,rfl,_⟩;exact MJ x s qn b;exact kB x s F
 clear aS;rcases aD with ⟨hn,h3,Y⟩|⟨F,ao,bB,h3,Y⟩
 case' inl=>
  have ba:=y' h3;have bb:=y' Y;clear h3 Y;have aE:=y' (DS R k e s qn b);have bc:=y' R.lt;have bP:(s:Int) < 3:=by omega
  have aF:=R.len s hs;obtain⟨i0,hi,_,_,_⟩:=AT CW;have aT:=y' hn;clear R hn;go_enter func212,ntmps212;go_upto_region 2 with fail;refine G' (λG=>Zj p G w x M m y k e s qn b) (d' aE) ?_;clear aE;intro G L;obtain⟨az,ah,aG,Z,aj⟩:=GL L.box;simp at az ah aG Z aj;have aA:=y' (nN L.ref k e s qn b hs (d' aT));have aH:=y' L;clear L;go_upto_region 3 with (go_at_call 193;refine Cm aA ?_;rintro aB w1 ⟨rfl,aq⟩;have aI:=(d' aH).below aq;have J:=y' aI;clear aq aI);clear az ah aG Z aj aH aA;have Q:=LV (d' J).ref s hs;obtain⟨aJ,aK,ai,_⟩:=((d' J).ref.Qc s hs).shape;have au:=(d' J).ref.logStep s hs (w1:=w1) (v':=m s) (x:=x.Qc s) (Far.refl _ _) (λg ao=>.inl ao) ((d' J).ref.Qc s hs) (by rw[TG];exact(d' J).ref.ll);rw[TG]at au;have bd:=y' ((WP (d' J) (d' bc)).step au.2);have f1:=H' (i:=2+s) (d' J).ref.blk;have aa:=y' ((d' J).ref.Qc s hs);rw[ai]at Q bd aa;have bQ:=y' Q;clear au ai J;go_region_held3 (λw'=>w'.cell? (Ea w (2+s))=some (.slice aJ (x.Qc s).length aK))
   (first|exact Au (d' bQ)|go_keep)
   ((refine VX rfl (.tmp 25) (.tmp 26) 33 rfl 9 i0 1 underlying33 hi (.slice aJ (x.Qc s).length aK) (x.Qc s).length (AF (x.Qc s)) (d' aa) rfl rfl ?_))
  go_upto_region 4 with fail
  refine G' (λG=>∃H I,Zn p w m y M k e s qn b x H I G) (by obtain⟨_,_,T⟩:=d' bd;exact⟨_,_,T.below (z11 _ _).drew⟩) ?_;clear bd aa Q f1;rintro bR ⟨bS,bT,T⟩;have Q:=LV T.ref s hs;obtain⟨aJ,aK,ai,_⟩:=(T.ref.Qc s hs).shape;rw[ai]at Q;have Y:=d' bb;rw[<-Y]at Q aF;have Z:=Bi 3 T.box;have aj:=Bi 4 T.box;simp at Z aj;have be:=y' Y;have z:=y' T;clear T ai Y;go_upto_region 8 with (first|(go_at_call 211;(first|(refine(KB (d' z).ref s qn).mono ?_)|(refine(KB ((d' z).drew _).ref s qn).mono ?_));rintro aB ac ⟨rfl,rfl⟩));have bf:Hid (CS x s qn b=if up+2<=qn/\qn<=up+4/\x.ix s qn=none then {x with held:=x.held++[(s,qn,b)]}else x):=by rw[d' be];rfl
  have aU:Hid (Mq.ixInt (x.ix s qn) < 0↔x.ix s qn=none):=by
   cases x.ix s qn with
   |none=>simp[Mq.ixInt,Hid]
   |some i=>simp[Mq.ixInt,Hid]
  obtain⟨bg,aL⟩:=exq (Mq.ixInt (x.ix s qn));rw[<-aL]at aU ⊢;clear aL;rcases(by omega:¬2<=(qn:Int) - up\/2<=(qn:Int) - up/\¬ (qn:Int) - up<=4\/2<=(qn:Int) - up/\(qn:Int) - up<=4/\¬bg < 0\/2<=(qn:Int) - up/\(qn:Int) - up<=4/\bg < 0)with h1|⟨h1,h2⟩|⟨h1,h2,h3⟩|⟨cp,cq,bU⟩
  case' inr.inr.inr=>
   have aV:=y' (show CS x s qn b={x with held:=x.held++[(s,qn,b)]} by rw[d' bf,if_pos ⟨by omega,by omega,(d' aU).1 bU⟩]);have aa:=y' (d' z).ref.held;obtain⟨bC,aD,aW,_⟩:=(d' z).ref.held.shape;have c5:=Bi 5 (d' z).ref.blk;have f5:=H' (i:=5) (d' z).ref.blk;simp[AK]at c5;have ad:=y' (d' z).ref.hb;obtain⟨aX,aM⟩:=exq (x.held.length);have aN:=y' aM;rw[aW,<-aM]at c5;rw[aW,<-aM]at aa;have aS:=d' bN;rw[<-aM]at aS;have bV:(ac.alloc (.cells #[Ej s,Ej qn,.string b] 281)).cell? (Ea w 5)=some (.slice bC aX aD):=Bc bna (z12 (d' z).ref.blk) c5;have bh:=y' aW;clear aW aM;go_upto_region 10 with fail;go_region_law (refine ES rfl (.tmp 73) (.tmp 80) 178 rfl 281 _ 3 32 underlying178 nL rfl (.slice bC aX aD) aX (BV x.held) ((d' aa).keep (λg ao=>z35 ac _ g ((d' aa).lt g ao))) rfl ⟨ac.heap.size,0,none⟩ 1 1 [Ej s,Ej qn,.string b] rfl rfl AW (by intro u hu;simp at hu;rcases hu with rfl|rfl|rfl <;> rfl) (by omega) (by omega) (by omega) ?_;intro v' w1 ab av;rw[<-VY]at ab;have au:=(d' z).ref.Zw (x:=x.held++[(s,qn,b)]) (by have:=IL (w:=ac) (by first|exact bna|exact bna.drew|exact bna.drew.drew|exact(z11 _ _).drew.alloc (z16 _) _) av;rw[d' aN,<-d' bh]at this;exact this) (by have:=MH (w:=ac) (by first|exact bna|exact bna.drew|exact bna.drew.drew|exact(z11 _ _).drew.alloc (z16 _) _) av;rw[d' aN,<-d' bh]at this;exact this) (by rw[d' aN]at ab;simpa using ab) (by have:=d' aN;simp;omega) (by intro h aC;simp at aC;rcases aC with aC|aC;exact(d' ad) h aC;subst aC;exact⟨hs,bM⟩);obtain⟨⟨C,ax,aO⟩,hst⟩:=au;have ah:=(Bi 5 ax).trans aO;have f1:=H' (i:=5) ax;obtain⟨bi,bj,bk,_⟩:=ab.shape;have aP:=y' hst;clear av hst ax aO ab;subst bk);all_goals
    have V:Hid (∃H I,Zn p w m y M k e s qn b (CS x s qn b) H I (w1.setCell ⟨w,5,none⟩ (.slice bi (aX+1) bj))):=(by rw[d' aV];exact(d' z).step (d' aP));clear aP aa ad bh aN z c5 bV f5 ah f1
  all_goals first
   |(have aV:=y' (show CS x s qn b=x by rw[d' bf,if_neg (λh=>by have:=(d' aU).2 h.2.2;omega)])
     have V:Hid (∃H I,Zn p w m y M k e s qn b (CS x s qn b) H I ac):=(by rw[d' aV];exact⟨_,_,d' z⟩);clear z)
   |skip
  all_goals rw[<-d' ba]at V
 case' inr=>
  have ba:=y' h3;have bb:=y' Y;clear h3 Y;have aE:=y' (DS R k e s qn b);have bc:=y' R.lt;have bP:(s:Int) < 3:=by omega
  have aF:=R.len s hs;have bD:x.count+F.length<=120:=by rw[<-ao];exact JL k e s qn b R.ll
  have bW:=y' (show(grown x s F).count<=120 by rw[IS x s hs];exact bD);have bl:0 < F.length:=List.length_pos_iff.2 bB;have bX:F.length<=120:=by omega
  clear R bB bD;go_enter func212,ntmps212;go_upto_region 2 with fail;refine G' (λG=>Zj p G w x M m y k e s qn b) (d' aE) ?_;clear aE;intro G L;obtain⟨az,ah,aG,Z,aj⟩:=GL L.box;simp at az ah aG Z aj;have aA:=y' (NO L.ref k e s qn b hs);rw[ao]at aA;clear ao;have aH:=y' L;clear L;go_upto_region 3 with (go_at_call 193;refine Cm aA ?_;rintro aB w1 ⟨v1,n1,rfl,aY,aq⟩;have bY:n1=F.length:=(by have:=aY.1;simp[AF]at this;omega);subst bY;obtain⟨g1,bZ,ca⟩:=PN aY bl;subst ca;have aI:=(d' aH).below aq;have J:=y' aI;have bm:=y' aY;clear aq aI aY);clear az ah aG Z aj aH aA;have Q:=LV (d' J).ref s hs;obtain⟨aJ,aK,ai,_⟩:=((d' J).ref.Qc s hs).shape;have aa:=y' ((d' J).ref.Qc s hs);have bn:=y' ai;rw[ai]at Q aa;obtain⟨n0,bo⟩:=exq ((x.Qc s).length);have bp:=y' bo;rw[<-bo]at Q aa aF;obtain⟨n,hn⟩:=exq (F.length);have aT:=y' hn;rw[<-hn]at bm bl bX ⊢;clear ai bo hn;go_upto_region 3 with fail;go_region_law (refine ES rfl (.tmp 25) (.tmp 26) 33 rfl 9 _ 1 16 underlying33 CW rfl (.slice aJ n0 aK) n0 (AF (x.Qc s)) (d' aa) rfl ⟨g1,0,none⟩ n bZ (AF F) rfl (by rw[d' aT];simp[AF]) (Fz (d' bm)) (XQ F) bl (by omega) (by omega) ?_;intro v' cb ab av;rw[<-nO]at ab;have au:=(d' J).ref.logStep s hs (x:=x.Qc s++F) (by have:=IL (w:=w1) (by first|exact z11 _ _|exact(z11 _ _).drew) av;rw[d' bp,<-d' bn]at this;exact this) (by have:=MH (w:=w1) (by first|exact z11 _ _|exact(z11 _ _).drew) av;rw[d' bp,<-d' bn]at this;exact this) (by rw[d' bp,d' aT,<-z29]at ab;exact ab) (d' bW);obtain⟨⟨C,ax,aO⟩,hst⟩:=au;have ah:=(D' (i:=2+s) ax).trans aO;have f1:=H' (i:=2+s) ax;obtain⟨bi,bj,bk,_⟩:=ab.shape;have aP:=y' hst;clear av hst ax aO ab;subst bk);all_goals
   have V:Hid (∃H I,Zn p w m y M k e s qn b (grown x s F) H I (cb.setCell ⟨w,2+s,none⟩ (.slice bi (n0+n) bj))):=(WP (d' J) (d' bc)).step (d' aP);clear aP aa bn bm J Q ah f1;go_upto_region 4 with fail;refine G' (λG=>∃H I,Zn p w m y M k e s qn b (grown x s F) H I G) (by first|exact d' V|(obtain⟨_,_,T⟩:=d' V;exact⟨_,_,T.drew _⟩)|(obtain⟨_,_,T⟩:=d' V;exact⟨_,_,T.below (z11 _ _).drew⟩)) ?_;clear V;rintro bR ⟨bS,bT,T⟩;have Q:=LV T.ref s hs;obtain⟨cr,cs,bE,_⟩:=(T.ref.Qc s hs).shape;rw[bE]at Q;have bF:((grown x s F).Qc s).length=(x.Qc s++F).length:=(by simp[grown]);have bq:=T.ref.len s hs;rw[bF]at Q bq;have Y:=d' bb;rw[<-Y]at Q bq;have be:=y' Y;have Z:=Bi 3 T.box;simp at Z;have z:=y' T;have bG:=y' (RA T.ref s up);clear T bE bF Y aF;have aF:up<=120:=bq;go_upto_region 7 with (go_at_call 215;(first|(refine Cm bG ?_)|(refine(RA ((d' z).drew _).ref s up).mono ?_));rintro aB cc ⟨rfl,hst⟩;have bH:=y' hst;clear hst);have V:Hid (∃H I,Zn p w m y M k e s qn b (EJ x s F) H I cc):=(by have:=(d' z).step (d' bH);rw[d' be]at this;exact this);clear bH z bG Z Q;go_upto_region 7 with fail;refine G' (λG=>∃H I,Zn p w m y M k e s qn b (EJ x s F) H I G) (by first|exact d' V|(obtain⟨_,_,T⟩:=d' V;exact⟨_,_,T.drew _⟩)) ?_;clear V;rintro cd ⟨bI,bJ,ak⟩;rw[<-d' ba]at ak;have Z:=Bi 3 ak.box;simp at Z;have bK:=y' (KB ak.ref s qn);have aQ:=y' ak;clear ak;have cu:((n:Int) ==0)=false:=(by simp;omega);have cv:¬ (n:Int)=0:=(by omega);go_upto_region 8 with (go_at_call 211;refine Cm bK ?_;rintro aB ac ⟨rfl,rfl⟩);obtain⟨bg,aL⟩:=exq (Mq.ixInt (a3.ix s qn));rw[<-aL];clear aL bK;have V:Hid (∃H I,Zn p w m y M k e s qn b a3 H I ac):=⟨_,_,d' aQ⟩;clear aQ
 all_goals
  go_upto_region 11 with fail
  refine G' (λG=>∃H I,Zn p w m y M k e s qn b a3 H I G) (by first|exact d' V|(obtain⟨_,_,T⟩:=d' V;exact⟨_,_,T.drew _⟩)) ?_;clear V;try clear aV bf aU Q aj
  try clear Z
  rintro cd ⟨bI,bJ,ak⟩;have aQ:=y' ak;clear ak;go_wp2;go_loopw[10,11] (λv i wr=>∃j:Nat,j<=3/\i=.int .i64 j/\v=.int .i64 (CQ a3 s up j:Nat)/\Zn p w m y M k e s qn b a3 bI bJ wr) (λ_ i _=>3 - (intOf i).toNat)
  case atStart=>exact⟨0,by omega,rfl,rfl,d' aQ⟩
  case round=>
   obtain⟨j,hj,rfl,rfl,T⟩:=hrel;clear aQ;by_cases cw:j < 3
   .have ay:=KB T.ref s (up+2+j);rw[show((up+2+j:Nat):Int)=(up:Int)+2+j by omega]at ay;have z:=y' T;clear T;have ad:=y' (show CQ a3 s up (j+1)=CQ a3 s up j+(if(a3.ix s (up+2+j)).isSome then 2 ^ j else 0) from rfl);have ce:CQ a3 s up j < 8:=(by have:=XN a3 s up j;obtain rfl|rfl|rfl:j=0\/j=1\/j=2:=(by omega);all_goals omega);cases aZ:a3.ix s (up+2+j)with
    |none=>
     rw[aZ]at ay ad;have br:=y' ay;clear ay aZ;go_wp2_with (go_at_call 211;refine Cm br ?_;rintro aB ac ⟨rfl,rfl⟩;simp only[Mq.ixInt]);go_roundw
     case rel=>exact⟨j+1,by omega,by go_num,by rw[d' ad];rfl,d' z⟩
     case measure=>simp[intOf];omega
    |some i=>
     rw[aZ]at ay ad;have br:=y' ay;clear ay aZ;obtain⟨t,aR⟩:=exq (CQ a3 s up j);rw[<-aR]at ce ad ⊢;clear aR;obtain rfl|rfl|rfl:j=0\/j=1\/j=2:=(by omega);all_goals
      go_wp2_with (go_at_call 211;refine Cm br ?_;rintro aB ac ⟨rfl,rfl⟩;simp only[Mq.ixInt])
      go_roundw
      case rel=>first|exact⟨0+1,by omega,rfl,by rw[d' ad];rfl,d' z⟩|exact⟨1+1,by omega,rfl,by rw[d' ad];rfl,d' z⟩|exact⟨2+1,by omega,rfl,by rw[d' ad];rfl,d' z⟩
      case measure=>simp[intOf]
   have cf:j=3:=(by omega);subst cf;have c0:=Bi 0 T.ref.blk;simp[AK]at c0;have cg:=XM a3 s up;have ch:IntKind.u8.wrap ((CQ a3 s up 3:Nat):Int)=CQ a3 s up 3:=(by rw[IntKind.wrap_u8];omega);have ci:=y' (XO (a:=a3) (s:=s) (up:=up) T.ref.ep hs (by omega));have cj:=z12 T.ref.blk;have z:=y' T;clear T;have bt:=y' (show s1 ((CQ a3 s up 3:Nat):Int)=Jn a3 s up by simp[s1,Jn,Nat.mod_eq_of_lt (show CQ a3 s up 3 < 256 by omega)]);have bu:=λG=>y' (DH 4 a3.Qa s up (Jn a3 s up) G (d' ci));obtain⟨bL,bw⟩:=exq (⟨(Qb.bytes 4 a3.Qa s up (Jn a3 s up).data.toList).toArray⟩:z10);rw[<-bw]at bu;have ck:=y' bw;obtain⟨B,bz⟩:=exq (Jn a3 s up);rw[<-bz]at bu bt;have cx:=y' bz;obtain⟨t,aR⟩:=exq (CQ a3 s up 3);rw[<-aR]at bt ch cg ⊢;clear bw bz aR;have co:=λv p=>NH (n:=(t:Int)) (by omega) (by omega) (v:=v) (w:=p);rw[d' bt]at co;go_upto_region 18 with fail;refine AI
    [Ep w 0,Ep w 0,Ep w 0,Ei a3.Qa,Ei s,Ei up,Ei t,Ev (.int .u8 t),sG t,Ev (.string B),
     Ev (.agg #[Ej 4,Ej a3.Qa,Ej s,Ej up,.string B]),Ev (.string bL),Ev (.string bL)]
    [[0],[1101],[2102],[3103],[5],[7],[10],[7107],[8108],[9109],[4104,5105,6106,10110],[11111],[12112]]
    [102,103,104,105,106,107,108,109,110,111,112,113,5]
    [4,1,96,12,999] ?_ ?_ (hst:=by repeat' (first|exact Y' _|exact ak' _|exact trivial|apply z13))
   .refine⟨?_,?_,?_,?_,?_,?_,?_,?_,?_,?_,?_,?_,?_,trivial⟩;all_goals
     intro x G hb cl;have az:=Bc hb cj c0;clear hb;simp[J']at cl;try go_simp
     try exact z11 _ _
    all_goals first
     |exact⟨rfl,z11 _ _⟩
     |exact⟨_,rfl,bna,_,rfl,by simp⟩
     |(refine Cm (bu _) ?_;rintro M w1 ⟨rfl,aq⟩;exact⟨rfl,aq⟩)
   intro f cy hb bA;simp only[AJ]at bA;have cm:=bA.2.2.2.2.2.2.2.2.2.2.2.2.1;have cn:=y' ((d' z).below hb);clear bA hb z c0;simp only[V',cm];go_wp2;go_ret;refine⟨?_,(d' cn).done⟩;rw[d' ck,d' bO];rfl
def BC (a:Mq.Sk) (k e:Int) (s qn:Nat) (b:z10):Mq.Sk:=if a.Qg k e s qn b=[]then CS a s qn b else EJ a s (a.Qg k e s qn b)
theorem nP (a:Mq.Sk) (s q:Nat) (b:z10):(CS a s q b).Qc=a.Qc:=by
 unfold CS;split <;> rfl
theorem VD (a:Mq.Sk) (s:Nat) (z:List z10):(EJ a s z).Qc s=a.Qc s++z:=by simp[EJ,grown,Mq.Sk.forget]
def VE (a:Mq.Sk) (k e:Int) (s qn:Nat) (b:z10):z10:=
 ⟨(Qb.bytes 4 a.Qa s ((BC a k e s qn b).Qc s).length (Jn (BC a k e s qn b) s ((BC a k e s qn b).Qc s).length).data.toList).toArray⟩
theorem sM (R:Jg p w x M m y) (k e:Int) (s qn:Nat) (b:z10) (hs:s < 3) (F:qn<=2147483647) (G:x.held.length < 1000):
  Cp 212 #[Er w 0,.agg #[Ej k,Ej e,Ej s,Ej qn,.string b]] p λH w'=>
   H=.returned (.string (VE x k e s qn b))/\JA p w' w (BC x k e s qn b) M m y:=by
 by_cases hn:x.Qg k e s qn b=[];have z:BC x k e s qn b=CS x s qn b:=by rw[BC,if_pos hn]
 rw[VE,z,nP];exact VC R k e s qn b hs F G _ _ (.inl ⟨hn,rfl,rfl⟩);have z:BC x k e s qn b=EJ x s (x.Qg k e s qn b):=by rw[BC,if_neg hn]
 rw[VE,z,VD];exact VC R k e s qn b hs F G _ _ (.inr ⟨_,rfl,hn,rfl,rfl⟩)
theorem VZ (R:Jg p w x M m y) (k e st q:Int) (b:z10) (F:¬k=1) (G:¬k=3):
  Cp 194 #[Er w 0,.agg #[Ej k,Ej e,Ej st,Ej q,.string b]] p λz w'=>Rr z En/\El p w':=by
 have k1:(k==1)=false:=by simpa using F
 have k3:(k==3)=false:=by simpa using G
 have H:=y' (DS R k e st q b);clear R F G;go_enter func194,ntmps194;go_upto_region 1 with fail;refine G' (λz=>Zj p z w x M m y k e st q b) (d' H) ?_;clear H;intro z L;have I:=Bi 0 L.box;simp at I;have J:=y' L;clear L;go_wp2;go_ret;exact⟨rfl,(d' J).bel⟩
theorem XR (R:Jg p w x M m y) (k e:Int) (s qn:Nat) (b:z10) (J:k=3) (Z:e=x.Qa) (hs:s < 3) (au:qn<=2147483647) (av:x.held.length < 1000):
  Cp 194 #[Er w 0,.agg #[Ej k,Ej e,Ej s,Ej qn,.string b]] p λz w'=>
   ∃v,z=.returned v/\w'.ownsRow p.heap.size 9 1 v 1 (AF [VE x k e s qn b])/\JA p w' w (BC x k e s qn b) M m y:=by
 have k1:(k==1)=false:=by subst J;rfl
 have k3:(k==3)=true:=by subst J;rfl
 have aI:(e != (x.Qa:Int))=false:=by simpa using Z
 have aa:=y' (DS R k e s qn b);have ax:=y' R.lt;obtain⟨i0,hi,ay,az,aA⟩:=AT CW;clear R J Z;generalize ab:(x.Qa:Int)=ep at *;go_enter func194,ntmps194;go_upto_region 1 with fail;refine G' (λz=>Zj p z w x M m y k e s qn b) (d' aa) ?_;clear aa;intro z L;obtain⟨G,H⟩:=GK L.box;have c0:=Bi 0 L.ref.blk;simp[AK]at G H c0;rw[ab]at c0;have F:=y' L;clear L ab;go_upto_region 14 with fail;go_quiet (fail);go_upto_region 20 with fail;refine G' (λz=>Zj p z w x M m y k e s qn b) (by first|exact(d' F).drew _|exact((d' F).drew _).drew _|exact d' F) ?_;clear F G H c0;intro aJ L;obtain⟨G,H,ac,ad,ah⟩:=GL L.box;simp at G H ac ad ah;have Q:=y' (sM L.ref k e s qn b hs au av);have F:=y' L;clear L;obtain⟨ai,V⟩:=exq (VE x k e s qn b);rw[<-V]at Q;have aB:=y' V;clear V;go_upto_region 21 with (go_at_call 212;refine Cm Q ?_;rintro aK aL ⟨rfl,hst⟩;have aj:=y' ((WP (d' F) (d' ax)).step hst);clear hst);refine G' (λz=>∃aC aD,Zn p w m y M k e s qn b (BC x k e s qn b) aC aD z) (d' aj) ?_;clear aj F Q G H ac ad ah;rintro I ⟨aM,aN,Y⟩;have aE:=y' Y;have aO:=Y.far.size;clear Y;go_wp2_with (at_builtin;refine z67 _ rfl (.tmp 113) (.tmp 115) 33 rfl p.heap.size 9 i0 (.string ⟨#[]⟩) 1 16 underlying33 hi ay az aA rfl (by decide) En 0 [] rfl (z20 _ _ _ _) ⟨I.heap.size,0,none⟩ 1 1 (AF [ai]) rfl rfl AW (by intro u hu;simp[AF]at hu;subst hu;rfl) (by unfold maxLen;omega) (by omega) (by simp;omega) ?_;intro v' aP ak ao _;have aq:=(((z11 I.heap.size I).alloc (z16 _) (.cells (AF [ai]).toArray 9)).trans (AB (B:=I.heap.size) ao (by simp) (λg aF=>by cases aF)));have aG:=y' ak;have aH:=y' aq;clear ak ao aq);go_ret;rw[<-d' aB];exact⟨_,rfl,by simpa using d' aG,((d' aE).below (d' aH)).done⟩
def GA (n:Nat):z10:=⟨(Qb.bytes 5 n 0 0 []).toArray⟩
theorem TH (n:Nat) (hn:n<=2147483647) (w:World):
  Cp 61 #[.agg #[Ej 5,Ej n,Ej 0,Ej 0,.string ⟨#[]⟩]] w λr w'=>Rr r (.string (GA n))/\El w w':=
 DH 5 n 0 0 ⟨#[]⟩ w (by simp[Qb.proper,Qb.isNum,ByteArray.size];omega)
theorem eX (R:Jg p w x M m y) (k:Int) (e:Nat) (st q:Int) (b:z10) (H:k=3) (ak:e < x.Qa):
  Cp 194 #[Er w 0,.agg #[Ej k,Ej e,Ej st,Ej q,.string b]] p λz w'=>
   ∃v,z=.returned v/\w'.ownsRow p.heap.size 9 1 v 1 (AF [GA x.Qa])/\El p w':=by
 have k1:(k==1)=false:=by subst H;rfl
 have k3:(k==3)=true:=by subst H;rfl
 have ao:((e:Int) != (x.Qa:Int))=true:=by simp;omega
 have aq:=R.ep;have Y:=y' (DS R k e st q b);obtain⟨i0,hi,au,av,ax⟩:=AT CW;clear R H;obtain⟨ep,I⟩:=exq (x.Qa);have J:=y' I;rw[<-I]at ak aq ⊢;clear I;go_enter func194,ntmps194;go_upto_region 1 with fail;refine G' (λz=>Zj p z w x M m y k e st q b) (d' Y) ?_;clear Y;intro z L;obtain⟨Z,aa⟩:=GK L.box;have c0:=Bi 0 L.ref.blk;simp[AK]at Z aa c0;rw[<-d' J]at c0;have F:=y' L;clear L;rw[<-d' J]at ao;have aE:(e:Int) < ep:=by omega
 go_upto_region 14 with fail
 go_quiet (fail)
 go_upto_region 18 with fail
 refine G' (λz=>Zj p z w x M m y k e st q b) (by first|exact(d' F).drew _|exact((d' F).drew _).drew _|exact d' F) ?_;clear F Z aa c0;intro aF L;have c0:=Bi 0 L.ref.blk;simp[AK]at c0;rw[<-d' J]at c0;have F:=y' L;clear L;go_upto_region 19 with (go_at_call 61;refine(TH ep (by omega) _).mono ?_;rintro aG aH ⟨rfl,ab⟩;have ac:=y' ((d' F).below ab);clear ab);refine G' (λz=>Zj p z w x M m y k e st q b) (d' ac) ?_;clear ac F c0;intro G Q;have ay:=y' Q;have az:=Q.bel.size;clear Q;obtain⟨ad,V⟩:=exq (GA ep);rw[<-V];have aA:=y' V;clear V;go_wp2_with (at_builtin;refine z67 _ rfl (.tmp 106) (.tmp 108) 33 rfl p.heap.size 9 i0 (.string ⟨#[]⟩) 1 16 underlying33 hi au av ax rfl (by decide) En 0 [] rfl (z20 _ _ _ _) ⟨G.heap.size,0,none⟩ 1 1 (AF [ad]) rfl rfl AW (by intro u hu;simp[AF]at hu;subst hu;rfl) (by unfold maxLen;omega) (by omega) (by simp;omega) ?_;intro v' aI ah ai _;have aj:=(((z11 G.heap.size G).alloc (z16 _) (.cells (AF [ad]).toArray 9)).trans (AB (B:=G.heap.size) ai (by simp) (λg aB=>by cases aB)));have aC:=y' ah;have aD:=y' aj;clear ah ai aj);go_ret;rw[<-d' aA];exact⟨_,rfl,by simpa using d' aC,(d' ay).bel.trans ((d' aD).mono az)⟩
theorem eY (R:Jg p w x M m y) (k:Int) (e:Nat) (st q:Int) (b:z10) (H:k=3) (ak:x.Qa < e) (aE:e<=2147483647):
  Cp 194 #[Er w 0,.agg #[Ej k,Ej e,Ej st,Ej q,.string b]] p λz w'=>
   ∃v,z=.returned v/\w'.ownsRow p.heap.size 9 1 v 1 (AF [GA e])/\El p w':=by
 have k1:(k==1)=false:=by subst H;rfl
 have k3:(k==3)=true:=by subst H;rfl
 have ao:((e:Int) != (x.Qa:Int))=true:=by simp;omega
 have aq:=R.ep;have Y:=y' (DS R k e st q b);obtain⟨i0,hi,au,av,ax⟩:=AT CW;clear R H;obtain⟨ep,I⟩:=exq (x.Qa);have J:=y' I;rw[<-I]at ak aq;clear I;go_enter func194,ntmps194;go_upto_region 1 with fail;refine G' (λz=>Zj p z w x M m y k e st q b) (d' Y) ?_;clear Y;intro z L;obtain⟨Z,aa⟩:=GK L.box;have c0:=Bi 0 L.ref.blk;simp[AK]at Z aa c0;rw[<-d' J]at c0;have F:=y' L;clear L;rw[<-d' J]at ao;have aF:¬ (e:Int) < ep:=by omega
 go_upto_region 14 with fail
 go_quiet (fail)
 go_upto_region 18 with fail
 refine G' (λz=>Zj p z w x M m y k e st q b) (by first|exact(d' F).drew _|exact((d' F).drew _).drew _|exact d' F) ?_;clear F Z aa c0;intro aG L;have c0:=Bi 0 L.ref.blk;simp[AK]at c0;rw[<-d' J]at c0;have F:=y' L;clear L;go_upto_region 19 with (go_at_call 61;refine(TH e (by omega) _).mono ?_;rintro aH aI ⟨rfl,ab⟩;have ac:=y' ((d' F).below ab);clear ab);refine G' (λz=>Zj p z w x M m y k e st q b) (d' ac) ?_;clear ac F c0;intro G Q;have ay:=y' Q;have az:=Q.bel.size;clear Q;obtain⟨ad,V⟩:=exq (GA e);rw[<-V];have aA:=y' V;clear V;go_wp2_with (at_builtin;refine z67 _ rfl (.tmp 106) (.tmp 108) 33 rfl p.heap.size 9 i0 (.string ⟨#[]⟩) 1 16 underlying33 hi au av ax rfl (by decide) En 0 [] rfl (z20 _ _ _ _) ⟨G.heap.size,0,none⟩ 1 1 (AF [ad]) rfl rfl AW (by intro u hu;simp[AF]at hu;subst hu;rfl) (by unfold maxLen;omega) (by omega) (by simp;omega) ?_;intro v' aJ ah ai _;have aj:=(((z11 G.heap.size G).alloc (z16 _) (.cells (AF [ad]).toArray 9)).trans (AB (B:=G.heap.size) ai (by simp) (λg aB=>by cases aB)));have aC:=y' ah;have aD:=y' aj;clear ah ai aj);go_ret;rw[<-d' aA];exact⟨_,rfl,by simpa using d' aC,(d' ay).bel.trans ((d' aD).mono az)⟩
theorem OV (R:Jg p w x M m y) (k:Int) (e:Nat) (st q:Int) (b:z10) (Q:k=1) (ak:e < x.Qa):
  Cp 194 #[Er w 0,.agg #[Ej k,Ej e,Ej st,Ej q,.string b]] p λz w'=>
   ∃v,z=.returned v/\w'.ownsRow p.heap.size 9 1 v 1 (AF [GA x.Qa])/\El p w':=by
 have k1:(k==1)=true:=by subst Q;rfl
 have ao:=R.ep;have V:=y' (DS R k e st q b);obtain⟨i0,hi,aq,au,av⟩:=AT CW;clear R Q;obtain⟨ep,H⟩:=exq (x.Qa);have Y:=y' H;rw[<-H]at ak ao ⊢;clear H;go_enter func194,ntmps194;go_upto_region 1 with fail;refine G' (λz=>Zj p z w x M m y k e st q b) (d' V) ?_;clear V;intro z L;obtain⟨Z,aa⟩:=GK L.box;have c0:=Bi 0 L.ref.blk;simp[AK]at Z aa c0;rw[<-d' Y]at c0;have F:=y' L;clear L;have aD:(e:Int) < ep:=by omega
 go_upto_region 4 with fail
 go_quiet (fail)
 go_upto_region 5 with fail
 refine G' (λz=>Zj p z w x M m y k e st q b) (by first|exact(d' F).drew _|exact((d' F).drew _).drew _|exact d' F) ?_;clear F Z aa c0;intro aE L;have c0:=Bi 0 L.ref.blk;simp[AK]at c0;rw[<-d' Y]at c0;have F:=y' L;clear L;go_upto_region 6 with (go_at_call 61;refine(TH ep (by omega) _).mono ?_;rintro aF aG ⟨rfl,ab⟩;have ac:=y' ((d' F).below ab);clear ab);refine G' (λz=>Zj p z w x M m y k e st q b) (d' ac) ?_;clear ac F c0;intro G I;have ax:=y' I;have ay:=I.bel.size;clear I;obtain⟨ad,J⟩:=exq (GA ep);rw[<-J];have az:=y' J;clear J;go_wp2_with (at_builtin;refine z67 _ rfl (.tmp 29) (.tmp 31) 33 rfl p.heap.size 9 i0 (.string ⟨#[]⟩) 1 16 underlying33 hi aq au av rfl (by decide) En 0 [] rfl (z20 _ _ _ _) ⟨G.heap.size,0,none⟩ 1 1 (AF [ad]) rfl rfl AW (by intro u hu;simp[AF]at hu;subst hu;rfl) (by unfold maxLen;omega) (by omega) (by simp;omega) ?_;intro v' aH ah ai _;have aj:=(((z11 G.heap.size G).alloc (z16 _) (.cells (AF [ad]).toArray 9)).trans (AB (B:=G.heap.size) ai (by simp) (λg aA=>by cases aA)));have aB:=y' ah;have aC:=y' aj;clear ah ai aj);go_ret;rw[<-d' az];exact⟨_,rfl,by simpa using d' aB,(d' ax).bel.trans ((d' aC).mono ay)⟩
def Aw (a:Mq.Sk):z10:=CH (a.Qc 0).length++CH (a.Qc 1).length++CH (a.Qc 2).length
def nQ (a:Mq.Sk) (e:Nat):z10:=⟨(Qb.bytes 2 e 0 0 (Aw a).data.toList).toArray⟩
def EX (a:Mq.Sk) (e:Nat):List (Nat×Nat×z10):=if a.Qa < e then []else a.held
def CE (a:Mq.Sk) (e:Nat):Mq.Sk:={a with Qa:=e,held:=EX a e}
theorem Jg.epStep (R:Jg p w x M m y) (e:Nat) (G:e<=2147483647):
  JA p (p.setCell ⟨w,0,none⟩ (Ej e)) w {x with Qa:=e} M m y:=by
 have H:∀t,t < 3->(m t).ownBlock≠some w:=λt I=>(R.Qc t I).ne R.blk (by decide);have J:y.ownBlock≠some w:=R.held.ne R.blk (by decide);have z:=T' p w 0 (Ej e);refine⟨m,y,⟨?_,λs hs=>(R.Qc s hs).far z (λg F h=>H s hs (by rw[F,h])),R.held.far z (λg F h=>J (by rw[F,h])),R.apl,G,R.ll,R.hl,R.hb⟩,z.mono (λk _ h=>.inl h),λk Q=>.inl Q⟩;have:=AA (j:=0) (v:=Ej e) R.blk;simpa[AK]using this
theorem nR (a b c:Int):(CH a++CH b++CH c).data.toList=le4 a++le4 b++le4 c:=by
 simp[ByteArray.data_append,wY]
theorem XT {n0 n1 n2:Nat} (z:w<=2147483647) (h0:n0<=120) (h1:n1<=120) (h2:n2<=120):Qb.proper 2 w 0 0 (CH n0++CH n1++CH n2)=true:=by
 have hs:(CH n0++CH n1++CH n2).size=12:=by simp[ByteArray.size_append,OM]
 have a0:n0 % 256=n0:=by omega
 have a1:n1 % 256=n1:=by omega
 have a2:n2 % 256=n2:=by omega
 simp only[Qb.proper,Xi,nR,hs];simp[Qb.isNum,Qh,Vv,le4];omega
theorem WB (R:Jg p w x M m y) (k:Int) (e:Nat) (st q:Int) (b:z10) (ah:k=1) (aG:x.Qa<=e) (ai:e<=2147483647):
  Cp 194 #[Er w 0,.agg #[Ej k,Ej e,Ej st,Ej q,.string b]] p λF w'=>
   ∃v,F=.returned v/\w'.ownsRow p.heap.size 9 1 v 1 (AF [nQ x e])/\JA p w' w (CE x e) M m y:=by
 have k1:(k==1)=true:=by subst ah;rfl
 have Y:=λs hs=>R.len s hs;have aj:=y' (WP (DS R k e st q b) R.lt);obtain⟨i0,hi,aH,aI,aJ⟩:=AT CW;have aX:=(R.lt w (.inl rfl));clear R ah;obtain⟨ep,Z⟩:=exq (x.Qa);have V:=y' Z;rw[<-Z]at aG;clear Z;go_enter func194,ntmps194;go_upto_region 1 with fail;refine G' (λF=>Zn p w m y M k e st q b x m y F) (d' aj) ?_;clear aj;intro F L;obtain⟨ak,G⟩:=GK L.box;have c0:=Bi 0 L.ref.blk;simp[AK]at ak G c0;rw[<-d' V]at c0;have z:=y' L;clear L;have aY:¬ (e:Int) < ep:=by omega
 go_upto_region 4 with fail
 go_quiet (fail)
 go_upto_region 7 with fail
 refine G' (λF=>Zn p w m y M k e st q b x m y F) (by first|exact(d' z).drew _|exact((d' z).drew _).drew _|exact d' z) ?_;clear z ak G c0;intro aZ L;have G:=Bi 1 L.box;have c0:=Bi 0 L.ref.blk;simp[AK]at G c0;rw[<-d' V]at c0;have z:=y' L;clear L;by_cases ba:(ep:Int) < e;focus
  go_quiet (fail)
  go_upto_region 8 with fail
  refine G' (λF=>Zn p w m y M k e st q b x m y F) (by first|exact(d' z).drew _|exact((d' z).drew _).drew _|exact d' z) ?_;clear z G c0;intro aK L;have c5:=Bi 5 L.ref.blk;have f5:=H' (i:=5) L.ref.blk;simp[AK]at c5;have z:=y' L;clear L;go_upto_region 9 with fail;refine G' (λF=>∃H I,Zn p w m y M k e st q b {x with held:=EX x e} H I F) ?_ ?_;rw[EX,if_pos (by rw[<-d' V];omega)];exact(d' z).step ((d' z).ref.Zw (Far.refl _ aK) (v':=En) (x:=[]) (λg aa=>by cases aa) (BW _ _ _) (by simp) (by simp)).2;clear z c5 f5
 rotate_left
 focus
  go_quiet (fail)
  go_upto_region 9 with fail
  refine G' (λF=>∃H I,Zn p w m y M k e st q b {x with held:=EX x e} H I F) ?_ ?_;rw[EX,if_neg (by rw[<-d' V];omega)];exact⟨m,y,by first|exact(d' z).drew _|exact((d' z).drew _).drew _|exact d' z⟩;clear z G c0
 all_goals
  rintro bb ⟨H,I,L⟩;have G:=Bi 1 L.box;have c0:=Bi 0 L.ref.blk;have f0:=H' (i:=0) L.ref.blk;simp[AK]at G c0;have z:=y' L;clear L;go_upto_region 10 with fail;refine G' (λF=>∃H I,Zn p w m y M k e st q b (CE x e) H I F) ((d' z).step ((d' z).ref.epStep e ai)) ?_;clear z G c0 f0;rintro bc ⟨H,I,L⟩;obtain⟨aL,aM,ao,_⟩:=(L.ref.Qc 0 (by omega)).shape;obtain⟨aN,aO,aq,_⟩:=(L.ref.Qc 1 (by omega)).shape;obtain⟨aP,aQ,au,_⟩:=(L.ref.Qc 2 (by omega)).shape;have c2:=Bi 2 L.ref.blk;have c3:=Bi 3 L.ref.blk;have c4:=Bi 4 L.ref.blk;have ab:=z12 L.ref.blk;have g0:=Y 0 (by omega);have g1:=Y 1 (by omega);have g2:=Y 2 (by omega);simp[AK]at c2 c3 c4;rw[ao]at c2;rw[aq]at c3;rw[au]at c4;have av:Hid (nQ x e=⟨(Qb.bytes 2 e 0 0 (CH (x.Qc 0).length++CH (x.Qc 1).length++CH (x.Qc 2).length).data.toList).toArray⟩):=rfl;have z:=y' L;clear L ao aq au;have aR:(CE x e).Qc=x.Qc:=rfl;simp only[aR]at c2 c3 c4;generalize (x.Qc 0).length=n0,(x.Qc 1).length=n1,(x.Qc 2).length=n2 at *;refine AI
   [Ep w 0,Ep w 0,Ep w 2,Ep w 2,Ev (.slice aL n0 aM),Ei n0,Ev (.string (CH n0)),Ep w 0,Ep w 0,Ep w 2,Ep w 3,Ev (.slice aN n1 aO),Ei n1,Ev (.string (CH n1)),Ev (.string (CH n0++CH n1)),Ep w 0,Ep w 0,Ep w 2,Ep w 4,Ev (.slice aP n2 aQ),Ei n2,Ev (.string (CH n2)),Ev (.string (CH n0++CH n1++CH n2)),Ev (.string (CH n0++CH n1++CH n2))]
   [[0],[1048],[2049],[3050],[4051],[5052],[6053],[0],[8055],[9056],[10057],[11058],[12059],[13060],[7054,14061],[0],[16063],[17064],[18065],[19066],[20067],[21068],[15062,22069],[23070]]
   [49,50,51,52,53,54,55,56,57,58,59,60,61,62,63,64,65,66,67,68,69,70,71,8]
   [7,1,40,23,999] ?_ ?_
  .refine⟨?_,?_,?_,?_,?_,?_,?_,?_,?_,?_,?_,?_,?_,?_,?_,?_,?_,?_,?_,?_,?_,?_,?_,?_,trivial⟩;all_goals
    intro a' F hb ax;have d2:=Bc hb ab c2;have d3:=Bc hb ab c3;have d4:=Bc hb ab c4;clear hb c2 c3 c4;simp only[J',List.getD_cons_zero,List.getD_cons_succ,Array.getD_eq_getD_getElem?]at ax;simp at ax;try go_simp
    try exact z11 _ _
   all_goals first
    |(refine(XF _ _ ?_).mono ?_;(focus omega);rintro r' bd ⟨rfl,aS⟩;exact⟨rfl,aS⟩)
    |(rw[if_neg (by simp only[OM];omega)];go_simp;exact z11 _ _)
    |(rw[if_neg (by simp only[ByteArray.size_append,OM];omega)];go_simp;exact z11 _ _)
  .intro f be hb ac;simp only[AJ]at ac;have ay:=ac.2.2.2.2.2.2.2.2.2.2.2.2.2.2.2.2.2.2.2.2.2.2.2.1;have az:=y' ((d' z).below hb);clear ac hb z c2 c3 c4;simp only[V',ay];clear ay;have aT:=y' (XT (n0:=n0) (n1:=n1) (n2:=n2) ai g0 g1 g2);generalize CH n0++CH n1++CH n2=S at *;go_upto_region 11 with fail;refine G' (λF=>Zn p w m y M k e st q b (CE x e) H I F) (d' az) ?_;clear az;intro Q J;have c0:=Bi 0 J.ref.blk;simp[AK,CE]at c0;have z:=y' J;clear J;go_upto_region 12 with (go_at_call 61;refine(DH 2 e 0 0 S _ (d' aT)).mono ?_;rintro bf bg ⟨rfl,aA⟩;have aB:=y' ((d' z).below aA);clear aA);refine G' (λF=>Zn p w m y M k e st q b (CE x e) H I F) (d' aB) ?_;clear aB z c0;intro Q J;have aU:=y' J;have bh:=J.far.size;clear J;obtain⟨aC,ad⟩:=exq (⟨(Qb.bytes 2 e 0 0 S.data.toList).toArray⟩:z10);rw[<-ad]at av ⊢;have bi:=y' ad;clear ad;go_wp2_with (at_builtin;refine z67 _ rfl (.tmp 78) (.tmp 80) 33 rfl p.heap.size 9 i0 (.string ⟨#[]⟩) 1 16 underlying33 hi aH aI aJ rfl (by decide) En 0 [] rfl (z20 _ _ _ _) ⟨Q.heap.size,0,none⟩ 1 1 (AF [aC]) rfl rfl AW (by intro u hu;simp[AF]at hu;subst hu;rfl) (by unfold maxLen;omega) (by omega) (by simp;omega) ?_;intro v' bj aD aE _;have aF:=(((z11 Q.heap.size Q).alloc (z16 _) (.cells (AF [aC]).toArray 9)).trans (AB (B:=Q.heap.size) aE (by simp) (λg aa=>by cases aa)));have aV:=y' aD;have aW:=y' aF;clear aD aE aF);go_ret;rw[d' av];exact⟨_,rfl,by simpa using d' aV,((d' aU).below (d' aW)).done⟩
def CK (a:Mq.Sk) (k e:Int) (s q:Nat) (b:z10):Mq.Sk×List z10:=
 if k=1 then(if e < a.Qa then(a,[GA a.Qa])else(CE a e.toNat,[nQ a e.toNat]))
 else if k=3 then(if e=a.Qa then(BC a k e s q b,[VE a k e s q b])else(a,[GA (max e.toNat a.Qa)]))
 else(a,[])
structure Jd (a:Mq.Sk):Prop where
 held:∀h∈a.held,h.1 < 3/\(a.Qc h.1).length+1<=h.2.1/\h.2.1<=(a.Qc h.1).length+4
 once:(a.held.map λh=>(h.1,h.2.1)).Nodup
 room:a.count<=120
 ep:a.Qa<=2147483647
theorem NQ:∀ (n:Nat) (l:List Nat),l.Nodup->(∀x∈l,x < n)->l.length<=n
 |0,[],_,_=>z16 _
 |0,x::l,_,h=>by have:=h x (.head _);omega
 |n+1,l,hn,h=>by
  by_cases F:n∈l
  .have h1:=List.length_erase_of_mem F;have h2:=NQ n (l.erase n) (hn.erase n) (λx z=>by have h3:=(hn.mem_erase_iff).1 z;have:=h x h3.2;have:=h3.1;omega);omega
  .have:=NQ n l hn (λx z=>by have:=h x z;have:x≠n:=λe=>F (e ▸ z);omega);omega
theorem OO {a:Mq.Sk} {s:Nat} (hs:s < 3):(a.Qc s).length<=a.count:=by
 obtain rfl|rfl|rfl:s=0\/s=1\/s=2:=by omega
 all_goals
  unfold Mq.Sk.count;omega
theorem Jd.small (z:Jd x):x.held.length<=12:=by
 have h1:(x.held.map λh=>h.1 * 4+(h.2.1 - (x.Qc h.1).length - 1)).Nodup:=by
  have:=z.once;rw[List.Nodup,Fx]at this ⊢;refine this.imp_of_mem (λ{F y} H I J e=>J ?_);have M:=z.held F H;have V:=z.held y I;have G:F.1=y.1:=by omega
  rw[G]at e M;exact Prod.ext G (by simp only;omega)
 have h2:=NQ 12 _ h1 (λn hn=>by obtain⟨h,Q,rfl⟩:=z66.1 hn;have:=z.held h Q;omega);simpa using h2
theorem iB:∀ {l:List (Nat×Nat×z10)} {i:Nat},Mq.ixFrom w a i l=none->∀h∈l,¬ (h.1=w/\h.2.1=a)
 |[],_,_,h,z=>by cases z
 |x::l,i,hn,h,z=>by
  rw[Mq.ixFrom]at hn;split at hn
  .cases hn
  .rename_i F;cases z with
   |head=>exact F
   |tail _ z=>exact iB hn h z
theorem sN:Jd {Qa:=0,Qc:=λ_=>[],held:=[]}:=⟨by simp,by simp,by simp[Mq.Sk.count],by simp⟩
theorem nS (F:Jd x) (s q:Nat) (b:z10) (hs:s < 3):Jd (CS x s q b):=by
 unfold CS;split;rename_i h;obtain⟨h1,h2,h3⟩:=h;refine⟨λH z=>?_,?_,F.room,F.ep⟩;simp only[List.mem_append,List.mem_singleton]at z;rcases z with z|rfl;exact F.held H z;exact⟨hs,by show(x.Qc s).length+1<=q;omega,h2⟩;simp only[List.map_append,List.map_cons,List.map_nil];rw[jZ];refine⟨F.once,by simp,?_⟩;rintro H z y G rfl;simp only[List.mem_singleton]at G;obtain⟨h,I,rfl⟩:=z66.1 z;exact iB h3 h I ⟨congrArg Prod.fst G,congrArg Prod.snd G⟩;exact F
theorem nT (F:Jd x) (s:Nat) (z:List z10) (hs:s < 3) (H:x.count+z.length<=120):Jd (EJ x s z):=by
 have I:∀t,((EJ x s z).Qc t).length=if t=s then(x.Qc s).length+z.length else(x.Qc t).length:=by intro t;show((grown x s z).Qc t).length= _;unfold grown;by_cases h:t=s;simp[h];simp[h]
 refine⟨λh J=>?_,F.once.sublist ((List.filter_sublist (p:=Mq.keeps s (x.Qc s++z).length) (l:=x.held)).map _),?_,F.ep⟩;have M:h∈x.held.filter (Mq.keeps s (x.Qc s++z).length):=J;obtain⟨h1,h2⟩:=sL.1 M;obtain⟨g1,g2,G⟩:=F.held h h1;rw[I];refine⟨g1,?_⟩;by_cases e:h.1=s;rw[if_pos e];unfold Mq.keeps at h2;rw[e]at g2 G;simp[e]at h2;omega;rw[if_neg e];exact⟨g2,G⟩;have:(EJ x s z).count=(grown x s z).count:=rfl;rw[this,IS x s hs z];exact H
theorem kC (z:Jd x) (e:Nat) (F:e<=2147483647):Jd (CE x e):=by
 unfold CE EX;split;exact⟨by simp,by simp,z.room,F⟩;exact⟨z.held,z.once,z.room,F⟩
theorem RB (z:Jd x) (k e:Int) (s q:Nat) (b:z10) (hs:s < 3) (F:e<=2147483647):Jd (CK x k e s q b).1:=by
 unfold CK;split;split;exact z;exact kC z _ (by omega);split;split;show Jd (BC x k e s q b);unfold BC;split;exact nS z s q b hs;exact nT z s _ hs (JL k e s q b z.room);exact z;exact z
theorem eZ (R:Jg p w x M m y) (Q:Jd x) (k e:Int) (s q:Nat) (b:z10) (V:0<=e) (ac:e<=2147483647) (hs:s < 3) (Y:q<=2147483647):
  Cp 194 #[Er w 0,.agg #[Ej k,Ej e,Ej s,Ej q,.string b]] p λF w'=>
   ∃v,F=.returned v/\w'.ownsRow p.heap.size 9 1 v (CK x k e s q b).2.length (AF (CK x k e s q b).2)/\JA p w' w (CK x k e s q b).1 M m y:=by
 have Z:x.held.length < 1000:=by have:=Q.small;omega
 obtain⟨z,rfl⟩:=z62 V;have H:∀ {w':World},El p w'->JA p w' w x M m y:=λ{w'} hb=>
  ⟨m,y,R.far (fbF hb) Ih,I' hb,λk aa=>.inl aa⟩
 have J:((z:Int)).toNat=z:=by omega
 unfold CK;by_cases k1:k=1;rw[if_pos k1];by_cases h:(z:Int) < x.Qa;rw[if_pos h];refine(OV R k z s q b k1 (by omega)).mono ?_;rintro F w' ⟨v,rfl,G,hb⟩;exact⟨v,rfl,G,H hb⟩;rw[if_neg h];exact WB R k z s q b k1 (by omega) (by omega);rw[if_neg k1];by_cases k3:k=3;rw[if_pos k3];by_cases h:(z:Int)=x.Qa;rw[if_pos h];exact XR R k _ s q b k3 h hs Y Z;rw[if_neg h];have ad:z≠x.Qa:=λe=>h (by rw[e]);by_cases ab:z < x.Qa;refine(eX R k z s q b k3 ab).mono ?_;rintro F w' ⟨v,rfl,G,hb⟩;have I:max (z:Int).toNat x.Qa=x.Qa:=by rw[J];omega
 exact⟨v,rfl,by rw[I];exact G,H hb⟩;refine(eY R k z s q b k3 (by omega) (by omega)).mono ?_;rintro F w' ⟨v,rfl,G,hb⟩;have I:max (z:Int).toNat x.Qa=z:=by rw[J];omega
 exact⟨v,rfl,by rw[I];exact G,H hb⟩;rw[if_neg k3];refine(VZ R k _ s q b k1 k3).mono ?_;rintro F w' ⟨rfl,hb⟩;exact⟨_,rfl,z20 _ _ _ _,H hb⟩
structure Xw (w x:World) (k e st q:Int) (b:z10) (x0 x1 x2:Int):Prop where
 bel:El w x
 size:w.heap.size+2 < x.heap.size
 box:x.heap[w.heap.size]? =some (.cells #[Ej k,Ej e,Ej st,Ej q,.string b] 63 (0,0))
 out:x.heap[w.heap.size+1]? =some (.cells #[Ej 0,Ej 0,Ej 0] 35 (0,0))
 num:x.heap[w.heap.size+2]? =some (.cells #[Ej x0,Ej x1,Ej x2] 35 (0,0))
theorem Xw.drew {w:World} (h:Xw w p o V aF aH z dS dT dU) (n:Nat):Xw w (p.drewN n) o V aF aH z dS dT dU:=
 ⟨z36 h.bel n,h.size,h.box,h.out,h.num⟩
theorem WQ (w:World) (k e st q:Int) (b:z10):Xw w (((w.alloc (.cells #[Ej k,Ej e,Ej st,Ej q,.string b] 63)).alloc (.cells #[Ej 0,Ej 0,Ej 0] 35)).alloc (.cells #[Ej 0,Ej 0,Ej 0] 35)) k e st q b 0 0 0:=by
 refine⟨((bna.alloc (by simp) _).alloc (by simp;omega) _),by simp,?_,?_,?_⟩;rw[z35 _ _ _ (by simp;omega),z35 _ _ _ (by simp)];exact z19 w _;rw[z35 _ _ _ (by simp)];have:=z19 (w.alloc (.cells #[Ej k,Ej e,Ej st,Ej q,.string b] 63)) (.cells #[Ej 0,Ej 0,Ej 0] 35);simpa using this;have:=z19 ((w.alloc (.cells #[Ej k,Ej e,Ej st,Ej q,.string b] 63)).alloc (.cells #[Ej 0,Ej 0,Ej 0] 35)) (.cells #[Ej 0,Ej 0,Ej 0] 35);simpa using this
def FE (z:Nat->Nat) (s j:Nat):Int:=if j < s then z j else 0
theorem Xw.at {w x:World} {k e st q:Int} {b:z10} {z:Nat->Nat} {F:Nat} (h:Xw w x k e st q b (FE z F 0) (FE z F 1) (FE z F 2)) (s:Nat) (hs:s < 3):x.cell? (Ea (w.heap.size+2) s)=some (Ej (FE z F s)):=by
 rw[D' h.num];obtain rfl|rfl|rfl:s=0\/s=1\/s=2:=by omega
 all_goals rfl
theorem Xw.set (h:Xw p f o V aF aH z (FE O w 0) (FE O w 1) (FE O w 2)) (hs:w < 3):
  Xw p (f.setCell ⟨p.heap.size+2,w,none⟩ (Ej (O w))) o V aF aH z (FE O (w+1) 0) (FE O (w+1) 1) (FE O (w+1) 2):=by
 refine⟨h.bel.setCell (p:=⟨p.heap.size+2,w,none⟩) (by simp) _,by rw[z80];exact h.size,(AG (by omega)).trans h.box,(AG (by omega)).trans h.out,?_⟩;have:=AA (j:=w) (v:=Ej (O w)) h.num;rw[this];obtain rfl|rfl|rfl:w=0\/w=1\/w=2:=by omega
 all_goals simp[FE]
theorem Xw.keep {w x:World} {k e st q:Int} {b:z10} {z:Nat->Nat} {s:Nat} (h:Xw w x k e st q b (FE z s 0) (FE z s 1) (FE z s 2)) (hs:s < 3) (h0:z s=0):Xw w x k e st q b (FE z (s+1) 0) (FE z (s+1) 1) (FE z (s+1) 2):=by
 have e:∀j,FE z (s+1) j=FE z s j:=by intro j;unfold FE;by_cases hj:j=s;subst hj;simp[h0];by_cases F:j < s;simp[F,show j < s+1 by omega];simp[F,show ¬j < s+1 by omega]
 rw[e,e,e];exact h
theorem fA (R:Qi p w c P m I) (k e st q:Int) (b:z10) (z:¬e=c.Qa):
  Cp 188 #[Er w 0,.agg #[Ej k,Ej e,Ej st,Ej q,.string b]] p λx w'=>Rr x (.agg #[Ej 0,Ej 0,Ej 0])/\El p w':=by
 have c0:=Bi 0 R.blk;simp[AE]at c0;have F:=z12 R.blk;have aa:(e != (c.Qa:Int))=true:=by simpa using z
 have G:=y' c0;clear R c0;generalize (c.Qa:Int)=ep at *;go_enter func188,ntmps188;go_upto_region 2 with fail;refine G' (λx=>Xw p x k e st q b 0 0 0) (WQ p k e st q b) ?_;intro x L;have H:=Bi 1 L.box;have c0:=Bc L.bel F (d' G);obtain⟨z0,J,M⟩:=DQ L.num;obtain⟨Q,V,Y⟩:=DQ L.out;have f0:=H' (i:=0) L.out;have f1:=H' (i:=1) L.out;have f2:=H' (i:=2) L.out;simp at H z0 J M Q V Y;have Z:=y' L;clear L;go_quiet (fail);go_wp2;exact z47 (v:=.agg #[Ej 0,Ej 0,Ej 0]) (by simp[results,results188,go_sem, *]) rfl ⟨rfl,(((z36 (d' Z).bel _).setCell (p:=⟨p.heap.size+1,0,none⟩) (by simp) _).setCell (p:=⟨p.heap.size+1,1,none⟩) (by simp) _).setCell (p:=⟨p.heap.size+1,2,none⟩) (by simp) _⟩
theorem xJ (R:Qi p w c P m I) (st q:Int) (b:z10) (hb:b.size=12) (z:Nat->Nat) (H:∀s,s < 3->z s=c.gone s (Qh b.data.toList (4 * s))):
  Cp 188 #[.pointer (some ⟨w,0,none⟩),.agg #[.int .i64 2,.int .i64 c.Qa,.int .i64 st,.int .i64 q,.string b]] p λx w'=>x=.returned (.agg #[.int .i64 (z 0),.int .i64 (z 1),.int .i64 (z 2)])/\Below p.heap.size p w':=by
 have Z:=y' H;have aa:=λs (hs:s < 3) p=>y' (II b (4 * s) p (by omega) (by omega));clear H hb;have c0:=Bi 0 R.blk;have c2:=Bi 2 R.blk;simp[AE]at c0 c2;have J:=z12 R.blk;have ab:((c.Qa:Int) != (c.Qa:Int))=false:=by simp
 have M:=y' c0;have ac:=y' c2;have ad:=y' R;clear R c0 c2;generalize ah:(c.Qa:Int)=ep at ab M ⊢;clear ah;go_enter func188,ntmps188;go_upto_region 2 with fail;refine G' (λx=>Xw p x 2 ep st q b 0 0 0) (WQ p 2 ep st q b) ?_;intro x L;have Q:=Bi 1 L.box;have c0:=Bc L.bel J (d' M);simp at Q;have ai:=y' L;clear L;go_quiet (fail);have aj:=y' ((d' ai).drew nq);clear Q c0;go_wp2;go_loopw[6] (λi wr=>∃s:Nat,s<=3/\i=.int .i64 s/\Xw p wr 2 ep st q b (FE z s 0) (FE z s 1) (FE z s 2)) (λi _=>3 - (intOf i).toNat)
 case atStart=>exact⟨0,by omega,rfl,d' aj⟩
 case round=>
  obtain⟨s,hs,rfl,L⟩:=hrel;by_cases F:s < 3
  .have c2:=Bc L.bel J (d' ac);have ak:=Bi 0 L.box;have ao:=Bi 2 L.box;have aq:=Bi 3 L.box;have au:=Bi 4 L.box;simp at ak ao aq au;have aH:=L.at s F;have aI:=H' (i:=s) L.num;have V:(s:Int) < 3:=(by omega);have av:=y' ((d' ad).far (fbF (L.bel.mono (z16 _))) Ih);have G:=y' L;clear L;have ax:=DX b.data.toList (4 * s);have ay:=y' ((d' av));have Y:=aa s F wr;have az:=y' ((d' Z) s F);have aA:((4 * s:Nat):Int)=4 * (s:Int):=(by omega);rw[aA]at Y;generalize Qh b.data.toList (4 * s)=aB at *;obtain⟨aJ,aK⟩:=ax;go_wp2_with (first|(go_at_call 181;refine Cm Y ?_;rintro aL w1 ⟨rfl,k1,rfl⟩)|(go_at_call 207;refine(nJ ((d' ay).far (fbF (z36 (z11 _ _) _)) Ih) s F aB (by omega)).mono ?_;rintro aM aN ⟨rfl,rfl⟩;rw[<-d' az]));go_roundw
   case rel=>exact⟨s+1,by omega,by go_num,((d' G).drew _).set F⟩
   case measure=>simp[intOf];omega
  have V:s=3:=by omega
  subst V;obtain⟨z0,aC,aD⟩:=DQ L.num;obtain⟨aE,aF,aG⟩:=DQ L.out;have f0:=H' (i:=0) L.out;have f1:=H' (i:=1) L.out;have f2:=H' (i:=2) L.out;simp[FE]at z0 aC aD aE aF aG;have G:=y' L;clear L;go_wp2;exact z47 (v:=.agg #[.int .i64 (z 0),.int .i64 (z 1),.int .i64 (z 2)]) (by simp[results,results188,go_sem, *]) rfl ⟨rfl,(((d' G).bel.setCell (p:=⟨p.heap.size+1,0,none⟩) (by simp) _).setCell (p:=⟨p.heap.size+1,1,none⟩) (by simp) _).setCell (p:=⟨p.heap.size+1,2,none⟩) (by simp) _⟩
theorem xK (R:Qi p w c P m I) (st q:Int) (b:z10) (aa:0<=q/\q<=2147483647) (z:Nat->Nat) (M:∀s,s < 3->z s=if st=s/\c.Qd=true then c.gone s q else 0):
  Cp 188 #[.pointer (some ⟨w,0,none⟩),.agg #[.int .i64 4,.int .i64 c.Qa,.int .i64 st,.int .i64 q,.string b]] p λx w'=>x=.returned (.agg #[.int .i64 (z 0),.int .i64 (z 1),.int .i64 (z 2)])/\Below p.heap.size p w':=by
 have ab:=y' M;obtain⟨aH,aI⟩:=aa;clear M;have c0:=Bi 0 R.blk;have c2:=Bi 2 R.blk;simp[AE]at c0 c2;have Q:=z12 R.blk;have ac:((c.Qa:Int) != (c.Qa:Int))=false:=by simp
 have V:=y' c0;have ad:=y' c2;have ah:=y' R;clear R c0 c2;generalize ai:c.Qd=aj at *;clear ai;generalize ak:(c.Qa:Int)=ep at ac V ⊢;clear ak;go_enter func188,ntmps188;go_upto_region 2 with fail;refine G' (λx=>Xw p x 4 ep st q b 0 0 0) (WQ p 4 ep st q b) ?_;intro x L;have Y:=Bi 1 L.box;have c0:=Bc L.bel Q (d' V);simp at Y;have ao:=y' L;clear L;go_quiet (fail);have aq:=y' ((d' ao).drew nq);clear Y c0;go_wp2;go_loopw[6] (λi wr=>∃s:Nat,s<=3/\i=.int .i64 s/\Xw p wr 4 ep st q b (FE z s 0) (FE z s 1) (FE z s 2)) (λi _=>3 - (intOf i).toNat)
 case atStart=>exact⟨0,by omega,rfl,d' aq⟩
 case round=>
  obtain⟨s,hs,rfl,L⟩:=hrel;by_cases F:s < 3
  .have c2:=Bc L.bel Q (d' ad);have au:=Bi 0 L.box;have av:=Bi 2 L.box;have ax:=Bi 3 L.box;have ay:=Bi 4 L.box;simp at au av ax ay;have aJ:=L.at s F;have aK:=H' (i:=s) L.num;have Z:(s:Int) < 3:=(by omega);have az:=y' ((d' ah).far (fbF (L.bel.mono (z16 _))) Ih);have G:=y' L;clear L;have aA:=y' (nJ (d' az) s F q (by omega));have J:=y' ((d' ab) s F);by_cases hst:st=s
   .cases aj
    .have H:=y' (show z s=0 by rw[d' J,if_neg (by simp)]);go_wp2;go_roundw
     case rel=>exact⟨s+1,by omega,by go_num,(d' G).keep F (d' H)⟩
     case measure=>simp[intOf];omega
    have H:=y' (show z s=c.gone s q by rw[d' J,if_pos ⟨hst,rfl⟩]);have aB:(st== (s:Int))=true:=(by simpa using hst);clear hst;go_wp2_with (go_at_call 207;refine Cm aA ?_;rintro aL aM ⟨rfl,rfl⟩;rw[<-d' H]);go_roundw
    case rel=>exact⟨s+1,by omega,by go_num,(d' G).set F⟩
    case measure=>simp[intOf];omega
   have H:=y' (show z s=0 by rw[d' J,if_neg (λh=>hst h.1)]);have aB:(st== (s:Int))=false:=(by simpa using hst);go_wp2;go_roundw
   case rel=>exact⟨s+1,by omega,by go_num,(d' G).keep F (d' H)⟩
   case measure=>simp[intOf];omega
  have Z:s=3:=by omega
  subst Z;obtain⟨z0,aC,aD⟩:=DQ L.num;obtain⟨aE,aF,aG⟩:=DQ L.out;have f0:=H' (i:=0) L.out;have f1:=H' (i:=1) L.out;have f2:=H' (i:=2) L.out;simp[FE]at z0 aC aD aE aF aG;have G:=y' L;clear L;go_wp2;exact z47 (v:=.agg #[.int .i64 (z 0),.int .i64 (z 1),.int .i64 (z 2)]) (by simp[results,results188,go_sem, *]) rfl ⟨rfl,(((d' G).bel.setCell (p:=⟨p.heap.size+1,0,none⟩) (by simp) _).setCell (p:=⟨p.heap.size+1,1,none⟩) (by simp) _).setCell (p:=⟨p.heap.size+1,2,none⟩) (by simp) _⟩
theorem sO (R:Qi p w c P m I) (k st q:Int) (b:z10) (h2:¬k=2) (h4:¬k=4) (z:Nat->Nat) (H:∀s,s < 3->z s=0):
  Cp 188 #[Er w 0,.agg #[Ej k,Ej c.Qa,Ej st,Ej q,.string b]] p λx w'=>Rr x (.agg #[Ej (z 0),Ej (z 1),Ej (z 2)])/\El p w':=by
 have Y:=y' H;have k2:(k==2)=false:=by simpa using h2
 have k4:(k==4)=false:=by simpa using h4
 clear H h2 h4;have c0:=Bi 0 R.blk;have c2:=Bi 2 R.blk;simp[AE]at c0 c2;have J:=z12 R.blk;have Z:((c.Qa:Int) != (c.Qa:Int))=false:=by simp
 have M:=y' c0;have aa:=y' c2;have ab:=y' R;clear R c0 c2;generalize ac:(c.Qa:Int)=ep at Z M ⊢;clear ac;go_enter func188,ntmps188;go_upto_region 2 with fail;refine G' (λx=>Xw p x k ep st q b 0 0 0) (WQ p k ep st q b) ?_;intro x L;have Q:=Bi 1 L.box;have c0:=Bc L.bel J (d' M);simp at Q;have ad:=y' L;clear L;go_quiet (fail);have ah:=y' ((d' ad).drew nq);clear Q c0;go_wp2;go_loopw[6] (λi wr=>∃s:Nat,s<=3/\i=.int .i64 s/\Xw p wr k ep st q b (FE z s 0) (FE z s 1) (FE z s 2)) (λi _=>3 - (intOf i).toNat)
 case atStart=>exact⟨0,by omega,rfl,d' ah⟩
 case round=>
  obtain⟨s,hs,rfl,L⟩:=hrel;by_cases F:s < 3
  .have c2:=Bc L.bel J (d' aa);have ai:=Bi 0 L.box;have aj:=Bi 2 L.box;have ak:=Bi 3 L.box;have ao:=Bi 4 L.box;simp at ai aj ak ao;have az:=L.at s F;have aA:=H' (i:=s) L.num;have V:(s:Int) < 3:=(by omega);have aB:=y' ((d' ab).far (fbF (L.bel.mono (z16 _))) Ih);have G:=y' L;clear L;go_wp2;go_roundw
   case rel=>exact⟨s+1,by omega,by go_num,(d' G).keep F ((d' Y) s F)⟩
   case measure=>simp[intOf];omega
  have V:s=3:=by omega
  subst V;obtain⟨z0,aq,au⟩:=DQ L.num;obtain⟨av,ax,ay⟩:=DQ L.out;have f0:=H' (i:=0) L.out;have f1:=H' (i:=1) L.out;have f2:=H' (i:=2) L.out;simp[FE]at z0 aq au av ax ay;have G:=y' L;clear L;go_wp2;exact z47 (v:=.agg #[Ej (z 0),Ej (z 1),Ej (z 2)]) (by simp[results,results188,go_sem, *]) rfl ⟨rfl,(((d' G).bel.setCell (p:=⟨p.heap.size+1,0,none⟩) (by simp) _).setCell (p:=⟨p.heap.size+1,1,none⟩) (by simp) _).setCell (p:=⟨p.heap.size+1,2,none⟩) (by simp) _⟩
theorem KR (R:Qi p w c P m I) (k e st q:Int) (b:z10) (h2:k=2->b.size=12) (h4:k=4->0<=q/\q<=2147483647):
  Cp 188 #[Er w 0,.agg #[Ej k,Ej e,Ej st,Ej q,.string b]] p λx w'=>
   x=.returned (.agg #[Ej (c.Jb k e st q b 0),Ej (c.Jb k e st q b 1),Ej (c.Jb k e st q b 2)])/\El p w':=by
 by_cases z:e=c.Qa;subst z;by_cases F:k=2;subst F;exact xJ R st q b (h2 rfl) _ (λs _=>by simp[Ag.Jb]);by_cases G:k=4;subst G;exact xK R st q b (h4 rfl) _ (λs _=>by simp[Ag.Jb]);exact sO R k st q b F G _ (λs _=>by simp[Ag.Jb,F,G]);have H:∀s,c.Jb k e st q b s=0:=λs=>by simp[Ag.Jb,z]
 simp only[H];exact fA R k e st q b z
structure We (w x:World) (p:Nat) (a:Ag) (r:AY) (kv hv:Nat->Value) (k e st q:Int) (b:z10):Prop where
 bel:El w x
 box:x.heap[w.heap.size]? =some (.cells #[Ej k,Ej e,Ej st,Ej q,.string b] 63 (0,0))
 ref:Qi x p a r kv hv
theorem GB (R:Qi p w c P m I) (k e st q:Int) (b:z10):We p (p.alloc (.cells #[Ej k,Ej e,Ej st,Ej q,.string b] 63)) w c P m I k e st q b:=
 ⟨bna,z19 p _,R.far (fbF bna) Ih⟩
theorem We.drew {w x:World} {p:Nat} {a:Ag} {r:AY} {z F:Nat->Value} {k e st q:Int} {b:z10} (h:We w x p a r z F k e st q b) (n:Nat):We w (x.drewN n) p a r z F k e st q b:=
 ⟨z36 h.bel n,h.box,h.ref.far (fbF (z36 (z11 _ _) n)) Ih⟩
theorem Qi.fenced (R:Qi p w c P m I) (v:Bool):Qi (p.setCell ⟨w,3,none⟩ (.bool v)) w {c with fenced:=v} P m I:=by
 have H:=T' p w 3 (.bool v);exact⟨by have:=AA (j:=3) (v:=.bool v) R.blk;rw[this];rfl,λt z=>(R.kept t z).far H (λg F G=>(R.kept t z).ne R.blk (by decide) (by rw[F,G])),λt z=>(R.held t z).far H (λg F G=>(R.held t z).ne R.blk (by decide) (by rw[F,G])),R.apk,R.aph,R.ep,R.tk,R.bs,R.kl,R.hl⟩
theorem Qi.Qd (R:Qi p w c P m I) (v:Bool):Qi (p.setCell ⟨w,2,none⟩ (.bool v)) w {c with Qd:=v} P m I:=by
 have H:=T' p w 2 (.bool v);exact⟨by have:=AA (j:=2) (v:=.bool v) R.blk;rw[this];rfl,λt z=>(R.kept t z).far H (λg F G=>(R.kept t z).ne R.blk (by decide) (by rw[F,G])),λt z=>(R.held t z).far H (λg F G=>(R.held t z).ne R.blk (by decide) (by rw[F,G])),R.apk,R.aph,R.ep,R.tk,R.bs,R.kl,R.hl⟩
theorem DN {a':Ag} (R:Qi f w a' P m I) (z:Far (CP w m I) p f):CC p f w a' P m I:=⟨m,I,R,z,λ_ h=>.inl h⟩
theorem TI (R:Qi p w c P m I) (k e st q:Int) (b:z10) (z:k=5) (V:(c.Qa:Int) < e):
  Cp 189 #[Er w 0,.agg #[Ej k,Ej e,Ej st,Ej q,.string b]] p λx w'=>Rr x (.tuple #[])/\CC p w' w {c with fenced:=true} P m I:=by
 have k5:(k==5)=true:=by simpa using z
 clear z;have F:=y' (GB R k e st q b);have Y:=z12 R.blk;generalize G:(c.Qa:Int)=ep at *;go_enter func189,ntmps189;go_upto_region 1 with fail;refine G' (λx=>We p x w c P m I k e st q b) (d' F) ?_;clear F R;intro x L;obtain⟨J,M⟩:=GK L.box;have c0:=Bi 0 L.ref.blk;have c2:=Bi 2 L.ref.blk;have f2:=H' (i:=2) L.ref.blk;have c3:=Bi 3 L.ref.blk;have f3:=H' (i:=3) L.ref.blk;simp[AE]at J M c0 c2 c3;rw[G]at c0;have Q:=y' L;clear L G;go_quiet (fail);go_wp2;refine z47 (z64 rfl _ _ _) rfl ?_;have H:=(d' Q).drew nq;exact⟨rfl,DN (H.ref.fenced true) ((I' H.bel).trans (T' _ w 3 (.bool true)) (λk _ h=>.inl h))⟩
theorem RC (R:Qi p w c P m I) (k e st q:Int) (b:z10) (z:k=5) (M:¬ (c.Qa:Int) < e) (F:¬e=c.Qa):
  Cp 189 #[Er w 0,.agg #[Ej k,Ej e,Ej st,Ej q,.string b]] p λx w'=>Rr x (.tuple #[])/\CC p w' w c P m I:=by
 have k5:(k==5)=true:=by simpa using z
 have Y:(e != (c.Qa:Int))=true:=by simpa using F
 clear z F;have G:=y' (GB R k e st q b);have Z:=z12 R.blk;generalize H:(c.Qa:Int)=ep at *;have hd:decide (ep < e)=false:=by simpa using M
 go_enter func189,ntmps189;go_upto_region 1 with fail;refine G' (λx=>We p x w c P m I k e st q b) (d' G) ?_;clear G R;intro x L;obtain⟨Q,V⟩:=GK L.box;have c0:=Bi 0 L.ref.blk;have c2:=Bi 2 L.ref.blk;have f2:=H' (i:=2) L.ref.blk;have c3:=Bi 3 L.ref.blk;have f3:=H' (i:=3) L.ref.blk;simp[AE]at Q V c0 c2 c3;rw[H]at c0;have J:=y' L;clear L H;go_quiet (fail);go_wp2;go_quiet (fail);go_wp2;refine z47 (z64 rfl _ _ _) rfl ?_;exact⟨rfl,DN (a':=c) (((d' J).drew _).drew _).ref (I' (((d' J).drew _).drew _).bel)⟩
theorem TJ (R:Qi p w c P m I) (k e st q:Int) (b:z10) (z:¬k=5) (F:¬e=c.Qa):
  Cp 189 #[Er w 0,.agg #[Ej k,Ej e,Ej st,Ej q,.string b]] p λx w'=>Rr x (.tuple #[])/\CC p w' w c P m I:=by
 have k5:(k==5)=false:=by simpa using z
 have V:(e != (c.Qa:Int))=true:=by simpa using F
 clear z F;have G:=y' (GB R k e st q b);have Y:=z12 R.blk;generalize H:(c.Qa:Int)=ep at *;go_enter func189,ntmps189;go_upto_region 1 with fail;refine G' (λx=>We p x w c P m I k e st q b) (d' G) ?_;clear G R;intro x L;obtain⟨M,Q⟩:=GK L.box;have c0:=Bi 0 L.ref.blk;have c2:=Bi 2 L.ref.blk;have f2:=H' (i:=2) L.ref.blk;have c3:=Bi 3 L.ref.blk;have f3:=H' (i:=3) L.ref.blk;simp[AE]at M Q c0 c2 c3;rw[H]at c0;have J:=y' L;clear L H;go_quiet (fail);go_wp2;go_quiet (fail);go_wp2;refine z47 (z64 rfl _ _ _) rfl ?_;exact⟨rfl,DN (a':=c) (((d' J).drew _).drew _).ref (I' (((d' J).drew _).drew _).bel)⟩
theorem TK (R:Qi p w c P m I) (k e st q:Int) (b:z10) (F:k=5) (G:e=c.Qa):
  Cp 189 #[Er w 0,.agg #[Ej k,Ej e,Ej st,Ej q,.string b]] p λx w'=>Rr x (.tuple #[])/\CC p w' w {c with Qd:=false} P m I:=by
 have k5:(k==5)=true:=by simpa using F
 have M:¬ (c.Qa:Int) < e:=by omega
 have Y:(e != (c.Qa:Int))=false:=by simpa using G
 clear F G;have H:=y' (GB R k e st q b);have Z:=z12 R.blk;generalize J:(c.Qa:Int)=ep at *;have hd:decide (ep < e)=false:=by simpa using M
 go_enter func189,ntmps189;go_upto_region 1 with fail;refine G' (λx=>We p x w c P m I k e st q b) (d' H) ?_;clear H R;intro x L;obtain⟨Q,V⟩:=GK L.box;have c0:=Bi 0 L.ref.blk;have c2:=Bi 2 L.ref.blk;have f2:=H' (i:=2) L.ref.blk;have c3:=Bi 3 L.ref.blk;have f3:=H' (i:=3) L.ref.blk;simp[AE]at Q V c0 c2 c3;rw[J]at c0;have z:=y' L;clear L J;go_quiet (fail);go_wp2;go_quiet (fail);go_wp2;refine z74 (z64 rfl _ _ _) rfl ?_;have aa:=(d' z).drew nq;exact⟨rfl,DN ((((d' z).drew _).ref).Qd false) ((I' ((d' z).drew _).bel).trans (T' _ w 2 (.bool false)) (λk _ h=>.inl h))⟩
theorem WC (R:Qi p w c P m I) (k e st q:Int) (b:z10) (h5:¬k=5) (h2:¬k=2) (h4:¬k=4) (z:e=c.Qa):
  Cp 189 #[Er w 0,.agg #[Ej k,Ej e,Ej st,Ej q,.string b]] p λx w'=>Rr x (.tuple #[])/\CC p w' w c P m I:=by
 have k5:(k==5)=false:=by simpa using h5
 have k2:(k==2)=false:=by simpa using h2
 have k4:(k==4)=false:=by simpa using h4
 have Q:(e != (c.Qa:Int))=false:=by simpa using z
 clear h5 h2 h4 z;have F:=y' (GB R k e st q b);have V:=z12 R.blk;generalize G:(c.Qa:Int)=ep at *;go_enter func189,ntmps189;go_upto_region 1 with fail;refine G' (λx=>We p x w c P m I k e st q b) (d' F) ?_;clear F R;intro x L;obtain⟨J,M⟩:=GK L.box;have c0:=Bi 0 L.ref.blk;have c2:=Bi 2 L.ref.blk;have f2:=H' (i:=2) L.ref.blk;have c3:=Bi 3 L.ref.blk;have f3:=H' (i:=3) L.ref.blk;simp[AE]at J M c0 c2 c3;rw[G]at c0;have H:=y' L;clear L G;go_quiet (fail);go_wp2;go_quiet (fail);go_wp2;refine z74 (z64 rfl _ _ _) rfl ?_;exact⟨rfl,DN (a':=c) ((d' H).drew _).ref (I' ((d' H).drew _).bel)⟩
theorem TO (R:Qi p w c P m I) (k e st q:Int) (b:z10) (z:k=4) (F:e=c.Qa) (G:c.Qd=false):
  Cp 189 #[Er w 0,.agg #[Ej k,Ej e,Ej st,Ej q,.string b]] p λx w'=>Rr x (.tuple #[])/\CC p w' w c P m I:=by
 have k5:(k==5)=false:=by subst z;rfl
 have k2:(k==2)=false:=by subst z;rfl
 have k4:(k==4)=true:=by subst z;rfl
 have Y:(e != (c.Qa:Int))=false:=by simpa using F
 clear z F;have H:=y' (GB R k e st q b);have Z:=z12 R.blk;generalize J:(c.Qa:Int)=ep at *;go_enter func189,ntmps189;go_upto_region 1 with fail;refine G' (λx=>We p x w c P m I k e st q b) (d' H) ?_;clear H R;intro x L;obtain⟨Q,V⟩:=GK L.box;have c0:=Bi 0 L.ref.blk;have c2:=Bi 2 L.ref.blk;have f2:=H' (i:=2) L.ref.blk;have c3:=Bi 3 L.ref.blk;have f3:=H' (i:=3) L.ref.blk;simp[AE]at Q V c0 c2 c3;rw[J]at c0;rw[G]at c2;have M:=y' L;clear L J G;go_quiet (fail);go_wp2;go_quiet (fail);go_wp2;refine z47 (z64 rfl _ _ _) rfl ?_;exact⟨rfl,DN (a':=c) ((d' M).drew _).ref (I' ((d' M).drew _).bel)⟩
