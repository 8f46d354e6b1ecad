/- Part 3. -/
import Derived.Laws.OwnMore
import Derived.Deep.RegionLaw
import Derived.Test.YtamafdcnbcoegaaGreatOj2
set_option maxRecDepth 100000
set_option maxHeartbeats 40000000
namespace Go.Proofs.YtamafdcnbcoegaaGreat
attribute [local simp, local go_sem] Ev Ep Ei Eb Et
abbrev z61:= @List.mem_append
abbrev oh':= @List.nodup_append
abbrev z114:= @if_true
abbrev sk':= @List.mem_filter
abbrev z143:= @List.getElem_cons_zero
abbrev xU':= @List.pairwise_map
abbrev xV':= @Nat.sub_self
open Go.RowKit Go.Proofs.Tryz
def uu' (v:Value) (k size:Nat):Value:=
 match v with
 | .slice z l c=> .slice (if c=k then z else z.map fun x=>x.add (k * size)) (l - k) (c - k)
 |v=>v
theorem kB' (z:Option Addr) (l c k size:Nat):uu' (.slice z l c) k size= .slice (if c=k then z else z.map fun x=>x.add (k * size)) (l - k) (c - k):=rfl
theorem kC' (b off k:Nat):(⟨b,off,none⟩:Addr).add k=⟨b,off+k,none⟩:=by
 unfold Addr.add;split
 ·rename_i h;rw[h];rfl
 ·rfl
variable{p:World}{j:TypeId}{w a q:Nat}{c:Value}{t:List Value}
theorem Qi.cut (h:Qi p j w c a t) (hk:q<=a):
  Qi p j w (uu' c q w) (a - q) (t.drop (q * w))/\(uu' c q w).ownBlock=c.ownBlock:=by
 obtain⟨h1,h2⟩:=id h;rcases h2 with ⟨rfl,rfl⟩|⟨g,o,cap,G,rfl,H,hn,_⟩
 ·have:q=0:=by omega
  subst this;have z:t=[]:=z68 (by simpa using h1);subst z;have:=bb' p j w;exact⟨by simpa[uu']using this,rfl⟩
 ·rw[kB'];by_cases F:cap=q
  ·have:a=q:=(by omega);subst this;subst F;have z:t.drop (cap * w)=[]:=(by rw[<-h1];simp);rw[z,if_pos rfl,xV'];exact⟨h.none_left,rfl⟩
  ·rw[if_neg F,Option.map_some,kC'];exact⟨h.drop hk,rfl⟩
theorem gy':∀ (k:Nat) (l:List (z10×Nat)),aK' (l.drop k)=(aK' l).drop (k * 2)
 |0,l=>by simp
 |k+1,[]=>by simp[aK']
 |k+1,x::l=>by have:=gy' k l;rw[show(k+1) * 2=k * 2+2 by omega];simpa[aK']using this
theorem et' (f:Nat->Mq.Jl) (s:Nat) (x y:Mq.Jl):Mq.upd (Mq.upd f s x) s y=Mq.upd f s y:=by
 funext t;unfold Mq.upd;split <;> rfl
theorem ml' (a:Mq.Ag) (r:ah') (z F:Nat->Value) (s:Nat) (hs:s < 3) (b:Nat):
  (ai' a r z F).setIfInBounds (5+s * 3) (.int .i64 b)=ai' {a with fl:=Mq.upd a.fl s {a.fl s with base:=b}} r z F:=by
 obtain rfl|rfl|rfl:s=0\/s=1\/s=2:=by omega
 all_goals rfl
variable{y:Mq.Ag}{H:ah'}{b z:Nat -> Value}
theorem Qk.baseStep (R:Qk p w y H b z) (s:Nat) (hs:s < 3) (G:Nat) (hb:G<=1000000000000000):
  Qk (p.setCell ⟨w,5+s * 3,none⟩ (.int .i64 G)) w {y with fl:=Mq.upd y.fl s {y.fl s with base:=G}} H b z:=by
 have M:=Q' p w (5+s * 3) (.int .i64 G);have hk:∀t,(Mq.upd y.fl s {y.fl s with base:=G} t).kept=(y.fl t).kept:=by intro t;unfold Mq.upd;split <;> simp_all
 have O:∀t,(Mq.upd y.fl s {y.fl s with base:=G} t).held=(y.fl t).held:=by intro t;unfold Mq.upd;split <;> simp_all
 refine⟨by rw[<-ml' y H b z s hs];exact aa' R.blk,fun t F=>?_,fun t F=>?_,R.apk,R.aph,R.ep,R.tk,fun t F=>?_,fun t F=>?_,fun t F=>?_⟩
 ·simp only[hk];exact(R.kept t F).far M (fun g I J=>(R.kept t F).ne R.blk (by decide) (by rw[I,J]))
 ·simp only[O];exact(R.held t F).far M (fun g I J=>(R.held t F).ne R.blk (by decide) (by rw[I,J]))
 ·by_cases Q:t=s
  ·subst Q;simp only[Mq.Ql];exact hb
  ·simp only[Mq.Va _ _ Q];exact R.bs t F
 ·simp only[hk];exact R.kl t F
 ·simp only[O];exact R.hl t F
theorem jo' (R:Qk p w y H b z) (n:Nat->Nat) (hn:∀s,s < 3->n s<=(y.fl s).kept.length) (ab:∀s,s < 3->(y.fl s).base+n s<=1000000000000000):
  Calls prog 210 #[.pointer (some ⟨w,0,none⟩), .agg #[.int .i64 (n 0), .int .i64 (n 1), .int .i64 (n 2)]] p fun e w'=>e= .returned (.tuple #[])/\aU' p w' w (y.drop n) H b z:=by
 have ak:=m' R;have ay:=m' hn;have aQ:=m' ab;clear R hn ab;go_enter func210,ntmps210;go_wp2;go_loopw[4] (fun i wr=>∃ (s:Nat) (Q V:Nat->Value),s<=3/\i= .int .i64 s/\Qk wr w {y with fl:=Mq.Xy y.fl n s} H Q V/\Far (aO' w b z) p wr/\(∀k,aO' w Q V k->aO' w b z k\/p.heap.size < k)/\p.heap.size < wr.heap.size/\∀j,j < 3->wr.cell? ⟨p.heap.size,j,none⟩=some (.int .i64 (n j))) (fun i _=>3 - (intOf i).toNat)
 case atStart=>
  have hb:Below p.heap.size p (p.alloc (.cells #[.int .i64 (n 0), .int .i64 (n 1), .int .i64 (n 2)] 98)):=(z11 _ _).alloc (z13 _) _;refine⟨0,b,z,by omega,rfl,?_,C' hb,fun k h=> .inl h,by simp,fun j hj=>?_⟩
  ·rw[Mq.dropTo_zero];exact(d' ak).far (C' (E:=fun _=>False) hb) (fun _ _ h=>h)
  ·rw[y' (z19 p _)];obtain rfl|rfl|rfl:j=0\/j=1\/j=2:=(by omega);all_goals rfl
 case round=>
  obtain⟨s,Q,V,hs,rfl,R,hF,hK,G,J⟩:=hrel;by_cases F:s < 3
  ·have ao:=(d' ay) s F;have ab:=(d' aQ) s F;obtain⟨c0,c1,c2⟩:=bR' R s F;simp only[Mq.Vu]at c0;have d0:=J s F;have f0:=H' (i:=5+s * 3) R.blk;have az:(s:Int) < 3:=(by omega);have aA:IntKind.i64.wrap (((y.fl s).base:Int)+(n s:Int))=(y.fl s).base+n s:=(by rw[z36];omega);have I:=z14 R.blk;have M:=m' R;have O:=m' hF;have ac:=m' hK;have Y:=m' J;clear R hF hK J;go_upto_region 5 with fail;refine ab'
    [Ep w (5+s * 3),Ep w (5+s * 3),Ep w (5+s * 3),Ep w (5+s * 3),Ei ((y.fl s).base),Ei s,Ep p.heap.size s,Ei (n s),Ei ((y.fl s).base+n s),Ep w (5+s * 3),Ep w (5+s * 3),Et]
    [[5],[5],[2016],[3017],[4018],[4],[3,6020],[7021],[5019,8022],[1015],[10024],[11025,9023]]
    [16,17,18,19,20,21,22,23,24,25,26,0]
    [15,11,999]
    11 _ rfl rfl ?_ ?_
   ·refine⟨?_,?_,?_,?_,?_,?_,?_,?_,?_,?_,?_,trivial⟩;all_goals
     intro aR x hb ap;have aq:=(hb.cell (p:=⟨w,5+s * 3,none⟩) I).trans c0;have aB:=(hb.cell (p:=⟨p.heap.size,s,none⟩) G).trans d0;clear hb;simp[I']at ap;try go_simp
     try exact z11 _ _
    all_goals first|exact⟨rfl,z11 _ _⟩|(rw[aA];exact⟨rfl,z11 _ _⟩)
   ·intro f5 aC hb Z;simp only[ag',List.take]at Z;obtain⟨_,_,_,_,_,_,_,_,aS,_,aT,_⟩:=Z;have aD:=(d' M).far (C' (E:=fun _=>False) hb) (fun _ _ h=>h);have aq:=(hb.cell (p:=⟨w,5+s * 3,none⟩) I).trans c0;have aE:=(hb.frozen (p:=⟨w,5+s * 3,none⟩) I).trans f0;have aF:=aD.baseStep s F ((y.fl s).base+n s) ab;have aG:=(d' O).trans (C' (E:=fun _=>False) hb) (fun _ _ h=>h.elim);have aH:=m' (aG.trans (Q' aC w (5+s * 3) (.int .i64 (((y.fl s).base+n s:Nat):Int))) (fun k _ h=> .inl h));have aI:Hid (∀j,j < 3->(aC.setCell ⟨w,5+s * 3,none⟩ (.int .i64 (((y.fl s).base+n s:Nat):Int))).cell? ⟨p.heap.size,j,none⟩=some (.int .i64 (n j))):=fun j hj=>by rw[z39 (P' (by have aU:=(d' ak).lt w (.inl rfl);show p.heap.size≠w;omega))];exact(hb.cell (p:=⟨p.heap.size,j,none⟩) G).trans ((d' Y) j hj)
    have aJ:=z20 G hb.size;have aK:=m' aF;clear hb aD aF c0 c1 c2 d0 f0 aA ao aG O Y M;simp only[O',aS,aT];go_simp;go_upto_region 6 with fail;refine G' (fun x=>Qk x w {y with fl:=Mq.upd (Mq.Xy y.fl n s) s {y.fl s with base:=(y.fl s).base+n s}} H Q V/\Far (aO' w b z) p x/\p.heap.size < x.heap.size/\∀j,j < 3->x.cell? ⟨p.heap.size,j,none⟩=some (.int .i64 (n j)))
     ⟨by have:=d' aK;simp only[Mq.Vu]at this;exact this,d' aH,by rw[z79];exact aJ,d' aI⟩ ?_
    clear aq aE aJ aK aH aI G I;rintro aV ⟨R,hF,G,J⟩;obtain⟨_,c1,_⟩:=bR' R s F;have d0:=J s F;have f1:=H' (i:=5+s * 3+1) R.blk;have I:=z14 R.blk;have ao:=(d' ay) s F;have ad:=R.kept s F;simp only[Mq.Ql]at ad;obtain⟨aL,aM,aa,bj,_⟩:=ad.shape;obtain⟨au,av⟩:=ad.cut ao;rw[<-gy',<-z97,aa]at au;rw[aa]at av;have hcut:=m' au;have aN:=m' av;clear au av;rw[aa]at c1;have ah:=m' aa;have M:=m' R;have O:=m' hF;have Y:=m' J;clear R hF J ad aa;refine ab'
     [Ep w (5+s * 3),Ep w (5+s * 3),Ep w (5+s * 3),Ep w (5+s * 3+1),Ev (.slice aL (y.fl s).kept.length aM),Ei s,Ep p.heap.size s,Ei (n s),Ev (uu' (.slice aL (y.fl s).kept.length aM) (n s) 2),Ep w (5+s * 3),Ep w (5+s * 3+1),Et]
     [[5],[5],[2027],[3028],[4029],[4],[3,6031],[7032],[5030,8033],[1026],[10035],[11036,9034]]
     [27,28,29,30,31,32,33,34,35,36,37,0]
     [26,11,999]
     11 _ rfl rfl ?_ ?_
    ·refine⟨?_,?_,?_,?_,?_,?_,?_,?_,?_,?_,?_,trivial⟩;all_goals
      intro aR x hb ap;have aq:=(hb.cell (p:=⟨w,5+s * 3+1,none⟩) I).trans c1;have aB:=(hb.cell (p:=⟨p.heap.size,s,none⟩) G).trans d0;clear hb;simp[I']at ap;try go_simp
      try exact z11 _ _
     all_goals exact⟨rfl,z11 _ _⟩
    ·intro f7 aO hb Z;simp only[ag',List.take]at Z;obtain⟨_,_,_,_,_,_,_,_,aW,_,aX,_⟩:=Z;have ai:Far (fun _=>False) aV aO:=C' hb;have aP:=(d' M).far ai (fun _ _ h=>h);have ax:=(d' hcut).far ai (fun _ _ h=>h);rw[<-d' ah]at ax;have aY:=aP.keptStep s F (x:=(y.fl s).kept.drop (n s)) (Far.refl _ _) (v':=uu' (Q s) (n s) 2) (fun g aZ=> .inl (by have:=d' aN;rw[<-d' ah]at this;rw[<-this];exact aZ)) ax (by have:=(d' M).kl s F;simp only[Mq.Ql]at this;rw[z97];omega);obtain⟨_,aj⟩:=aY;simp only[Mq.Ql,et']at aj;rw[d' ah]at aj;have aB:=(hb.cell (p:=⟨w,5+s * 3+1,none⟩) I).trans c1;have aE:=(hb.frozen (p:=⟨w,5+s * 3+1,none⟩) I).trans f1;have ba:=m' aj;have bb:=m' ((d' O).trans ai (fun _ _ h=>h.elim));have bc:Hid (∀j,j < 3->aO.cell? ⟨p.heap.size,j,none⟩=some (.int .i64 (n j))):=fun j hj=>(hb.cell (p:=⟨p.heap.size,j,none⟩) G).trans ((d' Y) j hj);have bd:=z20 G hb.size;clear hb ai aP ax aj c1 f1 d0 G I O Y M hcut aN ah;simp only[O',aW,aX];rw[kB']at *;go_simp;go_wp2;go_roundw
     case rel=>
      obtain⟨be,bf,bg,bh,bi⟩:=d' ba;refine⟨s+1,be,bf,by omega,by go_num,?_,?_,?_,by rw[z79];exact bd,?_⟩
      ·rw[Mq.dropTo_succ];exact bg
      ·exact(d' bb).trans bh (fun k hk h=>((d' ac) k h).elim id (fun h=>by omega))
      ·intro k hk;rcases bi k hk with h|h
       ·exact(d' ac) k h
       ·exact .inr (by omega)
      ·intro j hj;rw[z39 (P' (by have aU:=(d' ak).lt w (.inl rfl);show p.heap.size≠w;omega))];exact(d' bc) j hj
     case measure=>simp[intOf];omega
  ·have az:s=3:=(by omega);subst az;have M:=m' R;have O:=m' hF;have ac:=m' hK;clear R hF hK J;go_wp2;refine z77 (z65 rfl _ _ _) rfl ?_;exact⟨rfl,Q,V,d' M,d' O,fun k hk=>((d' ac) k hk).elim .inl (fun h=> .inr (by omega))⟩
end Go.Proofs.YtamafdcnbcoegaaGreat
namespace Go.Proofs.YtamafdcnbcoegaaGreat
attribute [local simp, local go_sem] Ev Ep Ei Eb Et
namespace Mq
structure Sk where
 Qa:Nat
 Qc:Nat->List z10
 held:List (Nat×Nat×z10)
def Sk.count (s:Sk):Nat:=(s.Qc 0).length+(s.Qc 1).length+(s.Qc 2).length
def ixFrom (st q:Nat):Nat->List (Nat×Nat×z10)->Option Nat
 | _,[]=>none
 |i,h::l=>if h.1=st/\h.2.1=q then some i else ixFrom st q (i+1) l
def Sk.ix (s:Sk) (st q:Nat):Option Nat:=ixFrom st q 0 s.held
variable{w a:Nat}
theorem ixFrom_none:∀ {l:List (Nat×Nat×z10)} {i:Nat},(∀j (hj:j < l.length),¬ (l[j].1=w/\l[j].2.1=a))->ixFrom w a i l=none
 |[],_,_=>rfl
 |h::l,i,z=>by have h0:=z 0 (by simp);simp only[List.getElem_cons_zero]at h0;rw[ixFrom,if_neg h0];exact ixFrom_none (fun j hj=>by have:=z (j+1) (by simp;omega);simpa using this)
theorem ixFrom_some:∀ {l:List (Nat×Nat×z10)} {i k:Nat} (hk:k < l.length),(∀j (hj:j < l.length),j < k->¬ (l[j].1=w/\l[j].2.1=a))->l[k].1=w/\l[k].2.1=a->ixFrom w a i l=some (i+k)
 |h::l,i,0,_,_,z=>by simp only[List.getElem_cons_zero]at z;rw[ixFrom,if_pos z];simp
 |h::l,i,k+1,hk,F,z=>by have h0:=F 0 (by simp) (by omega);simp only[List.getElem_cons_zero]at h0;rw[ixFrom,if_neg h0,ixFrom_some (k:=k) (by simpa using hk) (fun j hj G=>by have:=F (j+1) (by simp;omega) (by omega);simpa using this) (by simpa using z)];congr 1;omega
def ixInt:Option Nat->Int
 |none=> -1
 |some i=>i
def Sk.commitFrom (a:Sk) (st q n:Nat):Nat->List z10->List z10
 |0,out=>out
 |f+1,out=>if n+out.length < 120 then
   match a.ix st (q+out.length)with
   |none=>out
   |some i=>Sk.commitFrom a st q n f (out++[(a.held.getD i (0,0,⟨#[]⟩)).2.2])
  else out
def Sk.Qp (a:Sk) (k e st q:Int) (b:z10):List z10:=
 if k≠3\/e≠a.Qa\/q≠(a.Qc st.toNat).length+1 then []else if 120<=a.count then []else a.commitFrom st.toNat q.toNat a.count 120 [b]
variable{T:List z10}
theorem Sk.Zk {a:Sk} {st q f:Nat} (h:¬w+T.length < 120):a.commitFrom st q w f T=T:=by
 cases f with
 |zero=>rfl
 |succ f=>rw[Sk.commitFrom,if_neg h]
variable{bY:Sk}{q:Nat}
theorem Sk.Vj {f:Nat} (h:q+T.length < 120) (hi:bY.ix w (a+T.length)=none):bY.commitFrom w a q f T=T:=by
 cases f with
 |zero=>rfl
 |succ f=>rw[Sk.commitFrom,if_pos h,hi]
variable{r:Nat}
theorem Sk.Vi {f:Nat} (h:q+T.length < 120) (hi:bY.ix w (a+T.length)=some r):bY.commitFrom w a q (f+1) T=bY.commitFrom w a q f (T++[(bY.held.getD r (0,0,⟨#[]⟩)).2.2]):=by
 rw[Sk.commitFrom,if_pos h,hi]
theorem ixFrom_lt:∀ {l:List (Nat×Nat×z10)} {i k:Nat},ixFrom w a i l=some k->i<=k/\k < i+l.length
 |[],_,_,h=>by simp[ixFrom]at h
 |x::l,i,k,h=>by
  rw[ixFrom]at h;split at h
  ·injection h with h;subst h;simp
  ·have:=ixFrom_lt h;simp;omega
def keeps (st up:Nat) (h:Nat×Nat×z10):Bool:= !(decide (h.1=st)) ||decide (up < h.2.1)
def Sk.forget (a:Sk) (st up:Nat):Sk:={a with held:=a.held.filter (keeps st up)}
end Mq
end Go.Proofs.YtamafdcnbcoegaaGreat
namespace Go.Proofs.YtamafdcnbcoegaaGreat
attribute [local simp, local go_sem] Ev Ep Ei Eb Et
open Go.RowKit Go.Proofs.Tryz
def aS' (l:List (Nat×Nat×z10)):List Value:=l.flatMap fun h=>[.int .i64 (h.1:Int), .int .i64 (h.2.1:Int), .string h.2.2]
structure am' where
 dead:Bool
 next:Int
 inn:Int
 more:Value
def az' (a:Mq.Sk) (r:am') (lv:Nat->Value) (z:Value):Array Value:=
 #[.int .i64 a.Qa, .bool r.dead,lv 0,lv 1,lv 2,z, .int .i64 r.next, .int .i64 r.inn,r.more]
structure Jp (w:World) (p:Nat) (a:Mq.Sk) (r:am') (lv:Nat->Value) (hv:Value):Prop where
 blk:w.heap[p]? =some (.cells (az' a r lv hv) 132 (0,0))
 Qc:∀s,s < 3->Qi w 9 1 (lv s) (a.Qc s).length (ao' (a.Qc s))
 held:Qi w 281 3 hv a.held.length (aS' a.held)
 apl:∀s t,s < 3->t < 3->s≠t->∀g,(lv s).ownBlock=some g->(lv t).ownBlock≠some g
 ep:a.Qa<=2147483647
 ll:a.count<=120
 hl:a.held.length<=1000
 hb:∀h∈a.held,h.1 < 3/\h.2.1<=2147483647
def SkU (p:Nat) (lv:Nat->Value) (z:Value) (k:Nat):Prop:=k=p\/(∃s,s < 3/\(lv s).ownBlock=some k)\/z.ownBlock=some k
theorem Jp.far {E:Nat->Prop} {w x:World} {p:Nat} {a:Mq.Sk} {r:am'} {lv:Nat->Value} {z:Value} (h:Jp w p a r lv z) (F:Far E w x) (G:∀k,SkU p lv z k->¬E k):Jp x p a r lv z:=
 ⟨F.blk h.blk (G p (.inl rfl)),fun s hs=>(h.Qc s hs).far F (fun g H=>G g (.inr (.inl ⟨s,hs,H⟩))),h.held.far F (fun g H=>G g (.inr (.inr H))),h.apl,h.ep,h.ll,h.hl,h.hb⟩
theorem Jp.lt {w:World} {p:Nat} {a:Mq.Sk} {r:am'} {lv:Nat->Value} {z:Value} (h:Jp w p a r lv z):∀k,SkU p lv z k->k < w.heap.size:=by
 rintro k (rfl|⟨s,hs,hk⟩|hk)
 ·exact z14 h.blk
 ·exact(h.Qc s hs).lt k hk
 ·exact h.held.lt k hk
variable{p:World}{w:Nat}{x:Mq.Sk}{J:am'}{b:Nat -> Value}{c:Value}
theorem gz' (R:Jp p w x J b c) (s:Nat) (hs:s < 3):p.cell? ⟨w,2+s,none⟩=some (b s):=by
 obtain rfl|rfl|rfl:s=0\/s=1\/s=2:=by omega
 all_goals exact y' R.blk
theorem Jp.len (R:Jp p w x J b c) (s:Nat) (hs:s < 3):(x.Qc s).length<=120:=by
 have:=R.ll;unfold Mq.Sk.count at this;obtain rfl|rfl|rfl:s=0\/s=1\/s=2:=by omega
 all_goals omega
theorem nl' (R:Jp p w x J b c):
  Calls prog 212 #[.pointer (some ⟨w,0,none⟩)] p fun e w'=>e= .returned (.int .i64 x.count)/\∃n,w'=p.drewN n:=by
 have c2:=y' (i:=2) R.blk;have c3:=y' (i:=3) R.blk;have c4:=y' (i:=4) R.blk;obtain⟨I,M,z,_⟩:=(R.Qc 0 (by omega)).shape;obtain⟨O,Q,F,_⟩:=(R.Qc 1 (by omega)).shape;obtain⟨V,Y,G,_⟩:=(R.Qc 2 (by omega)).shape;have k0:=R.len 0 (by omega);have k1:=R.len 1 (by omega);have k2:=R.len 2 (by omega);simp[az']at c2 c3 c4;rw[z]at c2;rw[F]at c3;rw[G]at c4;have H:Hid ((x.count:Int)=(x.Qc 0).length+(x.Qc 1).length+(x.Qc 2).length):=by show _= _;simp[Mq.Sk.count]
 clear R z F G;generalize (x.Qc 0).length=n0 at *;generalize (x.Qc 1).length=n1 at *;generalize (x.Qc 2).length=n2 at *;go_enter func212,ntmps212;go_wp2;go_quiet (fail);go_wp2;go_ret;exact⟨dB' (d' H).symm,_,rfl⟩
theorem dO':∀ (l:List (Nat×Nat×z10)) (i:Nat) (h:i < l.length),(aS' l)[i * 3]? =some (.int .i64 (l[i].1:Int))/\(aS' l)[i * 3+1]? =some (.int .i64 (l[i].2.1:Int))/\(aS' l)[i * 3+2]? =some (.string l[i].2.2)
 |x::l,0,_=>⟨rfl,rfl,rfl⟩
 |x::l,i+1,h=>by obtain⟨h0,h1,h2⟩:=dO' l i (by simpa using h);rw[show(i+1) * 3=i * 3+3 by omega,show i * 3+3+1=i * 3+1+3 by omega,show i * 3+3+2=i * 3+2+3 by omega];exact⟨by simpa[aS']using h0,by simpa[aS']using h1,by simpa[aS']using h2⟩
theorem eg' (R:Jp p w x J b c) (st q:Nat):
  Calls prog 213 #[.pointer (some ⟨w,0,none⟩), .int .i64 st, .int .i64 q] p fun e w'=>e= .returned (.int .i64 (Mq.ixInt (x.ix st q)))/\w'=p:=by
 have c5:=y' (i:=5) R.blk;simp[az']at c5;obtain⟨aq,cap,z,h1,h2,h3⟩:=R.held.shape;rw[z]at c5;have hl:=R.hl;have V:Hid (x.ix st q=Mq.ixFrom st q 0 x.held):=rfl;clear R z;generalize x.held=l at *;have ad:=m' h3;clear h3;go_enter func213,ntmps213;go_wp2;go_loop [7] (fun i=>∃k:Nat,k<=l.length/\i= .int .i64 k/\∀j (hj:j < l.length),j < k->¬ (l[j].1=st/\l[j].2.1=q)) (fun i=>l.length - (intOf i).toNat)
 case atStart=>exact⟨0,by omega,rfl,fun j hj h=>absurd h (by omega)⟩
 case round=>
  obtain⟨k,hk,rfl,Y⟩:=hrel;have I:=m' Y;clear Y;by_cases Z:k < l.length
  ·obtain⟨g,o,rfl,M⟩:=(d' ad) (by omega);obtain⟨z,aa,ah⟩:=dO' l k Z;have au:=(M (k * 3) (by omega)).trans z;have av:p.cell? ⟨g,o+k * 3+1,none⟩=some (.int .i64 (l[k].2.1:Int)):=(M (k * 3+1) (by omega)).trans aa;clear M z aa ah;have ai:=m' (fun aj=>Mq.ixFrom_some (i:=0) Z (d' I) aj);have ab:Hid (∀F,(¬ (l[k].1=st/\l[k].2.1=q))->F=k->∀ (hb:F < l.length),¬ (l[F].1=st/\l[F].2.1=q)):=fun F h hb ax=>(by subst hb;exact h);generalize l[k].1=xs at *;generalize l[k].2.1=G at *;by_cases hs:xs=st
   ·by_cases H:G=q
    ·have ac:((xs:Int) == (st:Int))=true:=(by rw[hs];simp);have ak:((G:Int) == (q:Int))=true:=(by rw[H];simp);have ao:=m' ((d' ai) ⟨hs,H⟩);clear hs H;go_wp2;go_ret;exact⟨dB' (by rw[d' V,d' ao];simp[Mq.ixInt]),rfl⟩
    ·have ac:((xs:Int) == (st:Int))=true:=(by rw[hs];simp);have ak:((G:Int) == (q:Int))=false:=(by simp;omega);have O:=m' (fun(h:xs=st/\G=q)=>H h.2);clear hs H;go_wp2;go_round
     case rel=>exact⟨k+1,by omega,by go_num,fun j hj ap=>by
            by_cases Q:j=k
            ·exact(d' ab) j (d' O) Q hj
            ·exact(d' I) j hj (by omega)⟩
     case measure=>simp[intOf];omega
   ·have ac:((xs:Int) == (st:Int))=false:=(by simp;omega);have O:=m' (fun(h:xs=st/\G=q)=>hs h.1);clear hs;go_wp2;go_round
    case rel=>exact⟨k+1,by omega,by go_num,fun j hj ap=>by
           by_cases Q:j=k
           ·exact(d' ab) j (d' O) Q hj
           ·exact(d' I) j hj (by omega)⟩
    case measure=>simp[intOf];omega
  ·go_wp2;go_ret;exact⟨dB' (by rw[d' V,Mq.ixFrom_none (fun j hj=>(d' I) j hj (by omega))];rfl),rfl⟩
theorem uw' (R:Jp p w x J b c) (hd:J.dead=false) (s:Nat) (hs:s < 3):
  Calls prog 126 #[.pointer (some ⟨w,0,none⟩), .int .i64 s] p fun e w'=>e= .returned (b s)/\w'=p:=by
 have c1:=y' (i:=1) R.blk;simp[az',hd]at c1;have z:=gz' R s hs;have F:(s:Int) < 3:=by omega
 have G:¬ (s:Int) < 0:=by omega
 have H:¬ (3:Int)<=s:=by omega
 clear R hd;go_enter func126,ntmps126;go_wp2;go_ret;exact⟨rfl,rfl⟩
def lenOf:Value->Nat
 | .slice _ n _=>n
 | _=>0
structure Zi (w x:World) (p:Nat) (a:Mq.Sk) (r:am') (lv:Nat->Value) (hv:Value) (k e st q:Int) (b:z10):Prop where
 bel:Below w.heap.size w x
 box:x.heap[w.heap.size]? =some (.cells #[.int .i64 k, .int .i64 e, .int .i64 st, .int .i64 q, .string b] 41 (0,0))
 ref:Jp x p a r lv hv
theorem bS' (R:Jp p w x J b c) (k e st q:Int) (z:z10):Zi p (p.alloc (.cells #[.int .i64 k, .int .i64 e, .int .i64 st, .int .i64 q, .string z] 41)) w x J b c k e st q z:=
 ⟨(z11 _ _).alloc (z13 _) _,z19 p _,R.far (C' (E:=fun _=>False) ((z11 _ _).alloc (z13 _) _)) (fun _ _ h=>h)⟩
theorem Zi.below {w x y:World} {p:Nat} {a:Mq.Sk} {r:am'} {lv:Nat->Value} {z:Value} {k e st q:Int} {b:z10} (h:Zi w x p a r lv z k e st q b) (hb:Below x.heap.size x y):Zi w y p a r lv z k e st q b:=
 ⟨h.bel.trans (hb.mono h.bel.size),(hb.block _ (z14 h.box)).trans h.box,h.ref.far (C' (E:=fun _=>False) hb) (fun _ _ h=>h)⟩
theorem Zi.drew {w x:World} {p:Nat} {a:Mq.Sk} {r:am'} {lv:Nat->Value} {z:Value} {k e st q:Int} {b:z10} (h:Zi w x p a r lv z k e st q b) (n:Nat):Zi w (x.drewN n) p a r lv z k e st q b:=h.below (z41 (z11 _ _) n)
theorem jp' (R:Jp p w x J b c) (k e st q:Int) (F:z10) (hk:¬k=3):
  Calls prog 178 #[.pointer (some ⟨w,0,none⟩), .agg #[.int .i64 k, .int .i64 e, .int .i64 st, .int .i64 q, .string F]] p fun z w'=>z= .returned (.slice none 0 0)/\Below p.heap.size p w':=by
 have k3:(k !=3)=true:=by simpa using hk
 have G:=m' (bS' R k e st q F);clear R hk;go_enter func178,ntmps178;go_upto_region 2 with fail;refine G' (fun z=>Zi p z w x J b c k e st q F) (d' G) ?_;clear G;intro z L;have H:=y' (i:=0) L.box;simp at H;have I:=m' L;clear L;go_quiet (fail);go_wp2;go_ret;exact⟨rfl,((d' I).drew _).bel⟩
theorem jq' (R:Jp p w x J b c) (k e st q:Int) (F:z10) (hk:k=3) (G:¬e=x.Qa):
  Calls prog 178 #[.pointer (some ⟨w,0,none⟩), .agg #[.int .i64 k, .int .i64 e, .int .i64 st, .int .i64 q, .string F]] p fun z w'=>z= .returned (.slice none 0 0)/\Below p.heap.size p w':=by
 have k3:(k !=3)=false:=by subst hk;rfl
 have V:(e != (x.Qa:Int))=true:=by simpa using G
 have H:=m' (bS' R k e st q F);clear R hk G;generalize I:(x.Qa:Int)=ep at *;go_enter func178,ntmps178;go_upto_region 2 with fail;refine G' (fun z=>Zi p z w x J b c k e st q F) (d' H) ?_;clear H;intro z L;obtain⟨M,O⟩:=cW' L.box;have c0:=y' (i:=0) L.ref.blk;simp[az']at M O c0;rw[I]at c0;have Q:=m' L;clear L I;go_quiet (fail);go_wp2;go_ret;exact⟨rfl,((d' Q).drew _).bel⟩
theorem jr' (R:Jp p w x J b c) (k e:Int) (s qn:Nat) (F:z10) (hk:k=3) (G:e=x.Qa) (hs:s < 3) (O:¬qn=(x.Qc s).length+1):
  Calls prog 178 #[.pointer (some ⟨w,0,none⟩), .agg #[.int .i64 k, .int .i64 e, .int .i64 s, .int .i64 qn, .string F]] p fun z w'=>z= .returned (.slice none 0 0)/\Below p.heap.size p w':=by
 have k3:(k !=3)=false:=by subst hk;rfl
 have ac:(e != (x.Qa:Int))=false:=by simpa using G
 have ad:((qn:Int) != ((x.Qc s).length:Int)+1)=true:=by simp;omega
 have H:=m' (bS' R k e s qn F);have ah:=R.len s hs;have ai:(s:Int) < 3:=by omega
 clear R hk G O;generalize I:(x.Qa:Int)=ep at *;go_enter func178,ntmps178;go_upto_region 2 with fail;refine G' (fun z=>Zi p z w x J b c k e s qn F) (d' H) ?_;clear H;intro z L;obtain⟨Q,V,Y,Z⟩:=ni' L.box;have c0:=y' (i:=0) L.ref.blk;have aa:=gz' L.ref s hs;obtain⟨aj,ak,M,_⟩:=(L.ref.Qc s hs).shape;simp[az']at Q V Y Z c0;rw[I]at c0;rw[M]at aa;have ab:=m' L;clear L I M;go_quiet (fail);go_wp2;go_ret;exact⟨rfl,((d' ab).drew _).bel⟩
variable{j:TypeId}{a:Nat}{t:List Value}
theorem gG' (h:p.ownsRow w j 1 c a t) (hn:0 < a):∃g cap,c= .slice (some ⟨g,0,none⟩) a cap:=by
 obtain⟨_,h2⟩:=h;rcases h2 with ⟨_,h2⟩|⟨g,cap,z,j,_⟩
 ·omega
 ·exact⟨g,cap,j⟩
theorem vW' (h:p.ownsRow w j 1 c a t):p.ownsRow 0 j 1 c a t:=by
 obtain⟨h1,h2⟩:=h;refine⟨h1,?_⟩;rcases h2 with h2|⟨g,cap,z,j,F,r⟩
 ·exact .inl h2
 ·exact .inr ⟨g,cap,z,j,z54 _,r⟩
theorem ux' (l:List z10) (b:z10):ao' (l++[b])=ao' l++[.string b]:=by simp[ao']
theorem hG' (R:Jp p w x J b c) (k e:Int) (s qn:Nat) (G:z10) (hk:k=3) (I:e=x.Qa) (hs:s < 3) (ac:qn=(x.Qc s).length+1) (ad:120<=x.count):
  Calls prog 178 #[.pointer (some ⟨w,0,none⟩), .agg #[.int .i64 k, .int .i64 e, .int .i64 s, .int .i64 qn, .string G]] p fun z w'=>
   z= .returned (.slice none 0 0)/\Below p.heap.size p w':=by
 have k3:(k !=3)=false:=by subst hk;rfl
 have aj:(e != (x.Qa:Int))=false:=by simpa using I
 have ak:((qn:Int) != ((x.Qc s).length:Int)+1)=false:=by simp;omega
 have M:=m' (bS' R k e s qn G);have ao:=R.len s hs;have ah:=R.ll;have ap:(s:Int) < 3:=by omega
 have aq:qn<=121:=by omega
 clear R hk I ac;generalize O:(x.Qa:Int)=ep at *;obtain⟨n,hn⟩:=exq (x.count);have ai:=m' hn;rw[<-hn]at ah ad;clear hn;go_enter func178,ntmps178;go_upto_region 2 with fail;refine G' (fun z=>Zi p z w x J b c k e s qn G) (d' M) ?_;clear M;intro z L;obtain⟨Q,V,Y,Z⟩:=ni' L.box;have c0:=y' (i:=0) L.ref.blk;have aa:=gz' L.ref s hs;obtain⟨au,av,ab,_⟩:=(L.ref.Qc s hs).shape;simp[az']at Q V Y Z c0;rw[O]at c0;rw[ab]at aa;have F:=m' L;clear L O ab;go_quiet (fail);have H:=m' (nl' ((d' F).drew nq).ref);rw[<-d' ai]at H;clear Q V Y Z c0 aa;go_upto_region 5 with (go_at_call 212;refine(d' H).mono ?_;rintro y w1 ⟨rfl,ax,rfl⟩);refine G' (fun z=>Zi p z w x J b c k e s qn G) ((d' F).drew _) ?_;clear F H;intro ay L;have F:=m' L;have az:120<=(n:Int):=by omega
 clear L;go_wp2;go_ret;exact⟨rfl,(d' F).bel⟩
theorem oi' (R:Jp p w x J b c) (k e:Int) (s qn:Nat) (F:z10) (hk:k=3) (ay:e=x.Qa) (hs:s < 3) (ba:qn=(x.Qc s).length+1) (bb:x.count < 120):
  Calls prog 178 #[.pointer (some ⟨w,0,none⟩), .agg #[.int .i64 k, .int .i64 e, .int .i64 s, .int .i64 qn, .string F]] p fun G w'=>
   ∃v n,G= .returned v/\w'.ownsRow p.heap.size 9 1 v n (ao' (x.commitFrom s qn x.count 120 [F]))/\Below p.heap.size p w':=by
 have k3:(k !=3)=false:=by subst hk;rfl
 have bw:(e != (x.Qa:Int))=false:=by simpa using ay
 have bz:((qn:Int) != ((x.Qc s).length:Int)+1)=false:=by simp;omega
 have az:=m' (bS' R k e s qn F);have bA:=R.len s hs;have bc:=R.ll;have bB:(s:Int) < 3:=by omega
 have bC:qn<=121:=by omega
 obtain⟨i0,hi,aA,aB,aC⟩:=au' bQ';have bd:=m' (fun k hk=>R.lt k hk);clear R hk ay ba;generalize aD:(x.Qa:Int)=ep at *;obtain⟨n,hn⟩:=exq (x.count);have be:=m' hn;rw[<-hn]at bc bb ⊢;clear hn;obtain⟨bf,ap⟩:=exq (x.commitFrom s qn n 120 [F]);rw[<-ap];have bg:=m' ap;clear ap;go_enter func178,ntmps178;go_upto_region 2 with fail;refine G' (fun G=>Zi p G w x J b c k e s qn F) (d' az) ?_;clear az;intro G L;obtain⟨aE,aF,aa,ab⟩:=ni' L.box;have c0:=y' (i:=0) L.ref.blk;have aG:=gz' L.ref s hs;obtain⟨bD,bE,aH,_⟩:=(L.ref.Qc s hs).shape;simp[az']at aE aF aa ab c0;rw[aD]at c0;rw[aH]at aG;have z:=m' L;clear L aD aH;go_quiet (fail);have V:=m' (nl' ((d' z).drew nq).ref);rw[<-d' be]at V;clear aE aF aa ab c0 aG;go_upto_region 5 with (go_at_call 212;refine(d' V).mono ?_;rintro y w1 ⟨rfl,bF,rfl⟩);refine G' (fun G=>Zi p G w x J b c k e s qn F) ((d' z).drew _) ?_;clear z V;intro ac L;have bG:¬120<=(n:Int):=by omega
 have aI:=y' (i:=4) L.box;simp at aI;have z:=m' L;clear L;go_upto_region 8 with (at_builtin;refine z62 _ rfl (.tmp 40) (.tmp 43) 45 rfl p.heap.size 9 i0 (.string ⟨#[]⟩) 1 16 underlying45 hi aA aB aC rfl (by decide) (.slice none 0 0) 0 [] rfl (z27 _ _ _ _) ⟨ac.heap.size,0,none⟩ 1 1 [.string F] rfl rfl aq' (by intro u hu;simp at hu;subst hu;rfl) (by unfold maxLen;omega) (by omega) (by have:=(d' z).bel.size;simp;omega) ?_;intro v' bH aJ aK _;have aL:=((z11 ac.heap.size ac).alloc (z13 _) (.cells #[.string F] 9)).trans (Y' (B:=ac.heap.size) aK (by simp) (fun g aq=>by cases aq));have H:=m' aJ;have aM:=m' aL;clear aJ aK aL);refine G' (fun G=>Zi p G w x J b c k e s qn F/\G.ownsRow p.heap.size 9 1 v' 1 (ao' [F])) ⟨(d' z).below (d' aM),by simpa[ao']using d' H⟩ ?_;clear aI z H aM;rintro bI ⟨aN,aO⟩;have aP:=m' aN;have aQ:=m' aO;clear aN aO;go_wp2;go_loopw[5] (fun v wr=>∃ (out:List z10) (f:Nat),1<=out.length/\n+out.length<=120/\x.commitFrom s qn n f out=bf/\120<=f+n+out.length/\wr.ownsRow p.heap.size 9 1 v out.length (ao' out)/\Zi p wr w x J b c k e s qn F) (fun v _=>120 - lenOf v)
 case atStart=>exact⟨[F],120,by simp,by simp;omega,(d' bg).symm,by simp;omega,d' aQ,d' aP⟩
 case round=>
  obtain⟨out,f,h1,h2,ad,bJ,Y,L⟩:=hrel;obtain⟨g,cap,bh⟩:=gG' Y (by omega);clear aP aQ;subst bh;have aa:=y' (i:=2) L.box;have ab:=y' (i:=3) L.box;have c5:=y' (i:=5) L.ref.blk;simp[az']at aa ab c5;have Z:=m' ad;have H:=m' Y;have bi:=m' (av' (vW' Y) L.box (by decide));by_cases M:n+out.length < 120
  ·have bj:(n:Int)+out.length < 120:=(by omega);have O:=eg' L.ref s (qn+out.length);rw[show((qn+out.length:Nat):Int)=(qn:Int)+out.length by omega]at O;obtain⟨bK,bL,au,_,_,av⟩:=L.ref.held.shape;have bk:=L.ref.hl;rw[au]at c5;have V:=m' av;have z:=m' L;have bM:=m' M;cases Q:x.ix s (qn+out.length)with
   |none=>rw[Q]at O;have ax:=m' O;have I:=m' (Mq.Sk.Vj (f:=f) M Q);clear ad Y L av O Q M au;go_wp2_with (go_at_call 213;refine(d' ax).mono ?_;rintro y w1 ⟨rfl,rfl⟩;simp only[Mq.ixInt]);go_ret;exact⟨_,out.length,rfl,by rw[<-d' Z,d' I];exact d' H,(d' z).bel⟩
   |some i=>
    rw[Q]at O;have ax:=m' O;have ah:i < x.held.length:=(by have:=(Mq.ixFrom_lt (show Mq.ixFrom s (qn+out.length) 0 x.held=some i from Q)).2;omega);obtain⟨g2,bl,aR,aS⟩:=(d' V) (show 0 < x.held.length from Nat.lt_of_le_of_lt (z54 _) ah);rw[aR]at c5;have bm:wr.cell? ⟨g2,bl+i * 3+2,none⟩=some (.string x.held[i].2.2):=(aS (i * 3+2) (by omega)).trans (dO' x.held i ah).2.2;obtain⟨ai,rfl⟩:∃ai,f=ai+1:=⟨f - 1,by omega⟩;have I:=m' (Mq.Sk.Vi (f:=ai) M Q);have aT:x.held.getD i (0,0,⟨#[]⟩)=x.held[i]:=(by rw[z17,z18 ah];rfl);rw[aT]at I;obtain⟨aj,aU⟩:=exq (x.held[i].2.2);rw[<-aU]at bm I;obtain⟨bn,aV⟩:=exq (x.held.length);rw[<-aV]at c5 bk ah;have bN:(i:Int) < bn:=(by omega);clear ad Y L av aS aR O Q M au aT aU V aV;go_wp2_with (first|(go_at_call 213;refine(d' ax).mono ?_;rintro y w1 ⟨rfl,rfl⟩;simp only[Mq.ixInt])|(at_builtin;refine z62 _ rfl (.tmp 62) (.tmp 71) 45 rfl p.heap.size 9 i0 (.string ⟨#[]⟩) 1 16 underlying45 hi aA aB aC rfl (by decide) (.slice (some ⟨g,0,none⟩) out.length cap) out.length (ao' out) rfl ((d' H).alloc _) ⟨w1.heap.size,0,none⟩ 1 1 [.string aj] rfl rfl aq' (by intro u hu;simp at hu;subst hu;rfl) (by unfold maxLen;omega) (by omega) (by have:=(d' z).bel.size;simp;omega) ?_;intro v9 aW ak aX _;rw[<-ux']at ak;obtain⟨bO,bP,bo⟩:=gG' ak (by omega);subst bo;have aY:=(fun g aq=>(z15 (d' H) g aq).1);have bp:=m' ak;have bq:=m' aX;have br:=m' aY;clear ak aX aY));go_roundw
    case rel=>have bt:=((z11 w1.heap.size w1).alloc (z13 _) (.cells #[.string aj] 9));have bu:Zi p aW w x J b c k e s qn F:=(by have ao:=(d' z).below bt;have hF:Far (fun k=>(Value.slice (some ⟨g,0,none⟩) out.length cap).ownBlock=some k) (w1.alloc (.cells #[.string aj] 9)) aW:=ba' (d' bq);have bQ:=(d' br) g rfl;have bR:=(d' z).bel.size;have aZ:=ao.bel;refine⟨aZ.trans (hF.below (by have:=aZ.size;exact this) (fun k hk e=>by injection e with e;change g=k at e;omega)),(hF.rest _ (z14 ao.box) (fun e=>by injection e with e;change g= _ at e;exact(d' bi) (congrArg some e))).trans ao.box,ao.ref.far hF (fun k hk e=>by injection e with e;change g=k at e;have:=(d' bd) k hk;omega)⟩);exact⟨out++[aj],ai,by simp,by simp;omega,by rw[<-d' I];exact d' Z,by simp;omega,by simpa using d' bp,bu⟩
    case measure=>simp[lenOf];omega
  ·have bj:¬ (n:Int)+out.length < 120:=(by omega);have I:=m' (Mq.Sk.Zk (a:=x) (st:=s) (q:=qn) (f:=f) M);have z:=m' L;clear ad Y L M;go_wp2;go_ret;first
    |exact⟨_,out.length,rfl,by rw[<-d' Z,d' I];exact d' H,(d' z).bel⟩
    |exact⟨_,rfl,⟨out.length,by rw[<-d' Z,d' I];exact d' H⟩,(d' z).bel⟩
    |exact⟨_,rfl,out.length,by rw[<-d' Z,d' I];exact d' H,(d' z).bel⟩
theorem pK':(prog.info? 281).map (fun i=>(i.zero,i.size,i.bytes))=some (some (.agg #[.int .i64 0, .int .i64 0, .string ⟨#[]⟩]),3,32):=by kernel_rfl
theorem fC' (l:List (Nat×Nat×z10)) (h:Nat×Nat×z10):aS' (l++[h])=aS' l++[.int .i64 (h.1:Int), .int .i64 (h.2.1:Int), .string h.2.2]:=by simp[aS']
def do' (w w':World) (p:Nat) (a':Mq.Sk) (r:am') (lv:Nat->Value) (z:Value):Prop:=
 ∃F G,Jp w' p a' r F G/\Far (SkU p lv z) w w'/\∀k,SkU p F G k->SkU p lv z k\/w.heap.size<=k
theorem Jp.Zs {w w1:World} {p:Nat} {a:Mq.Sk} {r:am'} {lv:Nat->Value} {z v':Value} {x:List (Nat×Nat×z10)} (R:Jp w p a r lv z) (G:Far (fun k=>z.ownBlock=some k) w w1)
  (hl:∀g,v'.ownBlock=some g->z.ownBlock=some g\/w.heap.size<=g) (O:Qi w1 281 3 v' x.length (aS' x)) (Q:x.length<=1000) (hb:∀h∈x,h.1 < 3/\h.2.1<=2147483647):
  (∃C,w1.heap[p]? =some (.cells C 132 (0,0))/\C[5]? =some z)/\do' w (w1.setCell ⟨p,5,none⟩ v') p {a with held:=x} r lv z:=by
 have J:z.ownBlock≠some p:=R.held.ne R.blk (by decide);have M:=G.blk R.blk J;have H:=Q' w1 p 5 v';refine⟨⟨_,M,rfl⟩,lv,v',⟨?_,?_,?_,R.apl,R.ep,R.ll,Q,hb⟩,?_,?_⟩
 ·have:=aa' (j:=5) (v:=v') M;rw[this];rfl
 ·intro s hs;exact((R.Qc s hs).far G (fun g F V=>(R.Qc s hs).ty R.held (by decide) F V)).far H (fun g F I=>(R.Qc s hs).ne R.blk (by decide) (by rw[F,I]))
 ·refine O.far H (fun g F I=>?_);rw[I]at F;exact(hl p F).elim J (fun h=>by have:=z14 R.blk;omega)
 ·exact(G.mono (E':=SkU p lv z) (fun k _ h=> .inr (.inr h))).trans H (fun k _ h=> .inl h)
 ·rintro k (rfl|⟨s,hs,hk⟩|hk)
  ·exact .inl (.inl rfl)
  ·exact .inl (.inr (.inl ⟨s,hs,hk⟩))
  ·exact(hl k hk).elim (fun h=> .inl (.inr (.inr h))) .inr
variable{cZ:List (Nat×Nat×z10)}
theorem pL' {f:Nat×Nat×z10->Bool} (h:w < cZ.length):(cZ.take (w+1)).filter f=(cZ.take w).filter f++(if f cZ[w]=true then [cZ[w]]else []):=by
 rw[z84 h,List.filter_append,List.filter_cons];split <;> simp
variable{q:Nat}
theorem bq' (h:p.ownsRow w j a c q t):Qi p j a c q t:=by
 obtain⟨h1,h2⟩:=h;refine⟨h1,?_⟩;rcases h2 with h2|⟨g,cap,z,rfl,_,F,hn,G,hs,H⟩
 ·exact .inl h2
 ·exact .inr ⟨g,0,cap,z,rfl,F,hn,G,by omega,by simpa using H⟩
theorem hH' (R:Jp p w x J b c) (st up:Nat):
  Calls prog 224 #[.pointer (some ⟨w,0,none⟩), .int .i64 st, .int .i64 up] p fun e w'=>e= .returned (.tuple #[])/\do' p w' w (x.forget st up) J b c:=by
 have c5:=y' (i:=5) R.blk;simp[az']at c5;obtain⟨aV,cap,O,h1,h2,h3⟩:=R.held.shape;rw[O]at c5;have hl:=R.hl;have ay:=z14 R.blk;have aj:=R.held.lt;rw[O]at aj;have az:=m' R;obtain⟨l,ak⟩:=exq (x.held);have aA:=m' ak;rw[<-ak]at c5 h1 h3 hl;obtain⟨i0,hi,aB,aC,aD⟩:=au' pK';have aK:=m' h3;have aL:=m' aj;have aE:=m' c5;clear R O h3 ak aj c5;go_enter func224,ntmps224;go_wp2;go_loopw[6,7] (fun v i wr=>∃ (k n:Nat),k<=l.length/\i= .int .i64 k/\n<=k/\n=((l.take k).filter (Mq.keeps st up)).length/\wr.ownsRow p.heap.size 281 3 v n (aS' ((l.take k).filter (Mq.keeps st up)))/\Below p.heap.size p wr) (fun _ i _=>l.length - (intOf i).toNat)
 case atStart=>exact⟨0,0,by omega,rfl,by omega,rfl,z27 _ _ _ _,z11 _ _⟩
 case round=>
  obtain⟨k,n,hk,rfl,aW,hn,H,hb⟩:=hrel;have c5:=(hb.cell (p:=⟨w,5,none⟩) ay).trans (d' aE);have V:=m' H;have z:=m' hb;have Y:=m' hn;clear hn;by_cases aF:k < l.length
  ·obtain⟨g,o,rfl,ac⟩:=(d' aK) (by omega);obtain⟨O,aG,aH⟩:=dO' l k aF;have F:=(d' aL) g rfl;have ao:=(hb.cell (p:=⟨g,o+k * 3,none⟩) F).trans ((ac (k * 3) (by omega)).trans O);have ad:wr.cell? ⟨g,o+k * 3+1,none⟩=some (.int .i64 (l[k].2.1:Int)):=(hb.cell (p:=⟨g,o+(k * 3+1),none⟩) F).trans ((ac (k * 3+1) (by omega)).trans aG);have ap:wr.cell? ⟨g,o+k * 3+2,none⟩=some (.string l[k].2.2):=(hb.cell (p:=⟨g,o+(k * 3+2),none⟩) F).trans ((ac (k * 3+2) (by omega)).trans aH);have aq:=m' (pL' (f:=Mq.keeps st up) aF);have ah:Hid (Mq.keeps st up l[k]=(!(decide (l[k].1=st)) ||decide (up < l[k].2.1))):=rfl;clear H hb ac O aG aH;generalize l[k]=aM at *;obtain⟨xs,G,Q⟩:=aM;simp only at ao ad ap ah;by_cases M:xs=st
   ·have aN:((xs:Int) != (st:Int))=false:=(by rw[M];simp);by_cases ai:(up:Int) < G
    ·have aX:=m' M;clear M;have I:=m' (show(List.filter (Mq.keeps st up) (List.take (k+1) l))=List.filter (Mq.keeps st up) (List.take k l)++[(xs,G,Q)] by rw[d' aq,if_pos (by rw[d' ah];simp;omega)]);go_upto_region 3 with (at_builtin;refine z62 _ rfl (.tmp 39) (.tmp 47) 130 rfl p.heap.size 281 i0 (.agg #[.int .i64 0, .int .i64 0, .string ⟨#[]⟩]) 3 32 underlying130 hi aB aC aD rfl (by decide) u6 n (aS' ((l.take k).filter (Mq.keeps st up))) rfl ((d' V).alloc _) ⟨wr.heap.size,0,none⟩ 1 1 [.int .i64 xs, .int .i64 G, .string Q] rfl rfl aq' (by intro u hu;simp at hu;rcases hu with rfl|rfl|rfl <;> rfl) (by unfold maxLen;omega) (by omega) (by have:=(d' z).size;simp;omega) ?_;intro v' w1 Z aa _;have ab:=((d' z).trans (((z11 _ _).alloc (z13 _) (.cells #[.int .i64 xs, .int .i64 G, .string Q] 281)).mono (d' z).size)).trans (Y' (B:=p.heap.size) aa (by have:=(d' z).size;simp;omega) (fun g F=>(z15 (d' V) g F).1));have au:=m' Z;have av:=m' ab;clear Z aa ab);clear c5 ao ad ap;go_wp2;go_roundw
     case rel=>exact⟨k+1,n+1,by omega,by go_num,by omega,by rw[d' I,z35,<-d' Y];rfl,by rw[d' I,fC'];exact d' au,d' av⟩
     case measure=>simp[intOf];omega
    ·have aY:¬ (up:Int) < G:=ai;have aO:Hid (xs=st/\¬up < G):=⟨M,by omega⟩;clear M;have I:=m' (show(List.filter (Mq.keeps st up) (List.take (k+1) l))=List.filter (Mq.keeps st up) (List.take k l) by rw[d' aq,if_neg (by rw[d' ah];have:=d' aO;simp[this.1];omega),List.append_nil]);go_wp2;go_roundw
     case rel=>exact⟨k+1,n,by omega,by go_num,by omega,by rw[d' I];exact d' Y,by rw[d' I];exact d' V,d' z⟩
     case measure=>simp[intOf];omega
   ·have aN:((xs:Int) != (st:Int))=true:=(by simp;omega);have aP:=m' M;clear M;have I:=m' (show(List.filter (Mq.keeps st up) (List.take (k+1) l))=List.filter (Mq.keeps st up) (List.take k l)++[(xs,G,Q)] by rw[d' aq,if_pos (by rw[d' ah];simp[d' aP])]);go_upto_region 3 with (at_builtin;refine z62 _ rfl (.tmp 39) (.tmp 47) 130 rfl p.heap.size 281 i0 (.agg #[.int .i64 0, .int .i64 0, .string ⟨#[]⟩]) 3 32 underlying130 hi aB aC aD rfl (by decide) u6 n (aS' ((l.take k).filter (Mq.keeps st up))) rfl ((d' V).alloc _) ⟨wr.heap.size,0,none⟩ 1 1 [.int .i64 xs, .int .i64 G, .string Q] rfl rfl aq' (by intro u hu;simp at hu;rcases hu with rfl|rfl|rfl <;> rfl) (by unfold maxLen;omega) (by omega) (by have:=(d' z).size;simp;omega) ?_;intro v' w1 Z aa _;have ab:=((d' z).trans (((z11 _ _).alloc (z13 _) (.cells #[.int .i64 xs, .int .i64 G, .string Q] 281)).mono (d' z).size)).trans (Y' (B:=p.heap.size) aa (by have:=(d' z).size;simp;omega) (fun g F=>(z15 (d' V) g F).1));have au:=m' Z;have av:=m' ab;clear Z aa ab);clear c5 ao ad ap;go_wp2;go_roundw
    case rel=>exact⟨k+1,n+1,by omega,by go_num,by omega,by rw[d' I,z35,<-d' Y];rfl,by rw[d' I,fC'];exact d' au,d' av⟩
    case measure=>simp[intOf];omega
  ·have aQ:l.length=k:=(by omega);rw[z46 (by omega)]at H Y;have aZ:=m' H;have ai:=m' ((d' az).Zs (C' hb) (v':=u6) (x:=l.filter (Mq.keeps st up)) (fun g F=> .inr (z15 H g F).1) (by have:=bq' H;rw[d' Y]at this;exact this) (by have:=List.length_filter_le (Mq.keeps st up) l;omega) (fun h aR=>(d' az).hb h (by rw[<-d' aA];exact(sk'.1 aR).1)));have aS:=(d' ai).1;obtain⟨C,ax,aI⟩:=aS;have ad:=(y' (i:=5) ax).trans aI;have f1:=H' (i:=5) ax;have c5:=(hb.cell (p:=⟨w,5,none⟩) ay).trans (d' aE);have aT:=(bq' H).shape;clear aQ H hb ax aI hk;obtain⟨ba,bb,aU,_⟩:=aT;subst aU;go_wp2;refine z77 (z65 rfl _ _ _) rfl ?_;refine⟨rfl,?_⟩;have aJ:=(d' ai).2;rw[d' aA]at aJ;exact aJ
theorem js' (R:Jp p w x J b c) (k e:Int) (s qn:Nat) (z:z10) (hs:s < 3):
  Calls prog 178 #[.pointer (some ⟨w,0,none⟩), .agg #[.int .i64 k, .int .i64 e, .int .i64 s, .int .i64 qn, .string z]] p fun G w'=>
   ∃v n,G= .returned v/\w'.ownsRow p.heap.size 9 1 v n (ao' (x.Qp k e s qn z))/\Below p.heap.size p w':=by
 have H:∀ {G:Ending} {w':World},x.Qp k e s qn z=[]->G= .returned (.slice none 0 0)/\Below p.heap.size p w'->∃v n,G= .returned v/\w'.ownsRow p.heap.size 9 1 v n (ao' (x.Qp k e s qn z))/\Below p.heap.size p w':=by rintro G w' h ⟨rfl,hb⟩;rw[h];exact⟨_,0,rfl,z27 _ _ _ _,hb⟩
 by_cases hk:k=3
 ·by_cases F:e=x.Qa
  ·by_cases I:qn=(x.Qc s).length+1
   ·have h1:¬ (k≠3\/e≠x.Qa\/(qn:Int)≠(x.Qc (s:Int).toNat).length+1):=(by simp[hk,F,I]);by_cases h2:120<=x.count
    ·exact(hG' R k e s qn z hk F hs I h2).mono fun _ _ h=>H (by rw[Mq.Sk.Qp,if_neg h1,if_pos h2]) h
    ·have h3:x.Qp k e s qn z=x.commitFrom s qn x.count 120 [z]:=(by rw[Mq.Sk.Qp,if_neg h1,if_neg h2];rfl);rw[h3];exact oi' R k e s qn z hk F hs I (by omega)
   ·exact(jr' R k e s qn z hk F hs I).mono fun _ _ h=>H (by rw[Mq.Sk.Qp,if_pos];right;right;simp;omega) h
  ·exact(jq' R k e s qn z hk F).mono fun _ _ h=>H (by rw[Mq.Sk.Qp,if_pos];exact .inr (.inl F)) h
 ·exact(jp' R k e s qn z hk).mono fun _ _ h=>H (by rw[Mq.Sk.Qp,if_pos];exact .inl hk) h
theorem eH':∀ {f:Nat} {out:List z10},out≠ []->x.commitFrom w a q f out≠ []
 |0,_,h=>h
 |f+1,out,h=>by
  rw[Mq.Sk.commitFrom];split
  ·split
   ·exact h
   ·exact eH' (by simp)
  ·exact h
theorem fD':∀ {f:Nat} {out:List z10},q+out.length<=120->q+(x.commitFrom w a q f out).length<=120
 |0,_,h=>h
 |f+1,out,h=>by
  rw[Mq.Sk.commitFrom];split
  ·split
   ·exact h
   ·exact fD' (by simp;omega)
  ·exact h
theorem pM' (R:Jp p w x J b c) (k e:Int) (s qn:Nat) (z:z10) (hs:s < 3) (hn:x.Qp k e s qn z=[]):
  Calls prog 178 #[.pointer (some ⟨w,0,none⟩), .agg #[.int .i64 k, .int .i64 e, .int .i64 s, .int .i64 qn, .string z]] p fun H w'=>H= .returned (.slice none 0 0)/\Below p.heap.size p w':=by
 by_cases hk:k=3
 ·by_cases F:e=x.Qa
  ·by_cases G:qn=(x.Qc s).length+1
   ·have h1:¬ (k≠3\/e≠x.Qa\/(qn:Int)≠(x.Qc (s:Int).toNat).length+1):=(by simp[hk,F,G]);by_cases h2:120<=x.count
    ·exact hG' R k e s qn z hk F hs G h2
    ·rw[Mq.Sk.Qp,if_neg h1,if_neg h2]at hn;exact(eH' (by simp) hn).elim
   ·exact jr' R k e s qn z hk F hs G
  ·exact jq' R k e s qn z hk F
 ·exact jp' R k e s qn z hk
theorem hI' (k e:Int) (s qn:Nat) (b:z10) (h:x.count<=120):x.count+(x.Qp k e s qn b).length<=120:=by
 rw[Mq.Sk.Qp];split
 ·simpa using h
 ·split
  ·simpa using h
  ·exact fD' (by simp;omega)
theorem jt' (a:Mq.Sk) (r:am') (lv:Nat->Value) (z:Value) (s:Nat) (hs:s < 3) (v:Value) (x:List z10):
  (az' a r lv z).setIfInBounds (2+s) v=az' {a with Qc:=fun t=>if t=s then x else a.Qc t} r (jN' lv s v) z:=by
 obtain rfl|rfl|rfl:s=0\/s=1\/s=2:=by omega
 all_goals rfl
theorem Jp.logStep {w w1:World} {p:Nat} {a:Mq.Sk} {r:am'} {lv:Nat->Value} {H:Value} (R:Jp w p a r lv H) (s:Nat) (hs:s < 3) {v':Value} {x:List z10} (J:Far (fun k=>(lv s).ownBlock=some k) w w1)
  (hl:∀g,v'.ownBlock=some g->(lv s).ownBlock=some g\/w.heap.size<=g) (ac:Qi w1 9 1 v' x.length (ao' x)) (ad:Mq.Sk.count {a with Qc:=fun t=>if t=s then x else a.Qc t}<=120):
  (∃C,w1.heap[p]? =some (.cells C 132 (0,0))/\C[2+s]? =some (lv s))/\do' w (w1.setCell ⟨p,2+s,none⟩ v') p {a with Qc:=fun t=>if t=s then x else a.Qc t} r lv H:=by
 have V:∀t,t < 3->(lv t).ownBlock≠some p:=fun t F=>(R.Qc t F).ne R.blk (by decide);have ah:H.ownBlock≠some p:=R.held.ne R.blk (by decide);have aa:=J.blk R.blk (V s hs);have Y:∀k,k < w.heap.size->v'.ownBlock=some k->(lv s).ownBlock=some k:=fun k hk e=>(hl k e).elim id (fun h=>by omega);have M:=Q' w1 p (2+s) v';refine⟨⟨_,aa,?_⟩,jN' lv s v',H,⟨?_,?_,?_,?_,R.ep,ad,R.hl,R.hb⟩,?_,?_⟩
 ·obtain rfl|rfl|rfl:s=0\/s=1\/s=2:=by omega
  all_goals rfl
 ·rw[<-jt' a r lv H s hs];exact aa' aa
 ·intro t F;by_cases G:t=s
  ·subst G;rw[bf'];simp only[if_true];refine ac.far M (fun g z I=>?_);rw[I]at z;exact V t hs (Y p (z14 R.blk) z)
  ·rw[aB' _ _ G];simp only[if_neg G];exact((R.Qc t F).far J (fun g z Z=>R.apl t s F hs G g z Z)).far M (fun g z I=>V t F (by rw[z,I]))
 ·exact(R.held.far J (fun g z Z=>R.held.ty (R.Qc s hs) (by decide) z Z)).far M (fun g z I=>ah (by rw[z,I]))
 ·intro t u F hu O g z;by_cases G:t=s
  ·subst G;rw[bf']at z;rw[aB' _ _ (fun e=>O e.symm)];intro Q;have ai:=(R.Qc u hu).lt g Q;exact R.apl t u F hu O g (Y g ai z) Q
  ·rw[aB' _ _ G]at z;by_cases ab:u=s
   ·subst ab;rw[bf'];intro Q;exact R.apl t u F hu O g z (Y g ((R.Qc t F).lt g z) Q)
   ·rw[aB' _ _ ab];exact R.apl t u F hu O g z
 ·exact(J.mono (E':=SkU p lv H) (fun k _ h=> .inr (.inl ⟨s,hs,h⟩))).trans M (fun k _ h=> .inl h)
 ·rintro k (rfl|⟨t,F,hk⟩|hk)
  ·exact .inl (.inl rfl)
  ·by_cases G:t=s
   ·subst G;rw[bf']at hk;rcases hl k hk with h|h
    ·exact .inl (.inr (.inl ⟨t,F,h⟩))
    ·exact .inr h
   ·rw[aB' _ _ G]at hk;exact .inl (.inr (.inl ⟨t,F,hk⟩))
  ·exact .inl (.inr (.inr hk))
variable{B:Array Oper}{N:Oper}{I:Act}{Z:Exit -> Act -> World -> Prop}{bX:Prop}
theorem jO' {K:Act->World->Prop} (F:N.guard=none) (s x:Operand) (t:TypeId) (G:N.op= .call {callee:= .builtin .append,args:= #[s,x],argTypes:= #[t,t]})
  (e:TypeId) (i:TypeInfo) (size:Nat) (z:prog.underlying t=some (.slice e)) (hi:prog.info? e=some i)
  (v:Value) (n:Nat) (xs:List Value) (H:Qi p e size v n xs) (hs:I.eval s=v) (J:I.eval x= .slice none 0 0)
  (h:K (I.put N.dst v) p):if Region.wanted N (yielded B I.tmps)=true then N.wp prog I p K Z else bX:=by
 rw[if_pos (by simp[Region.wanted,F])];have M:(Builtin.append_ #[t,t] N.type #[v, .slice none 0 0]).run prog p= .ok v p:=by
  rcases H.2 with ⟨rfl,rfl⟩|⟨g,Q,cap,V,rfl,_,O,_⟩
  ·simp[Builtin.append_,run_underlying z,sizeOf,typeInfo,hi,Builtin.lenOf,Builtin.firstCells]
  ·simp[Builtin.append_,run_underlying z,sizeOf,typeInfo,hi,Builtin.lenOf,Builtin.firstCells,O,storeCells]
 unfold Oper.wp;simp[execOp,G,resolve,invoke,builtin,hs,J,M,Result.andThen];exact h
theorem cK' {K:Act->World->Prop} {w:World} (H:N.guard=none) (s x:Operand) (t:TypeId) (J:N.op= .call {callee:= .builtin .append,args:= #[s,x],argTypes:= #[t,t]})
  (e:TypeId) (F:Value) (size bytes:Nat) (M:prog.underlying t=some (.slice e)) (O:(prog.info? e).map (fun i=>(i.zero,i.size,i.bytes))=some (some F,size,bytes)) (Q:F.cells.size=size)
  (v:Value) (n:Nat) (xs:List Value) (V:Qi w e size v n xs) (hs:I.eval s=v) (G:Addr) (m c:Nat) (z:List Value) (Y:I.eval x= .slice (some G) m c) (hl:z.length=m * size) (aa:∀j u,z[j]? =some u->w.cell? (G.add j)=some u)
  (h1:∀u∈z,u.oneCell'=true) (ab:0 < m) (hb:(n+m) * bytes<=140737488355328) (ac:n+m<=140737488355328)
  (h:∀v' w',Qi w' e size v' (n+m) (xs++z)->App w w' v v'->K (I.put N.dst v') w'):if Region.wanted N (yielded B I.tmps)=true then N.wp prog I w K Z else bX:=by
 rw[if_pos (by simp[Region.wanted,H])];obtain⟨i0,hi,ad,ah,ai⟩:=au' O;obtain⟨v',w',aj,h2,h3⟩:=hE' (P:=prog) w t N.type e i0 F size bytes M hi ad ah ai Q v n xs V G m c z hl aa h1 ab hb ac;unfold Oper.wp execOp;simp only[J,resolve,invoke,builtin,Sem.run_bind,Sem.run_pure,Result.andThen_ok,List.map_toArray,List.map_cons,List.map_nil,hs,Y,aj];exact h v' w' h2 h3
variable{cR:Addr}{f:Value}
theorem vX' (h:p.cell? cR=some f):(p.setCell cR c).drew.cell? cR=some c:=by
 have:=un' p cR c h;exact this
structure Zn (w:World) (p:Nat) (lv0:Nat->Value) (hv0:Value) (r:am') (k e st q:Int) (b:z10) (a:Mq.Sk) (lv:Nat->Value) (hv:Value) (x:World):Prop where
 far:Far (SkU p lv0 hv0) w x
 box:x.heap[w.heap.size]? =some (.cells #[.int .i64 k, .int .i64 e, .int .i64 st, .int .i64 q, .string b] 41 (0,0))
 ref:Jp x p a r lv hv
 loc:∀k,SkU p lv hv k->SkU p lv0 hv0 k\/w.heap.size < k
 old:∀k,SkU p lv0 hv0 k->k < w.heap.size
variable{u:World}{M X aI aM:Int}{o:z10}
theorem ke' (h:Zi p u w x J b c M X aI aM o) (z:∀M,SkU w b c M->M < p.heap.size):Zn p w b c J M X aI aM o x b c u:=
 ⟨C' h.bel,h.box,h.ref,fun _ h=> .inl h,z⟩
theorem Zn.below {w x y:World} {p:Nat} {z:Nat->Value} {F:Value} {r:am'} {k e st q:Int} {b:z10} {a:Mq.Sk} {lv:Nat->Value} {G:Value} (h:Zn w p z F r k e st q b a lv G x) (hb:Below x.heap.size x y):Zn w p z F r k e st q b a lv G y:=
 ⟨h.far.trans (C' (E:=fun _=>False) hb) (fun _ _ h=>h.elim),(hb.block _ (z14 h.box)).trans h.box,h.ref.far (C' (E:=fun _=>False) hb) (fun _ _ h=>h),h.loc,h.old⟩
theorem Zn.drew {w x:World} {p:Nat} {z:Nat->Value} {F:Value} {r:am'} {k e st q:Int} {b:z10} {a:Mq.Sk} {lv:Nat->Value} {G:Value} (h:Zn w p z F r k e st q b a lv G x) (n:Nat):Zn w p z F r k e st q b a lv G (x.drewN n):=
 h.below (z41 (z11 _ _) n)
theorem Zn.step {w x y:World} {p:Nat} {G:Nat->Value} {H:Value} {r:am'} {k e st q:Int} {b:z10} {a a2:Mq.Sk} {lv:Nat->Value} {I:Value} (h:Zn w p G H r k e st q b a lv I x) (hs:do' x y p a2 r lv I):
  ∃z F,Zn w p G H r k e st q b a2 z F y:=by
 obtain⟨z,F,h1,h2,h3⟩:=hs;have M:=z14 h.box;refine⟨z,F,h.far.trans h2 (fun j hj hu=>(h.loc j hu).elim id (fun h=>by omega)),(h2.rest _ M (fun hu=>?_)).trans h.box,h1,fun j hj=>(h3 j hj).elim (fun hu=>h.loc j hu) (fun h=> .inr (by omega)),h.old⟩;rcases h.loc _ hu with J|J
 ·exact absurd (h.old _ J) (by omega)
 ·omega
variable{z:Nat -> Value}
theorem Zn.done (h:Zn p w b c J M X aI aM o x z f u):do' p u w x J b c:=
 ⟨z,f,h.ref,h.far,fun j hj=>(h.loc j hj).elim .inl (fun h=> .inr (by omega))⟩
def bl' (a:Mq.Sk) (s up:Nat):Nat->Nat
 |0=>0
 |i+1=>bl' a s up i+(if(a.ix s (up+2+i)).isSome then 2 ^ i else 0)
theorem kD' (a:Mq.Sk) (s up:Nat):bl' a s up 3<=7:=by
 simp only[bl'];split <;> split <;> split <;> omega
theorem kE' (a:Mq.Sk) (s up:Nat):∀j,bl' a s up j < 2 ^ j
 |0=>by simp[bl']
 |j+1=>by have:=kE' a s up j;rw[bl',Nat.pow_succ];split <;> omega
def Jj (a:Mq.Sk) (s up:Nat):z10:=⟨#[UInt8.ofNat (bl' a s up 3)]⟩
theorem kF' {a:Mq.Sk} {s up:Nat} (I:a.Qa<=2147483647) (hs:s < 3) (hu:up<=2147483647):Qb.proper 4 a.Qa s up (Jj a s up)=true:=by
 have J:=kD' a s up;have z:Qb.isNum (a.Qa:Int)=true:=by simp[Qb.isNum];omega
 have F:Qb.isNum (up:Int)=true:=by simp[Qb.isNum];omega
 have G:Qb.isStr (s:Int)=true:=by simp[Qb.isStr];omega
 have H:Qb.Jj (Jj a s up)=true:=by
  have:(UInt8.ofNat (bl' a s up 3)).toNat=bl' a s up 3:=by simp[UInt8.toNat_ofNat'];omega
  simp[Qb.Jj,Jj,this,ByteArray.size];omega
 simp[Qb.proper,z,F,G,H]
theorem nm' (a:Mq.Sk) (s:Nat):({a with Qc:=fun t=>if t=s then a.Qc s else a.Qc t}:Mq.Sk)=a:=by
 have:(fun t=>if t=s then a.Qc s else a.Qc t)=a.Qc:=by funext t;by_cases h:t=s <;> simp[h]
 rw[this]
def bn' (a:Mq.Sk) (s q:Nat) (b:z10):Mq.Sk:=
 if(a.Qc s).length+2<=q/\q<=(a.Qc s).length+4/\a.ix s q=none then {a with held:=a.held++[(s,q,b)]}else a
theorem dP' (a:Mq.Sk) (s q:Nat) (b:z10):(bn' a s q b).Qa=a.Qa:=by
 unfold bn';split <;> rfl
theorem jP' (l:List (Nat×Nat×z10)) (s q:Nat) (b:z10):aS' (l++[(s,q,b)])=aS' l++[.int .i64 s, .int .i64 q, .string b]:=by simp[aS']
def grown (a:Mq.Sk) (s:Nat) (z:List z10):Mq.Sk:={a with Qc:=fun t=>if t=s then a.Qc s++z else a.Qc t}
theorem eu' (a:Mq.Sk) (s:Nat) (hs:s < 3) (z:List z10):(grown a s z).count=a.count+z.length:=by
 obtain rfl|rfl|rfl:s=0\/s=1\/s=2:=by omega
 all_goals
  simp[grown,Mq.Sk.count];omega
def bL' (a:Mq.Sk) (s:Nat) (z:List z10):Mq.Sk:=(grown a s z).forget s (a.Qc s++z).length
theorem oj' (a:Mq.Sk) (s:Nat) (z:List z10):(bL' a s z).Qa=a.Qa:=rfl
theorem vY' (l m:List z10):ao' (l++m)=ao' l++ao' m:=by simp[ao']
theorem vZ' (l:List z10):∀u∈ao' l,u.oneCell'=true:=by
 intro u hu;simp[ao']at hu;obtain⟨_,_,rfl⟩:=hu;rfl
theorem xW' {B g n cap:Nat} {w:World} {xs:List Value} (h:w.ownsRow B 9 1 (.slice (some ⟨g,0,none⟩) n cap) n xs):∀j u,xs[j]? =some u->w.cell? ((⟨g,0,none⟩:Addr).add j)=some u:=by
 intro j u hj;have z:j < n * 1:=by have:=(z28.1 hj).1;rw[h.1]at this;exact this
 have:=z59 h j z;rw[hj]at this;simp only[Addr.add];split
 ·rename_i h0;subst h0;exact this
 ·simpa using this
theorem ju' (R:Jp p w x J b c) (k e:Int) (s qn:Nat) (z:z10) (hs:s < 3) (bK:qn<=2147483647) (aQ:x.held.length < 1000) (a3:Mq.Sk) (up:Nat)
  (aB:(x.Qp k e s qn z=[]/\a3=bn' x s qn z/\up=(x.Qc s).length)\/∃G,x.Qp k e s qn z=G/\G≠ []/\a3=bL' x s G/\up=(x.Qc s++G).length):
  Calls prog 214 #[.pointer (some ⟨w,0,none⟩), .agg #[.int .i64 k, .int .i64 e, .int .i64 s, .int .i64 qn, .string z]] p fun H w'=>
   H= .returned (.string ⟨(Qb.bytes 4 x.Qa s up (Jj a3 s up).data.toList).toArray⟩)/\do' p w' w a3 J b c:=by
 have bL:=m' aQ;have bM:Hid (a3.Qa=x.Qa):=by
  rcases aB with ⟨_,rfl,_⟩|⟨G,_,_,rfl,_⟩
  ·exact dP' x s qn z
  ·exact oj' x s G
 clear aQ;rcases aB with ⟨hn,h3,Y⟩|⟨G,ao,bz,h3,Y⟩
 case' inl=>
  have aY:=m' h3;have aZ:=m' Y;clear h3 Y;have aC:=m' (bS' R k e s qn z);have ba:=m' R.lt;have bN:(s:Int) < 3:=by omega
  have aD:=R.len s hs;obtain⟨i0,hi,_,_,_⟩:=au' bQ';have aR:=m' hn;clear R hn;go_enter func214,ntmps214;go_upto_region 2 with fail;refine G' (fun H=>Zi p H w x J b c k e s qn z) (d' aC) ?_;clear aC;intro H L;obtain⟨ay,ah,aE,Z,aj⟩:=dK' L.box;simp at ay ah aE Z aj;have az:=m' (pM' L.ref k e s qn z hs (d' aR));have aF:=m' L;clear L;go_upto_region 3 with (go_at_call 178;refine(d' az).mono ?_;rintro y w1 ⟨rfl,ap⟩;have aG:=(d' aF).below ap;have O:=m' aG;clear ap aG);clear ay ah aE Z aj aF az;have Q:=gz' (d' O).ref s hs;obtain⟨aH,aI,ai,_⟩:=((d' O).ref.Qc s hs).shape;have aq:=(d' O).ref.logStep s hs (w1:=w1) (v':=b s) (x:=x.Qc s) (Far.refl _ _) (fun g ao=> .inl ao) ((d' O).ref.Qc s hs) (by rw[nm'];exact(d' O).ref.ll);rw[nm']at aq;have bb:=m' ((ke' (d' O) (d' ba)).step aq.2);have f1:=H' (i:=2+s) (d' O).ref.blk;have aa:=m' ((d' O).ref.Qc s hs);rw[ai]at Q bb aa;have bO:=m' Q;clear aq ai O;go_region_held3 (fun w'=>w'.cell? ⟨w,2+s,none⟩=some (.slice aH (x.Qc s).length aI))
   (first|exact vX' (d' bO)|go_keep)
   ((refine jO' rfl (.tmp 25) (.tmp 26) 45 rfl 9 i0 1 underlying45 hi (.slice aH (x.Qc s).length aI) (x.Qc s).length (ao' (x.Qc s)) (d' aa) rfl rfl ?_))
  go_upto_region 4 with fail
  refine G' (fun H=>∃I M,Zn p w b c J k e s qn z x I M H) (by obtain⟨_,_,T⟩:=d' bb;exact⟨_,_,T.below (z11 _ _).drew⟩) ?_;clear bb aa Q f1;rintro bP ⟨bQ,bR,T⟩;have Q:=gz' T.ref s hs;obtain⟨aH,aI,ai,_⟩:=(T.ref.Qc s hs).shape;rw[ai]at Q;have Y:=d' aZ;rw[<-Y]at Q aD;have Z:=y' (i:=3) T.box;have aj:=y' (i:=4) T.box;simp at Z aj;have bc:=m' Y;have F:=m' T;clear T ai;clear Y;go_upto_region 8 with (first|(go_at_call 213;(first|(refine(eg' (d' F).ref s qn).mono ?_)|(refine(eg' ((d' F).drew _).ref s qn).mono ?_));rintro y ac ⟨rfl,rfl⟩));have bd:Hid (bn' x s qn z=if up+2<=qn/\qn<=up+4/\x.ix s qn=none then {x with held:=x.held++[(s,qn,z)]}else x):=by rw[d' bc];rfl
  have aS:Hid (Mq.ixInt (x.ix s qn) < 0↔x.ix s qn=none):=by
   cases x.ix s qn with
   |none=>simp[Mq.ixInt,Hid]
   |some i=>simp[Mq.ixInt,Hid]
  obtain⟨be,aJ⟩:=exq (Mq.ixInt (x.ix s qn));rw[<-aJ]at aS ⊢;clear aJ;rcases(by omega:¬2<=(qn:Int) - up\/2<=(qn:Int) - up/\¬ (qn:Int) - up<=4\/2<=(qn:Int) - up/\(qn:Int) - up<=4/\¬be < 0\/2<=(qn:Int) - up/\(qn:Int) - up<=4/\be < 0)with h1|⟨h1,h2⟩|⟨h1,h2,h3⟩|⟨cm,cn,bS⟩
  case' inr.inr.inr=>
   have aT:=m' (show bn' x s qn z={x with held:=x.held++[(s,qn,z)]} by rw[d' bd,if_pos ⟨by omega,by omega,(d' aS).1 bS⟩]);have aa:=m' (d' F).ref.held;obtain⟨bA,aB,aU,_⟩:=(d' F).ref.held.shape;have c5:=y' (i:=5) (d' F).ref.blk;have f5:=H' (i:=5) (d' F).ref.blk;simp[az']at c5;have ad:=m' (d' F).ref.hb;obtain⟨aV,aK⟩:=exq (x.held.length);have aL:=m' aK;rw[aU,<-aK]at c5;rw[aU,<-aK]at aa;have aQ:=d' bL;rw[<-aK]at aQ;have bT:(ac.alloc (.cells #[.int .i64 s, .int .i64 qn, .string z] 281)).cell? ⟨w,5,none⟩=some (.slice bA aV aB):=(((z11 _ _).alloc (z13 _) _).cell (p:=⟨w,5,none⟩) (z14 (d' F).ref.blk)).trans c5;have bf:=m' aU;clear aU aK;go_upto_region 10 with fail;go_region_law (refine cK' rfl (.tmp 73) (.tmp 80) 130 rfl 281 _ 3 32 underlying130 pK' rfl (.slice bA aV aB) aV (aS' x.held) ((d' aa).keep (fun g ao=>z25 ac _ g ((d' aa).lt g ao))) rfl ⟨ac.heap.size,0,none⟩ 1 1 [.int .i64 s, .int .i64 qn, .string z] rfl rfl aq' (by intro u hu;simp at hu;rcases hu with rfl|rfl|rfl <;> rfl) (by omega) (by omega) (by omega) ?_;intro v' w1 ab au;rw[<-jP']at ab;have aq:=(d' F).ref.Zs (x:=x.held++[(s,qn,z)]) (by have:=dN' (w:=ac) (by first|exact(z11 _ _).alloc (z13 _) _|exact((z11 _ _).alloc (z13 _) _).drew|exact((z11 _ _).alloc (z13 _) _).drew.drew|exact(z11 _ _).drew.alloc (z13 _) _) au;rw[d' aL,<-d' bf]at this;exact this) (by have:=gg' (w:=ac) (by first|exact(z11 _ _).alloc (z13 _) _|exact((z11 _ _).alloc (z13 _) _).drew|exact((z11 _ _).alloc (z13 _) _).drew.drew|exact(z11 _ _).drew.alloc (z13 _) _) au;rw[d' aL,<-d' bf]at this;exact this) (by rw[d' aL]at ab;simpa using ab) (by have:=d' aL;simp;omega) (by intro h aA;simp at aA;rcases aA with aA|aA;exact(d' ad) h aA;subst aA;exact⟨hs,bK⟩);obtain⟨⟨C,av,aM⟩,hst⟩:=aq;have ah:=(y' (i:=5) av).trans aM;have f1:=H' (i:=5) av;obtain⟨bg,bh,bi,_⟩:=ab.shape;have aN:=m' hst;clear au hst av aM ab;subst bi);all_goals
    have V:Hid (∃I M,Zn p w b c J k e s qn z (bn' x s qn z) I M (w1.setCell ⟨w,5,none⟩ (.slice bg (aV+1) bh))):=(by rw[d' aT];exact(d' F).step (d' aN));clear aN aa ad bf aL F c5 bT f5 ah f1
  all_goals first
   |(have aT:=m' (show bn' x s qn z=x by rw[d' bd,if_neg (fun h=>by have:=(d' aS).2 h.2.2;omega)])
     have V:Hid (∃I M,Zn p w b c J k e s qn z (bn' x s qn z) I M ac):=(by rw[d' aT];exact⟨_,_,d' F⟩);clear F)
   |skip
  all_goals rw[<-d' aY]at V
 case' inr=>
  have aY:=m' h3;have aZ:=m' Y;clear h3 Y;have aC:=m' (bS' R k e s qn z);have ba:=m' R.lt;have bN:(s:Int) < 3:=by omega
  have aD:=R.len s hs;have bB:x.count+G.length<=120:=by rw[<-ao];exact hI' k e s qn z R.ll
  have bU:=m' (show(grown x s G).count<=120 by rw[eu' x s hs];exact bB);have bj:0 < G.length:=List.length_pos_iff.2 bz;have bV:G.length<=120:=by omega
  clear R bz bB;go_enter func214,ntmps214;go_upto_region 2 with fail;refine G' (fun H=>Zi p H w x J b c k e s qn z) (d' aC) ?_;clear aC;intro H L;obtain⟨ay,ah,aE,Z,aj⟩:=dK' L.box;simp at ay ah aE Z aj;have az:=m' (js' L.ref k e s qn z hs);rw[ao]at az;clear ao;have aF:=m' L;clear L;go_upto_region 3 with (go_at_call 178;refine(d' az).mono ?_;rintro y w1 ⟨v1,n1,rfl,aW,ap⟩;have bW:n1=G.length:=(by have:=aW.1;simp[ao']at this;omega);subst bW;obtain⟨g1,bX,bY⟩:=gG' aW bj;subst bY;have aG:=(d' aF).below ap;have O:=m' aG;have bk:=m' aW;clear ap aG aW);clear ay ah aE Z aj aF az;have Q:=gz' (d' O).ref s hs;obtain⟨aH,aI,ai,_⟩:=((d' O).ref.Qc s hs).shape;have aa:=m' ((d' O).ref.Qc s hs);have bl:=m' ai;rw[ai]at Q aa;obtain⟨n0,bm⟩:=exq ((x.Qc s).length);have bn:=m' bm;rw[<-bm]at Q aa aD;obtain⟨n,hn⟩:=exq (G.length);have aR:=m' hn;rw[<-hn]at bk bj bV ⊢;clear ai bm hn;go_upto_region 3 with fail;go_region_law (refine cK' rfl (.tmp 25) (.tmp 26) 45 rfl 9 _ 1 16 underlying45 bQ' rfl (.slice aH n0 aI) n0 (ao' (x.Qc s)) (d' aa) rfl ⟨g1,0,none⟩ n bX (ao' G) rfl (by rw[d' aR];simp[ao']) (xW' (d' bk)) (vZ' G) bj (by omega) (by omega) ?_;intro v' bZ ab au;rw[<-vY']at ab;have aq:=(d' O).ref.logStep s hs (x:=x.Qc s++G) (by have:=dN' (w:=w1) (by first|exact z11 _ _|exact(z11 _ _).drew) au;rw[d' bn,<-d' bl]at this;exact this) (by have:=gg' (w:=w1) (by first|exact z11 _ _|exact(z11 _ _).drew) au;rw[d' bn,<-d' bl]at this;exact this) (by rw[d' bn,d' aR,<-z35]at ab;exact ab) (d' bU);obtain⟨⟨C,av,aM⟩,hst⟩:=aq;have ah:=(y' (i:=2+s) av).trans aM;have f1:=H' (i:=2+s) av;obtain⟨bg,bh,bi,_⟩:=ab.shape;have aN:=m' hst;clear au hst av aM ab;subst bi);all_goals
   have V:Hid (∃I M,Zn p w b c J k e s qn z (grown x s G) I M (bZ.setCell ⟨w,2+s,none⟩ (.slice bg (n0+n) bh))):=(ke' (d' O) (d' ba)).step (d' aN);clear aN aa bl bk O Q ah f1;go_upto_region 4 with fail;refine G' (fun H=>∃I M,Zn p w b c J k e s qn z (grown x s G) I M H) (by first|exact d' V|(obtain⟨_,_,T⟩:=d' V;exact⟨_,_,T.drew _⟩)|(obtain⟨_,_,T⟩:=d' V;exact⟨_,_,T.below (z11 _ _).drew⟩)) ?_;clear V;rintro bP ⟨bQ,bR,T⟩;have Q:=gz' T.ref s hs;obtain⟨cp,cq,bC,_⟩:=(T.ref.Qc s hs).shape;rw[bC]at Q;have bD:((grown x s G).Qc s).length=(x.Qc s++G).length:=(by simp[grown]);have bo:=T.ref.len s hs;rw[bD]at Q bo;have Y:=d' aZ;rw[<-Y]at Q bo;have bc:=m' Y;have Z:=y' (i:=3) T.box;simp at Z;have F:=m' T;have bE:=m' (hH' T.ref s up);clear T bC bD Y aD;have aD:up<=120:=bo;go_upto_region 7 with (go_at_call 224;(first|(refine(d' bE).mono ?_)|(refine(hH' ((d' F).drew _).ref s up).mono ?_));rintro y ca ⟨rfl,hst⟩;have bF:=m' hst;clear hst);have V:Hid (∃I M,Zn p w b c J k e s qn z (bL' x s G) I M ca):=(by have:=(d' F).step (d' bF);rw[d' bc]at this;exact this);clear bF F bE Z Q;go_upto_region 7 with fail;refine G' (fun H=>∃I M,Zn p w b c J k e s qn z (bL' x s G) I M H) (by first|exact d' V|(obtain⟨_,_,T⟩:=d' V;exact⟨_,_,T.drew _⟩)) ?_;clear V;rintro cb ⟨bG,bH,ak⟩;rw[<-d' aY]at ak;have Z:=y' (i:=3) ak.box;simp at Z;have bI:=m' (eg' ak.ref s qn);have aO:=m' ak;clear ak;have cr:((n:Int) ==0)=false:=(by simp;omega);have cs:¬ (n:Int)=0:=(by omega);go_upto_region 8 with (go_at_call 213;refine(d' bI).mono ?_;rintro y ac ⟨rfl,rfl⟩);obtain⟨be,aJ⟩:=exq (Mq.ixInt (a3.ix s qn));rw[<-aJ];clear aJ bI;have V:Hid (∃I M,Zn p w b c J k e s qn z a3 I M ac):=⟨_,_,d' aO⟩;clear aO
 all_goals
  go_upto_region 11 with fail
  refine G' (fun H=>∃I M,Zn p w b c J k e s qn z a3 I M H) (by first|exact d' V|(obtain⟨_,_,T⟩:=d' V;exact⟨_,_,T.drew _⟩)) ?_;clear V;try clear aT bd aS Q aj
  try clear Z
  rintro cb ⟨bG,bH,ak⟩;have aO:=m' ak;clear ak;go_wp2;go_loopw[10,11] (fun v i wr=>∃j:Nat,j<=3/\i= .int .i64 j/\v= .int .i64 (bl' a3 s up j:Nat)/\Zn p w b c J k e s qn z a3 bG bH wr) (fun _ i _=>3 - (intOf i).toNat)
  case atStart=>exact⟨0,by omega,rfl,rfl,d' aO⟩
  case round=>
   obtain⟨j,hj,rfl,rfl,T⟩:=hrel;clear aO;by_cases cu:j < 3
   ·have ax:=eg' T.ref s (up+2+j);rw[show((up+2+j:Nat):Int)=(up:Int)+2+j by omega]at ax;have F:=m' T;clear T;have ad:=m' (show bl' a3 s up (j+1)=bl' a3 s up j+(if(a3.ix s (up+2+j)).isSome then 2 ^ j else 0) from rfl);have cc:bl' a3 s up j < 8:=(by have:=kE' a3 s up j;obtain rfl|rfl|rfl:j=0\/j=1\/j=2:=(by omega);all_goals omega);cases aX:a3.ix s (up+2+j)with
    |none=>
     rw[aX]at ax ad;have bp:=m' ax;clear ax aX;go_wp2_with (go_at_call 213;refine(d' bp).mono ?_;rintro y ac ⟨rfl,rfl⟩;simp only[Mq.ixInt]);go_roundw
     case rel=>exact⟨j+1,by omega,by go_num,by rw[d' ad];rfl,d' F⟩
     case measure=>simp[intOf];omega
    |some i=>
     rw[aX]at ax ad;have bp:=m' ax;clear ax aX;obtain⟨t,aP⟩:=exq (bl' a3 s up j);rw[<-aP]at cc ad ⊢;clear aP;obtain rfl|rfl|rfl:j=0\/j=1\/j=2:=(by omega);all_goals
      go_wp2_with (go_at_call 213;refine(d' bp).mono ?_;rintro y ac ⟨rfl,rfl⟩;simp only[Mq.ixInt])
      go_roundw
      case rel=>first|exact⟨0+1,by omega,rfl,by rw[d' ad];rfl,d' F⟩|exact⟨1+1,by omega,rfl,by rw[d' ad];rfl,d' F⟩|exact⟨2+1,by omega,rfl,by rw[d' ad];rfl,d' F⟩
      case measure=>simp[intOf]
   ·have cd:j=3:=(by omega);subst cd;have c0:=y' (i:=0) T.ref.blk;simp[az']at c0;have ce:=kD' a3 s up;have cf:IntKind.u8.wrap ((bl' a3 s up 3:Nat):Int)=bl' a3 s up 3:=(by rw[IntKind.wrap_u8];omega);have cg:=m' (kF' (a:=a3) (s:=s) (up:=up) T.ref.ep hs (by omega));have ch:=z14 T.ref.blk;have F:=m' T;clear T;have bq:=m' (show s1 ((bl' a3 s up 3:Nat):Int)=Jj a3 s up by simp[s1,Jj,Nat.mod_eq_of_lt (show bl' a3 s up 3 < 256 by omega)]);have br:=fun H=>m' (bY' 4 a3.Qa s up (Jj a3 s up) H (d' cg));obtain⟨bJ,bt⟩:=exq (⟨(Qb.bytes 4 a3.Qa s up (Jj a3 s up).data.toList).toArray⟩:z10);rw[<-bt]at br;have ci:=m' bt;obtain⟨B,bu⟩:=exq (Jj a3 s up);rw[<-bu]at br bq;have cv:=m' bu;obtain⟨t,aP⟩:=exq (bl' a3 s up 3);rw[<-aP]at bq cf ce ⊢;clear bt bu aP;have co:=fun v p=>fy' (n:=(t:Int)) (by omega) (by omega) (v:=v) (w:=p);rw[d' bq]at co;go_upto_region 18 with fail;refine ae'
     [Ep w 0,Ep w 0,Ep w 0,Ei a3.Qa,Ei s,Ei up,Ei t,Ev (.int .u8 t),se' t,Ev (.string B),
      Ev (.agg #[.int .i64 4, .int .i64 a3.Qa, .int .i64 s, .int .i64 up, .string B]),Ev (.string bJ),Ev (.string bJ)]
     [[0],[1101],[2102],[3103],[5],[7],[10],[7107],[8108],[9109],[4104,5105,6106,10110],[11111],[12112]]
     [102,103,104,105,106,107,108,109,110,111,112,113,5]
     [4,1,96,12,999] ?_ ?_ (hst:=by repeat' (first|exact V' _|exact fx' _|exact trivial|apply z12))
    ·refine⟨?_,?_,?_,?_,?_,?_,?_,?_,?_,?_,?_,?_,?_,trivial⟩;all_goals
      intro x H hb cj;have ay:=(hb.cell (p:=⟨w,0,none⟩) ch).trans c0;clear hb;simp[I']at cj;try go_simp
      try exact z11 _ _
     all_goals first
      |exact⟨rfl,z11 _ _⟩
      |exact⟨_,rfl,(z11 _ _).alloc (z13 _) _,_,rfl,by simp⟩
      |(refine(d' (br _)).mono ?_;rintro J w1 ⟨rfl,ap⟩;exact⟨rfl,ap⟩)
    ·intro f cw hb bw;simp only[ag']at bw;have ck:=bw.2.2.2.2.2.2.2.2.2.2.2.2.1;have cl:=m' ((d' F).below hb);clear bw hb F c0;simp only[O',ck];go_wp2;go_ret;refine⟨?_,?_⟩
     ·rw[d' ci,d' bM];rfl
     ·exact(d' cl).done
def as' (a:Mq.Sk) (k e:Int) (s qn:Nat) (b:z10):Mq.Sk:=if a.Qp k e s qn b=[]then bn' a s qn b else bL' a s (a.Qp k e s qn b)
theorem jv' (a:Mq.Sk) (s q:Nat) (b:z10):(bn' a s q b).Qc=a.Qc:=by
 unfold bn';split <;> rfl
theorem jw' (a:Mq.Sk) (s:Nat) (z:List z10):(bL' a s z).Qc s=a.Qc s++z:=by simp[bL',grown,Mq.Sk.forget]
def jx' (a:Mq.Sk) (k e:Int) (s qn:Nat) (b:z10):z10:=
 ⟨(Qb.bytes 4 a.Qa s ((as' a k e s qn b).Qc s).length (Jj (as' a k e s qn b) s ((as' a k e s qn b).Qc s).length).data.toList).toArray⟩
theorem sl' (R:Jp p w x J b c) (k e:Int) (s qn:Nat) (z:z10) (hs:s < 3) (G:qn<=2147483647) (H:x.held.length < 1000):
  Calls prog 214 #[.pointer (some ⟨w,0,none⟩), .agg #[.int .i64 k, .int .i64 e, .int .i64 s, .int .i64 qn, .string z]] p fun I w'=>
   I= .returned (.string (jx' x k e s qn z))/\do' p w' w (as' x k e s qn z) J b c:=by
 by_cases hn:x.Qp k e s qn z=[]
 ·have F:as' x k e s qn z=bn' x s qn z:=by rw[as',if_pos hn]
  rw[jx',F,jv'];exact ju' R k e s qn z hs G H _ _ (.inl ⟨hn,rfl,rfl⟩)
 ·have F:as' x k e s qn z=bL' x s (x.Qp k e s qn z):=by rw[as',if_neg hn]
  rw[jx',F,jw'];exact ju' R k e s qn z hs G H _ _ (.inr ⟨_,rfl,hn,rfl,rfl⟩)
theorem jQ' (R:Jp p w x J b c) (k e st q:Int) (F:z10) (G:¬k=1) (H:¬k=3):
  Calls prog 179 #[.pointer (some ⟨w,0,none⟩), .agg #[.int .i64 k, .int .i64 e, .int .i64 st, .int .i64 q, .string F]] p fun z w'=>z= .returned (.slice none 0 0)/\Below p.heap.size p w':=by
 have k1:(k==1)=false:=by simpa using G
 have k3:(k==3)=false:=by simpa using H
 have I:=m' (bS' R k e st q F);clear R G H;go_enter func179,ntmps179;go_upto_region 1 with fail;refine G' (fun z=>Zi p z w x J b c k e st q F) (d' I) ?_;clear I;intro z L;have M:=y' (i:=0) L.box;simp at M;have O:=m' L;clear L;go_wp2;go_ret;exact⟨rfl,(d' O).bel⟩
theorem kG' (R:Jp p w x J b c) (k e:Int) (s qn:Nat) (z:z10) (hk:k=3) (Y:e=x.Qa) (hs:s < 3) (ap:qn<=2147483647) (aq:x.held.length < 1000):
  Calls prog 179 #[.pointer (some ⟨w,0,none⟩), .agg #[.int .i64 k, .int .i64 e, .int .i64 s, .int .i64 qn, .string z]] p fun F w'=>
   ∃v,F= .returned v/\w'.ownsRow p.heap.size 9 1 v 1 (ao' [jx' x k e s qn z])/\do' p w' w (as' x k e s qn z) J b c:=by
 have k1:(k==1)=false:=by subst hk;rfl
 have k3:(k==3)=true:=by subst hk;rfl
 have aG:(e != (x.Qa:Int))=false:=by simpa using Y
 have Z:=m' (bS' R k e s qn z);have au:=m' R.lt;obtain⟨i0,hi,av,ax,ay⟩:=au' bQ';clear R hk Y;generalize aa:(x.Qa:Int)=ep at *;go_enter func179,ntmps179;go_upto_region 1 with fail;refine G' (fun F=>Zi p F w x J b c k e s qn z) (d' Z) ?_;clear Z;intro F L;obtain⟨H,I⟩:=cW' L.box;have c0:=y' (i:=0) L.ref.blk;simp[az']at H I c0;rw[aa]at c0;have G:=m' L;clear L aa;go_upto_region 14 with fail;go_quiet (fail);go_upto_region 20 with fail;refine G' (fun F=>Zi p F w x J b c k e s qn z) (by first|exact(d' G).drew _|exact((d' G).drew _).drew _|exact d' G) ?_;clear G H I c0;intro aH L;obtain⟨H,I,ab,ac,ad⟩:=dK' L.box;simp at H I ab ac ad;have O:=m' (sl' L.ref k e s qn z hs ap aq);have G:=m' L;clear L;obtain⟨ah,Q⟩:=exq (jx' x k e s qn z);rw[<-Q]at O;have az:=m' Q;clear Q;go_upto_region 21 with (go_at_call 214;refine(d' O).mono ?_;rintro y aI ⟨rfl,hst⟩;have ai:=m' ((ke' (d' G) (d' au)).step hst);clear hst);refine G' (fun F=>∃aA aB,Zn p w b c J k e s qn z (as' x k e s qn z) aA aB F) (d' ai) ?_;clear ai G O H I ab ac ad;rintro M ⟨aJ,aK,V⟩;have aC:=m' V;have aL:=V.far.size;clear V;go_wp2_with (at_builtin;refine z62 _ rfl (.tmp 113) (.tmp 115) 45 rfl p.heap.size 9 i0 (.string ⟨#[]⟩) 1 16 underlying45 hi av ax ay rfl (by decide) (.slice none 0 0) 0 [] rfl (z27 _ _ _ _) ⟨M.heap.size,0,none⟩ 1 1 (ao' [ah]) rfl rfl aq' (by intro u hu;simp[ao']at hu;subst hu;rfl) (by unfold maxLen;omega) (by omega) (by simp;omega) ?_;intro v' aM aj ak _;have ao:=(((z11 M.heap.size M).alloc (z13 _) (.cells (ao' [ah]).toArray 9)).trans (Y' (B:=M.heap.size) ak (by simp) (fun g aD=>by cases aD)));have aE:=m' aj;have aF:=m' ao;clear aj ak ao);go_ret;rw[<-d' az];exact⟨_,rfl,by simpa using d' aE,((d' aC).below (d' aF)).done⟩
def cX' (n:Nat):z10:=⟨(Qb.bytes 5 n 0 0 []).toArray⟩
theorem iB' (n:Nat) (hn:n<=2147483647) (w:World):
  Calls prog 51 #[.agg #[.int .i64 5, .int .i64 n, .int .i64 0, .int .i64 0, .string ⟨#[]⟩]] w fun r w'=>r= .returned (.string (cX' n))/\Below w.heap.size w w':=
 bY' 5 n 0 0 ⟨#[]⟩ w (by simp[Qb.proper,Qb.isNum,ByteArray.size];omega)
theorem mm' (R:Jp p w x J b c) (k:Int) (e:Nat) (st q:Int) (G:z10) (hk:k=3) (aj:e < x.Qa):
  Calls prog 179 #[.pointer (some ⟨w,0,none⟩), .agg #[.int .i64 k, .int .i64 e, .int .i64 st, .int .i64 q, .string G]] p fun z w'=>
   ∃v,z= .returned v/\w'.ownsRow p.heap.size 9 1 v 1 (ao' [cX' x.Qa])/\Below p.heap.size p w':=by
 have k1:(k==1)=false:=by subst hk;rfl
 have k3:(k==3)=true:=by subst hk;rfl
 have ak:((e:Int) != (x.Qa:Int))=true:=by simp;omega
 have ao:=R.ep;have V:=m' (bS' R k e st q G);obtain⟨i0,hi,ap,aq,au⟩:=au' bQ';clear R hk;obtain⟨ep,I⟩:=exq (x.Qa);have M:=m' I;rw[<-I]at aj ao ⊢;clear I;go_enter func179,ntmps179;go_upto_region 1 with fail;refine G' (fun z=>Zi p z w x J b c k e st q G) (d' V) ?_;clear V;intro z L;obtain⟨Y,Z⟩:=cW' L.box;have c0:=y' (i:=0) L.ref.blk;simp[az']at Y Z c0;rw[<-d' M]at c0;have F:=m' L;clear L;rw[<-d' M]at ak;have aC:(e:Int) < ep:=by omega
 go_upto_region 14 with fail
 go_quiet (fail)
 go_upto_region 18 with fail
 refine G' (fun z=>Zi p z w x J b c k e st q G) (by first|exact(d' F).drew _|exact((d' F).drew _).drew _|exact d' F) ?_;clear F Y Z c0;intro aD L;have c0:=y' (i:=0) L.ref.blk;simp[az']at c0;rw[<-d' M]at c0;have F:=m' L;clear L;go_upto_region 19 with (go_at_call 51;refine(iB' ep (by omega) _).mono ?_;rintro y aE ⟨rfl,aa⟩;have ab:=m' ((d' F).below aa);clear aa);refine G' (fun z=>Zi p z w x J b c k e st q G) (d' ab) ?_;clear ab F c0;intro H O;have av:=m' O;have ax:=O.bel.size;clear O;obtain⟨ac,Q⟩:=exq (cX' ep);rw[<-Q];have ay:=m' Q;clear Q;go_wp2_with (at_builtin;refine z62 _ rfl (.tmp 106) (.tmp 108) 45 rfl p.heap.size 9 i0 (.string ⟨#[]⟩) 1 16 underlying45 hi ap aq au rfl (by decide) (.slice none 0 0) 0 [] rfl (z27 _ _ _ _) ⟨H.heap.size,0,none⟩ 1 1 (ao' [ac]) rfl rfl aq' (by intro u hu;simp[ao']at hu;subst hu;rfl) (by unfold maxLen;omega) (by omega) (by simp;omega) ?_;intro v' aF ad ah _;have ai:=(((z11 H.heap.size H).alloc (z13 _) (.cells (ao' [ac]).toArray 9)).trans (Y' (B:=H.heap.size) ah (by simp) (fun g az=>by cases az)));have aA:=m' ad;have aB:=m' ai;clear ad ah ai);go_ret;rw[<-d' ay];exact⟨_,rfl,by simpa using d' aA,(d' av).bel.trans ((d' aB).mono ax)⟩
theorem mn' (R:Jp p w x J b c) (k:Int) (e:Nat) (st q:Int) (G:z10) (hk:k=3) (aj:x.Qa < e) (aC:e<=2147483647):
  Calls prog 179 #[.pointer (some ⟨w,0,none⟩), .agg #[.int .i64 k, .int .i64 e, .int .i64 st, .int .i64 q, .string G]] p fun z w'=>
   ∃v,z= .returned v/\w'.ownsRow p.heap.size 9 1 v 1 (ao' [cX' e])/\Below p.heap.size p w':=by
 have k1:(k==1)=false:=by subst hk;rfl
 have k3:(k==3)=true:=by subst hk;rfl
 have ak:((e:Int) != (x.Qa:Int))=true:=by simp;omega
 have ao:=R.ep;have V:=m' (bS' R k e st q G);obtain⟨i0,hi,ap,aq,au⟩:=au' bQ';clear R hk;obtain⟨ep,I⟩:=exq (x.Qa);have M:=m' I;rw[<-I]at aj ao;clear I;go_enter func179,ntmps179;go_upto_region 1 with fail;refine G' (fun z=>Zi p z w x J b c k e st q G) (d' V) ?_;clear V;intro z L;obtain⟨Y,Z⟩:=cW' L.box;have c0:=y' (i:=0) L.ref.blk;simp[az']at Y Z c0;rw[<-d' M]at c0;have F:=m' L;clear L;rw[<-d' M]at ak;have aD:¬ (e:Int) < ep:=by omega
 go_upto_region 14 with fail
 go_quiet (fail)
 go_upto_region 18 with fail
 refine G' (fun z=>Zi p z w x J b c k e st q G) (by first|exact(d' F).drew _|exact((d' F).drew _).drew _|exact d' F) ?_;clear F Y Z c0;intro aE L;have c0:=y' (i:=0) L.ref.blk;simp[az']at c0;rw[<-d' M]at c0;have F:=m' L;clear L;go_upto_region 19 with (go_at_call 51;refine(iB' e (by omega) _).mono ?_;rintro y aF ⟨rfl,aa⟩;have ab:=m' ((d' F).below aa);clear aa);refine G' (fun z=>Zi p z w x J b c k e st q G) (d' ab) ?_;clear ab F c0;intro H O;have av:=m' O;have ax:=O.bel.size;clear O;obtain⟨ac,Q⟩:=exq (cX' e);rw[<-Q];have ay:=m' Q;clear Q;go_wp2_with (at_builtin;refine z62 _ rfl (.tmp 106) (.tmp 108) 45 rfl p.heap.size 9 i0 (.string ⟨#[]⟩) 1 16 underlying45 hi ap aq au rfl (by decide) (.slice none 0 0) 0 [] rfl (z27 _ _ _ _) ⟨H.heap.size,0,none⟩ 1 1 (ao' [ac]) rfl rfl aq' (by intro u hu;simp[ao']at hu;subst hu;rfl) (by unfold maxLen;omega) (by omega) (by simp;omega) ?_;intro v' aG ad ah _;have ai:=(((z11 H.heap.size H).alloc (z13 _) (.cells (ao' [ac]).toArray 9)).trans (Y' (B:=H.heap.size) ah (by simp) (fun g az=>by cases az)));have aA:=m' ad;have aB:=m' ai;clear ad ah ai);go_ret;rw[<-d' ay];exact⟨_,rfl,by simpa using d' aA,(d' av).bel.trans ((d' aB).mono ax)⟩
theorem gr' (R:Jp p w x J b c) (k:Int) (e:Nat) (st q:Int) (G:z10) (hk:k=1) (aj:e < x.Qa):
  Calls prog 179 #[.pointer (some ⟨w,0,none⟩), .agg #[.int .i64 k, .int .i64 e, .int .i64 st, .int .i64 q, .string G]] p fun z w'=>
   ∃v,z= .returned v/\w'.ownsRow p.heap.size 9 1 v 1 (ao' [cX' x.Qa])/\Below p.heap.size p w':=by
 have k1:(k==1)=true:=by subst hk;rfl
 have ak:=R.ep;have Q:=m' (bS' R k e st q G);obtain⟨i0,hi,ao,ap,aq⟩:=au' bQ';clear R hk;obtain⟨ep,I⟩:=exq (x.Qa);have V:=m' I;rw[<-I]at aj ak ⊢;clear I;go_enter func179,ntmps179;go_upto_region 1 with fail;refine G' (fun z=>Zi p z w x J b c k e st q G) (d' Q) ?_;clear Q;intro z L;obtain⟨Y,Z⟩:=cW' L.box;have c0:=y' (i:=0) L.ref.blk;simp[az']at Y Z c0;rw[<-d' V]at c0;have F:=m' L;clear L;have aB:(e:Int) < ep:=by omega
 go_upto_region 4 with fail
 go_quiet (fail)
 go_upto_region 5 with fail
 refine G' (fun z=>Zi p z w x J b c k e st q G) (by first|exact(d' F).drew _|exact((d' F).drew _).drew _|exact d' F) ?_;clear F Y Z c0;intro aC L;have c0:=y' (i:=0) L.ref.blk;simp[az']at c0;rw[<-d' V]at c0;have F:=m' L;clear L;go_upto_region 6 with (go_at_call 51;refine(iB' ep (by omega) _).mono ?_;rintro y aD ⟨rfl,aa⟩;have ab:=m' ((d' F).below aa);clear aa);refine G' (fun z=>Zi p z w x J b c k e st q G) (d' ab) ?_;clear ab F c0;intro H M;have au:=m' M;have av:=M.bel.size;clear M;obtain⟨ac,O⟩:=exq (cX' ep);rw[<-O];have ax:=m' O;clear O;go_wp2_with (at_builtin;refine z62 _ rfl (.tmp 29) (.tmp 31) 45 rfl p.heap.size 9 i0 (.string ⟨#[]⟩) 1 16 underlying45 hi ao ap aq rfl (by decide) (.slice none 0 0) 0 [] rfl (z27 _ _ _ _) ⟨H.heap.size,0,none⟩ 1 1 (ao' [ac]) rfl rfl aq' (by intro u hu;simp[ao']at hu;subst hu;rfl) (by unfold maxLen;omega) (by omega) (by simp;omega) ?_;intro v' aE ad ah _;have ai:=(((z11 H.heap.size H).alloc (z13 _) (.cells (ao' [ac]).toArray 9)).trans (Y' (B:=H.heap.size) ah (by simp) (fun g ay=>by cases ay)));have az:=m' ad;have aA:=m' ai;clear ad ah ai);go_ret;rw[<-d' ax];exact⟨_,rfl,by simpa using d' az,(d' au).bel.trans ((d' aA).mono av)⟩
def wa' (a:Mq.Sk):z10:=bh' (a.Qc 0).length++bh' (a.Qc 1).length++bh' (a.Qc 2).length
def pN' (a:Mq.Sk) (e:Nat):z10:=⟨(Qb.bytes 2 e 0 0 (wa' a).data.toList).toArray⟩
def cy' (a:Mq.Sk) (e:Nat):List (Nat×Nat×z10):=if a.Qa < e then []else a.held
def aV' (a:Mq.Sk) (e:Nat):Mq.Sk:={a with Qa:=e,held:=cy' a e}
theorem Jp.epStep (R:Jp p w x J b c) (e:Nat) (G:e<=2147483647):
  do' p (p.setCell ⟨w,0,none⟩ (.int .i64 e)) w {x with Qa:=e} J b c:=by
 have H:∀t,t < 3->(b t).ownBlock≠some w:=fun t I=>(R.Qc t I).ne R.blk (by decide);have M:c.ownBlock≠some w:=R.held.ne R.blk (by decide);have z:=Q' p w 0 (.int .i64 e);refine⟨b,c,⟨?_,fun s hs=>(R.Qc s hs).far z (fun g F h=>H s hs (by rw[F,h])),R.held.far z (fun g F h=>M (by rw[F,h])),R.apl,G,R.ll,R.hl,R.hb⟩,z.mono (fun k _ h=> .inl h),fun k hk=> .inl hk⟩;have:=aa' (j:=0) (v:= .int .i64 e) R.blk;simpa[az']using this
theorem pO' (a b c:Int):(bh' a++bh' b++bh' c).data.toList=Qb.le4 a++Qb.le4 b++Qb.le4 c:=by
 simp[ByteArray.data_append,ul']
theorem kH' {n0 n1 n2:Nat} (z:w<=2147483647) (h0:n0<=120) (h1:n1<=120) (h2:n2<=120):Qb.proper 2 w 0 0 (bh' n0++bh' n1++bh' n2)=true:=by
 have hs:(bh' n0++bh' n1++bh' n2).size=12:=by simp[ByteArray.size_append,gd']
 have a0:n0 % 256=n0:=by omega
 have a1:n1 % 256=n1:=by omega
 have a2:n2 % 256=n2:=by omega
 simp only[Qb.proper,Qb.Xh,pO',hs];simp[Qb.isNum,Qb.Qg,Qb.Vv,Qb.le4];omega
theorem jR' (R:Jp p w x J b c) (k:Int) (e:Nat) (st q:Int) (G:z10) (hk:k=1) (aE:x.Qa<=e) (ah:e<=2147483647):
  Calls prog 179 #[.pointer (some ⟨w,0,none⟩), .agg #[.int .i64 k, .int .i64 e, .int .i64 st, .int .i64 q, .string G]] p fun F w'=>
   ∃v,F= .returned v/\w'.ownsRow p.heap.size 9 1 v 1 (ao' [pN' x e])/\do' p w' w (aV' x e) J b c:=by
 have k1:(k==1)=true:=by subst hk;rfl
 have Y:=fun s hs=>R.len s hs;have ai:=m' (ke' (bS' R k e st q G) R.lt);obtain⟨i0,hi,aF,aG,aH⟩:=au' bQ';have aV:=(R.lt w (.inl rfl));clear R hk;obtain⟨ep,Z⟩:=exq (x.Qa);have V:=m' Z;rw[<-Z]at aE;clear Z;go_enter func179,ntmps179;go_upto_region 1 with fail;refine G' (fun F=>Zn p w b c J k e st q G x b c F) (d' ai) ?_;clear ai;intro F L;obtain⟨aj,H⟩:=cW' L.box;have c0:=y' (i:=0) L.ref.blk;simp[az']at aj H c0;rw[<-d' V]at c0;have z:=m' L;clear L;have aW:¬ (e:Int) < ep:=by omega
 go_upto_region 4 with fail
 go_quiet (fail)
 go_upto_region 7 with fail
 refine G' (fun F=>Zn p w b c J k e st q G x b c F) (by first|exact(d' z).drew _|exact((d' z).drew _).drew _|exact d' z) ?_;clear z aj H c0;intro aX L;have H:=y' (i:=1) L.box;have c0:=y' (i:=0) L.ref.blk;simp[az']at H c0;rw[<-d' V]at c0;have z:=m' L;clear L;by_cases aY:(ep:Int) < e;focus
  go_quiet (fail)
  go_upto_region 8 with fail
  refine G' (fun F=>Zn p w b c J k e st q G x b c F) (by first|exact(d' z).drew _|exact((d' z).drew _).drew _|exact d' z) ?_;clear z H c0;intro aI L;have c5:=y' (i:=5) L.ref.blk;have f5:=H' (i:=5) L.ref.blk;simp[az']at c5;have z:=m' L;clear L;go_upto_region 9 with fail;refine G' (fun F=>∃I M,Zn p w b c J k e st q G {x with held:=cy' x e} I M F) ?_ ?_
  ·rw[cy',if_pos (by rw[<-d' V];omega)];exact(d' z).step ((d' z).ref.Zs (Far.refl _ aI) (v':= .slice none 0 0) (x:=[]) (fun g aa=>by cases aa) (bb' _ _ _) (by simp) (by simp)).2
  clear z c5 f5
 rotate_left
 focus
  go_quiet (fail)
  go_upto_region 9 with fail
  refine G' (fun F=>∃I M,Zn p w b c J k e st q G {x with held:=cy' x e} I M F) ?_ ?_
  ·rw[cy',if_neg (by rw[<-d' V];omega)];exact⟨b,c,by first|exact(d' z).drew _|exact((d' z).drew _).drew _|exact d' z⟩
  clear z H c0
 all_goals
  rintro aZ ⟨I,M,L⟩;have H:=y' (i:=1) L.box;have c0:=y' (i:=0) L.ref.blk;have f0:=H' (i:=0) L.ref.blk;simp[az']at H c0;have z:=m' L;clear L;go_upto_region 10 with fail;refine G' (fun F=>∃I M,Zn p w b c J k e st q G (aV' x e) I M F) ((d' z).step ((d' z).ref.epStep e ah)) ?_;clear z H c0 f0;rintro ba ⟨I,M,L⟩;obtain⟨aJ,aK,ak,_⟩:=(L.ref.Qc 0 (by omega)).shape;obtain⟨aL,aM,ao,_⟩:=(L.ref.Qc 1 (by omega)).shape;obtain⟨aN,aO,ap,_⟩:=(L.ref.Qc 2 (by omega)).shape;have c2:=y' (i:=2) L.ref.blk;have c3:=y' (i:=3) L.ref.blk;have c4:=y' (i:=4) L.ref.blk;have ab:=z14 L.ref.blk;have g0:=Y 0 (by omega);have g1:=Y 1 (by omega);have g2:=Y 2 (by omega);simp[az']at c2 c3 c4;rw[ak]at c2;rw[ao]at c3;rw[ap]at c4;have aq:Hid (pN' x e=⟨(Qb.bytes 2 e 0 0 (bh' (x.Qc 0).length++bh' (x.Qc 1).length++bh' (x.Qc 2).length).data.toList).toArray⟩):=rfl;have z:=m' L;clear L ak ao ap;have aP:(aV' x e).Qc=x.Qc:=rfl;simp only[aP]at c2 c3 c4;generalize (x.Qc 0).length=n0 at *;generalize (x.Qc 1).length=n1 at *;generalize (x.Qc 2).length=n2 at *;refine ae'
   [Ep w 0,Ep w 0,Ep w 2,Ep w 2,Ev (.slice aJ n0 aK),Ei n0,Ev (.string (bh' n0)),Ep w 0,Ep w 0,Ep w 2,Ep w 3,Ev (.slice aL n1 aM),Ei n1,Ev (.string (bh' n1)),Ev (.string (bh' n0++bh' n1)),Ep w 0,Ep w 0,Ep w 2,Ep w 4,Ev (.slice aN n2 aO),Ei n2,Ev (.string (bh' n2)),Ev (.string (bh' n0++bh' n1++bh' n2)),Ev (.string (bh' n0++bh' n1++bh' n2))]
   [[0],[1048],[2049],[3050],[4051],[5052],[6053],[0],[8055],[9056],[10057],[11058],[12059],[13060],[7054,14061],[0],[16063],[17064],[18065],[19066],[20067],[21068],[15062,22069],[23070]]
   [49,50,51,52,53,54,55,56,57,58,59,60,61,62,63,64,65,66,67,68,69,70,71,8]
   [7,1,40,23,999] ?_ ?_
  ·refine⟨?_,?_,?_,?_,?_,?_,?_,?_,?_,?_,?_,?_,?_,?_,?_,?_,?_,?_,?_,?_,?_,?_,?_,?_,trivial⟩;all_goals
    intro a' F hb au;have d2:=(hb.cell (p:=⟨w,2,none⟩) ab).trans c2;have d3:=(hb.cell (p:=⟨w,3,none⟩) ab).trans c3;have d4:=(hb.cell (p:=⟨w,4,none⟩) ab).trans c4;clear hb c2 c3 c4;simp only[I',List.getD_cons_zero,List.getD_cons_succ,Array.getD_eq_getD_getElem?]at au;simp at au;try go_simp
    try exact z11 _ _
   all_goals first
    |(refine(ku' _ _ ?_).mono ?_;(focus omega);rintro bb bc ⟨rfl,aQ⟩;exact⟨rfl,aQ⟩)
    |(rw[if_neg (by simp only[gd'];omega)];go_simp;exact z11 _ _)
    |(rw[if_neg (by simp only[ByteArray.size_append,gd'];omega)];go_simp;exact z11 _ _)
  ·intro f bd hb ac;simp only[ag']at ac;have av:=ac.2.2.2.2.2.2.2.2.2.2.2.2.2.2.2.2.2.2.2.2.2.2.2.1;have ax:=m' ((d' z).below hb);clear ac hb z c2 c3 c4;simp only[O',av];clear av;have aR:=m' (kH' (n0:=n0) (n1:=n1) (n2:=n2) ah g0 g1 g2);generalize bh' n0++bh' n1++bh' n2=S at *;go_upto_region 11 with fail;refine G' (fun F=>Zn p w b c J k e st q G (aV' x e) I M F) (d' ax) ?_;clear ax;intro Q O;have c0:=y' (i:=0) O.ref.blk;simp[az',aV']at c0;have z:=m' O;clear O;go_upto_region 12 with (go_at_call 51;refine(bY' 2 e 0 0 S _ (d' aR)).mono ?_;rintro y be ⟨rfl,ay⟩;have az:=m' ((d' z).below ay);clear ay);refine G' (fun F=>Zn p w b c J k e st q G (aV' x e) I M F) (d' az) ?_;clear az z c0;intro Q O;have aS:=m' O;have bf:=O.far.size;clear O;obtain⟨aA,ad⟩:=exq (⟨(Qb.bytes 2 e 0 0 S.data.toList).toArray⟩:z10);rw[<-ad]at aq ⊢;have bg:=m' ad;clear ad;go_wp2_with (at_builtin;refine z62 _ rfl (.tmp 78) (.tmp 80) 45 rfl p.heap.size 9 i0 (.string ⟨#[]⟩) 1 16 underlying45 hi aF aG aH rfl (by decide) (.slice none 0 0) 0 [] rfl (z27 _ _ _ _) ⟨Q.heap.size,0,none⟩ 1 1 (ao' [aA]) rfl rfl aq' (by intro u hu;simp[ao']at hu;subst hu;rfl) (by unfold maxLen;omega) (by omega) (by simp;omega) ?_;intro v' bh aB aC _;have aD:=(((z11 Q.heap.size Q).alloc (z13 _) (.cells (ao' [aA]).toArray 9)).trans (Y' (B:=Q.heap.size) aC (by simp) (fun g aa=>by cases aa)));have aT:=m' aB;have aU:=m' aD;clear aB aC aD);go_ret;rw[d' aq];exact⟨_,rfl,by simpa using d' aT,((d' aS).below (d' aU)).done⟩
def bt' (a:Mq.Sk) (k e:Int) (s q:Nat) (b:z10):Mq.Sk×List z10:=
 if k=1 then(if e < a.Qa then(a,[cX' a.Qa])else(aV' a e.toNat,[pN' a e.toNat]))
 else if k=3 then(if e=a.Qa then(as' a k e s q b,[jx' a k e s q b])else(a,[cX' (max e.toNat a.Qa)]))
 else(a,[])
structure Jh (a:Mq.Sk):Prop where
 held:∀h∈a.held,h.1 < 3/\(a.Qc h.1).length+1<=h.2.1/\h.2.1<=(a.Qc h.1).length+4
 once:(a.held.map fun h=>(h.1,h.2.1)).Nodup
 room:a.count<=120
 ep:a.Qa<=2147483647
theorem fE':∀ (n:Nat) (l:List Nat),l.Nodup->(∀x∈l,x < n)->l.length<=n
 |0,[],_,_=>z13 _
 |0,x::l,_,h=>by have:=h x (.head _);omega
 |n+1,l,hn,h=>by
  by_cases F:n∈l
  ·have h1:=List.length_erase_of_mem F;have h2:=fE' n (l.erase n) (hn.erase n) (fun x z=>by have h3:=(hn.mem_erase_iff).1 z;have:=h x h3.2;have:=h3.1;omega);omega
  ·have:=fE' n l hn (fun x z=>by have:=h x z;have:x≠n:=fun e=>F (e ▸ z);omega);omega
theorem gh' {a:Mq.Sk} {s:Nat} (hs:s < 3):(a.Qc s).length<=a.count:=by
 obtain rfl|rfl|rfl:s=0\/s=1\/s=2:=by omega
 all_goals
  unfold Mq.Sk.count;omega
theorem Jh.small (z:Jh x):x.held.length<=12:=by
 have h1:(x.held.map fun h=>h.1 * 4+(h.2.1 - (x.Qc h.1).length - 1)).Nodup:=by
  have:=z.once;rw[List.Nodup,xU']at this ⊢;refine this.imp_of_mem (fun {F y} H I J e=>J ?_);have M:=z.held F H;have Q:=z.held y I;have G:F.1=y.1:=by omega
  rw[G]at e M;exact Prod.ext G (by simp only;omega)
 have h2:=fE' 12 _ h1 (fun n hn=>by obtain⟨h,O,rfl⟩:=z63.1 hn;have:=z.held h O;omega);simpa using h2
theorem nn':∀ {l:List (Nat×Nat×z10)} {i:Nat},Mq.ixFrom w a i l=none->∀h∈l,¬ (h.1=w/\h.2.1=a)
 |[],_,_,h,z=>by cases z
 |x::l,i,hn,h,z=>by
  rw[Mq.ixFrom]at hn;split at hn
  ·cases hn
  ·rename_i F;cases z with
   |head=>exact F
   |tail _ z=>exact nn' hn h z
theorem sm':Jh {Qa:=0,Qc:=fun _=>[],held:=[]}:=⟨by simp,by simp,by simp[Mq.Sk.count],by simp⟩
theorem pP' (F:Jh x) (s q:Nat) (b:z10) (hs:s < 3):Jh (bn' x s q b):=by
 unfold bn';split
 ·rename_i h;obtain⟨h1,h2,h3⟩:=h;refine⟨fun H z=>?_,?_,F.room,F.ep⟩
  ·simp only[List.mem_append,List.mem_singleton]at z;rcases z with z|rfl
   ·exact F.held H z
   ·exact⟨hs,by show(x.Qc s).length+1<=q;omega,h2⟩
  ·simp only[List.map_append,List.map_cons,List.map_nil];rw[oh'];refine⟨F.once,by simp,?_⟩;rintro H z y G rfl;simp only[List.mem_singleton]at G;obtain⟨h,I,rfl⟩:=z63.1 z;exact nn' h3 h I ⟨congrArg Prod.fst G,congrArg Prod.snd G⟩
 ·exact F
theorem pQ' (F:Jh x) (s:Nat) (z:List z10) (hs:s < 3) (H:x.count+z.length<=120):Jh (bL' x s z):=by
 have I:∀t,((bL' x s z).Qc t).length=if t=s then(x.Qc s).length+z.length else(x.Qc t).length:=by
  intro t;show((grown x s z).Qc t).length= _;unfold grown;by_cases h:t=s
  ·simp[h]
  ·simp[h]
 refine⟨fun h J=>?_,?_,?_,F.ep⟩
 ·have M:h∈x.held.filter (Mq.keeps s (x.Qc s++z).length):=J;obtain⟨h1,h2⟩:=sk'.1 M;obtain⟨g1,g2,G⟩:=F.held h h1;rw[I];refine⟨g1,?_⟩;by_cases e:h.1=s
  ·rw[if_pos e];unfold Mq.keeps at h2;rw[e]at g2 G;simp[e]at h2;omega
  ·rw[if_neg e];exact⟨g2,G⟩
 ·exact F.once.sublist ((List.filter_sublist (p:=Mq.keeps s (x.Qc s++z).length) (l:=x.held)).map _)
 ·have:(bL' x s z).count=(grown x s z).count:=rfl;rw[this,eu' x s hs z];exact H
theorem ok' (z:Jh x) (e:Nat) (F:e<=2147483647):Jh (aV' x e):=by
 unfold aV' cy';split
 ·exact⟨by simp,by simp,z.room,F⟩
 ·exact⟨z.held,z.once,z.room,F⟩
theorem hJ' (z:Jh x) (k e:Int) (s q:Nat) (b:z10) (hs:s < 3) (F:e<=2147483647):Jh (bt' x k e s q b).1:=by
 unfold bt';split
 ·split
  ·exact z
  ·exact ok' z _ (by omega)
 ·split
  ·split
   ·show Jh (as' x k e s q b);unfold as';split
    ·exact pP' z s q b hs
    ·exact pQ' z s _ hs (hI' k e s q b z.room)
   ·exact z
  ·exact z
theorem mo' (R:Jp p w x J b c) (Q:Jh x) (k e:Int) (s q:Nat) (F:z10) (V:0<=e) (ab:e<=2147483647) (hs:s < 3) (Y:q<=2147483647):
  Calls prog 179 #[.pointer (some ⟨w,0,none⟩), .agg #[.int .i64 k, .int .i64 e, .int .i64 s, .int .i64 q, .string F]] p fun G w'=>
   ∃v,G= .returned v/\w'.ownsRow p.heap.size 9 1 v (bt' x k e s q F).2.length (ao' (bt' x k e s q F).2)/\do' p w' w (bt' x k e s q F).1 J b c:=by
 have Z:x.held.length < 1000:=by have:=Q.small;omega
 obtain⟨z,rfl⟩:=z73 V;have I:∀ {w':World},Below p.heap.size p w'->do' p w' w x J b c:=fun {w'} hb=>
  ⟨b,c,R.far (C' (E:=fun _=>False) hb) (fun _ _ h=>h),C' hb,fun k hk=> .inl hk⟩
 have O:((z:Int)).toNat=z:=by omega
 unfold bt';by_cases k1:k=1
 ·rw[if_pos k1];by_cases h:(z:Int) < x.Qa
  ·rw[if_pos h];refine(gr' R k z s q F k1 (by omega)).mono ?_;rintro G w' ⟨v,rfl,H,hb⟩;exact⟨v,rfl,H,I hb⟩
  ·rw[if_neg h];exact jR' R k z s q F k1 (by omega) (by omega)
 ·rw[if_neg k1];by_cases k3:k=3
  ·rw[if_pos k3];by_cases h:(z:Int)=x.Qa
   ·rw[if_pos h];exact kG' R k _ s q F k3 h hs Y Z
   ·rw[if_neg h];have ac:z≠x.Qa:=fun e=>h (by rw[e]);by_cases aa:z < x.Qa
    ·refine(mm' R k z s q F k3 aa).mono ?_;rintro G w' ⟨v,rfl,H,hb⟩;have M:max (z:Int).toNat x.Qa=x.Qa:=(by rw[O];omega);exact⟨v,rfl,by rw[M];exact H,I hb⟩
    ·refine(mn' R k z s q F k3 (by omega) (by omega)).mono ?_;rintro G w' ⟨v,rfl,H,hb⟩;have M:max (z:Int).toNat x.Qa=z:=(by rw[O];omega);exact⟨v,rfl,by rw[M];exact H,I hb⟩
  ·rw[if_neg k3];refine(jQ' R k _ s q F k1 k3).mono ?_;rintro G w' ⟨rfl,hb⟩;exact⟨_,rfl,z27 _ _ _ _,I hb⟩
structure Xs (w x:World) (k e st q:Int) (b:z10) (x0 x1 x2:Int):Prop where
 bel:Below w.heap.size w x
 size:w.heap.size+2 < x.heap.size
 box:x.heap[w.heap.size]? =some (.cells #[.int .i64 k, .int .i64 e, .int .i64 st, .int .i64 q, .string b] 41 (0,0))
 out:x.heap[w.heap.size+1]? =some (.cells #[.int .i64 0, .int .i64 0, .int .i64 0] 98 (0,0))
 num:x.heap[w.heap.size+2]? =some (.cells #[.int .i64 x0, .int .i64 x1, .int .i64 x2] 98 (0,0))
variable{dX dY dZ:Int}
theorem Xs.drew {w:World} (h:Xs w p M X aI aM o dX dY dZ) (n:Nat):Xs w (p.drewN n) M X aI aM o dX dY dZ:=
 ⟨z41 h.bel n,h.size,h.box,h.out,h.num⟩
theorem kf' (w:World) (k e st q:Int) (b:z10):Xs w (((w.alloc (.cells #[.int .i64 k, .int .i64 e, .int .i64 st, .int .i64 q, .string b] 41)).alloc (.cells #[.int .i64 0, .int .i64 0, .int .i64 0] 98)).alloc (.cells #[.int .i64 0, .int .i64 0, .int .i64 0] 98)) k e st q b 0 0 0:=by
 refine⟨((((z11 _ _).alloc (z13 _) _).alloc (by simp) _).alloc (by simp;omega) _),by simp,?_,?_,?_⟩
 ·rw[z25 _ _ _ (by simp;omega),z25 _ _ _ (by simp)];exact z19 w _
 ·rw[z25 _ _ _ (by simp)];have:=z19 (w.alloc (.cells #[.int .i64 k, .int .i64 e, .int .i64 st, .int .i64 q, .string b] 41)) (.cells #[.int .i64 0, .int .i64 0, .int .i64 0] 98);simpa using this
 ·have:=z19 ((w.alloc (.cells #[.int .i64 k, .int .i64 e, .int .i64 st, .int .i64 q, .string b] 41)).alloc (.cells #[.int .i64 0, .int .i64 0, .int .i64 0] 98)) (.cells #[.int .i64 0, .int .i64 0, .int .i64 0] 98);simpa using this
def cD' (sv:Nat->Nat) (s j:Nat):Int:=if j < s then sv j else 0
theorem Xs.at {w x:World} {k e st q:Int} {b:z10} {sv:Nat->Nat} {z:Nat} (h:Xs w x k e st q b (cD' sv z 0) (cD' sv z 1) (cD' sv z 2)) (s:Nat) (hs:s < 3):x.cell? ⟨w.heap.size+2,s,none⟩=some (.int .i64 (cD' sv z s)):=by
 rw[y' h.num];obtain rfl|rfl|rfl:s=0\/s=1\/s=2:=by omega
 all_goals rfl
variable{Q:Nat -> Nat}
theorem Xs.set (h:Xs p u M X aI aM o (cD' Q w 0) (cD' Q w 1) (cD' Q w 2)) (hs:w < 3):
  Xs p (u.setCell ⟨p.heap.size+2,w,none⟩ (.int .i64 (Q w))) M X aI aM o (cD' Q (w+1) 0) (cD' Q (w+1) 1) (cD' Q (w+1) 2):=by
 refine⟨h.bel.setCell (p:=⟨p.heap.size+2,w,none⟩) (by simp) _,by rw[z79];exact h.size,(P' (by omega)).trans h.box,(P' (by omega)).trans h.out,?_⟩;have:=aa' (j:=w) (v:= .int .i64 (Q w)) h.num;rw[this];obtain rfl|rfl|rfl:w=0\/w=1\/w=2:=by omega
 all_goals simp[cD']
theorem Xs.keep {w x:World} {k e st q:Int} {b:z10} {sv:Nat->Nat} {s:Nat} (h:Xs w x k e st q b (cD' sv s 0) (cD' sv s 1) (cD' sv s 2)) (hs:s < 3) (h0:sv s=0):Xs w x k e st q b (cD' sv (s+1) 0) (cD' sv (s+1) 1) (cD' sv (s+1) 2):=by
 have e:∀j,cD' sv (s+1) j=cD' sv s j:=by
  intro j;unfold cD';by_cases hj:j=s
  ·subst hj;simp[h0]
  ·by_cases z:j < s
   ·simp[z,show j < s+1 by omega]
   ·simp[z,show ¬j < s+1 by omega]
 rw[e,e,e];exact h
variable{y:Mq.Ag}{H:ah'}
theorem mp' (R:Qk p w y H b z) (k e st q:Int) (F:z10) (G:¬e=y.Qa):
  Calls prog 173 #[.pointer (some ⟨w,0,none⟩), .agg #[.int .i64 k, .int .i64 e, .int .i64 st, .int .i64 q, .string F]] p fun x w'=>x= .returned (.agg #[.int .i64 0, .int .i64 0, .int .i64 0])/\Below p.heap.size p w':=by
 have c0:=y' (i:=0) R.blk;simp[ai']at c0;have I:=z14 R.blk;have ab:(e != (y.Qa:Int))=true:=by simpa using G
 have J:=m' c0;clear R c0;generalize (y.Qa:Int)=ep at *;go_enter func173,ntmps173;go_upto_region 2 with fail;refine G' (fun x=>Xs p x k e st q F 0 0 0) (kf' p k e st q F) ?_;intro x L;have M:=y' (i:=1) L.box;have c0:=(L.bel.cell (p:=⟨w,0,none⟩) I).trans (d' J);obtain⟨z0,O,Q⟩:=cC' L.num;obtain⟨V,Y,Z⟩:=cC' L.out;have f0:=H' (i:=0) L.out;have f1:=H' (i:=1) L.out;have f2:=H' (i:=2) L.out;simp at M z0 O Q V Y Z;have aa:=m' L;clear L;go_quiet (fail);go_wp2;exact z50 (v:= .agg #[.int .i64 0, .int .i64 0, .int .i64 0]) (by simp[results,results173,go_sem, *]) rfl ⟨rfl,(((z41 (d' aa).bel _).setCell (p:=⟨p.heap.size+1,0,none⟩) (by simp) _).setCell (p:=⟨p.heap.size+1,1,none⟩) (by simp) _).setCell (p:=⟨p.heap.size+1,2,none⟩) (by simp) _⟩
theorem uy' (R:Qk p w y H b z) (st q:Int) (F:z10) (hb:F.size=12) (sv:Nat->Nat) (J:∀s,s < 3->sv s=y.gone s (Qb.Qg F.data.toList (4 * s))):
  Calls prog 173 #[.pointer (some ⟨w,0,none⟩), .agg #[.int .i64 2, .int .i64 y.Qa, .int .i64 st, .int .i64 q, .string F]] p fun x w'=>x= .returned (.agg #[.int .i64 (sv 0), .int .i64 (sv 1), .int .i64 (sv 2)])/\Below p.heap.size p w':=by
 have Z:=m' J;have aa:=fun s (hs:s < 3) p=>m' (dw' F (4 * s) p (by omega) (by omega));clear J hb;have c0:=y' (i:=0) R.blk;have c2:=y' (i:=2) R.blk;simp[ai']at c0 c2;have M:=z14 R.blk;have ab:((y.Qa:Int) != (y.Qa:Int))=false:=by simp
 have O:=m' c0;have ac:=m' c2;have ad:=m' R;clear R c0 c2;generalize ah:(y.Qa:Int)=ep at ab O ⊢;clear ah;go_enter func173,ntmps173;go_upto_region 2 with fail;refine G' (fun x=>Xs p x 2 ep st q F 0 0 0) (kf' p 2 ep st q F) ?_;intro x L;have Q:=y' (i:=1) L.box;have c0:=(L.bel.cell (p:=⟨w,0,none⟩) M).trans (d' O);simp at Q;have ai:=m' L;clear L;go_quiet (fail);have aj:=m' ((d' ai).drew nq);clear Q c0;go_wp2;go_loopw[6] (fun i wr=>∃s:Nat,s<=3/\i= .int .i64 s/\Xs p wr 2 ep st q F (cD' sv s 0) (cD' sv s 1) (cD' sv s 2)) (fun i _=>3 - (intOf i).toNat)
 case atStart=>exact⟨0,by omega,rfl,d' aj⟩
 case round=>
  obtain⟨s,hs,rfl,L⟩:=hrel;by_cases G:s < 3
  ·have c2:=(L.bel.cell (p:=⟨w,2,none⟩) M).trans (d' ac);have ak:=y' (i:=0) L.box;have ao:=y' (i:=2) L.box;have ap:=y' (i:=3) L.box;have aq:=y' (i:=4) L.box;simp at ak ao ap aq;have aG:=L.at s G;have aH:=H' (i:=s) L.num;have V:(s:Int) < 3:=(by omega);have au:=m' ((d' ad).far (C' (E:=fun _=>False) (L.bel.mono (z13 _))) (fun _ _ h=>h));have I:=m' L;clear L;have av:=bX' F.data.toList (4 * s);have ax:=m' ((d' au));have Y:=aa s G wr;have ay:=m' ((d' Z) s G);have az:((4 * s:Nat):Int)=4 * (s:Int):=(by omega);rw[az]at Y;generalize Qb.Qg F.data.toList (4 * s)=aA at *;obtain⟨aI,aJ⟩:=av;go_wp2_with (first|(go_at_call 166;refine(d' Y).mono ?_;rintro aK w1 ⟨rfl,k1,rfl⟩)|(go_at_call 209;refine(pI' ((d' ax).far (C' (E:=fun _=>False) (z41 (z11 _ _) _)) (fun _ _ h=>h)) s G aA (by omega)).mono ?_;rintro aL aM ⟨rfl,rfl⟩;rw[<-d' ay]));go_roundw
   case rel=>exact⟨s+1,by omega,by go_num,((d' I).drew _).set G⟩
   case measure=>simp[intOf];omega
  ·have V:s=3:=(by omega);subst V;obtain⟨z0,aB,aC⟩:=cC' L.num;obtain⟨aD,aE,aF⟩:=cC' L.out;have f0:=H' (i:=0) L.out;have f1:=H' (i:=1) L.out;have f2:=H' (i:=2) L.out;simp[cD']at z0 aB aC aD aE aF;have I:=m' L;clear L;go_wp2;exact z50 (v:= .agg #[.int .i64 (sv 0), .int .i64 (sv 1), .int .i64 (sv 2)]) (by simp[results,results173,go_sem, *]) rfl ⟨rfl,(((d' I).bel.setCell (p:=⟨p.heap.size+1,0,none⟩) (by simp) _).setCell (p:=⟨p.heap.size+1,1,none⟩) (by simp) _).setCell (p:=⟨p.heap.size+1,2,none⟩) (by simp) _⟩
theorem uz' (R:Qk p w y H b z) (st q:Int) (J:z10) (aa:0<=q/\q<=2147483647) (sv:Nat->Nat) (O:∀s,s < 3->sv s=if st=s/\y.Qd=true then y.gone s q else 0):
  Calls prog 173 #[.pointer (some ⟨w,0,none⟩), .agg #[.int .i64 4, .int .i64 y.Qa, .int .i64 st, .int .i64 q, .string J]] p fun x w'=>x= .returned (.agg #[.int .i64 (sv 0), .int .i64 (sv 1), .int .i64 (sv 2)])/\Below p.heap.size p w':=by
 have ab:=m' O;obtain⟨aG,aH⟩:=aa;clear O;have c0:=y' (i:=0) R.blk;have c2:=y' (i:=2) R.blk;simp[ai']at c0 c2;have Q:=z14 R.blk;have ac:((y.Qa:Int) != (y.Qa:Int))=false:=by simp
 have V:=m' c0;have ad:=m' c2;have ah:=m' R;clear R c0 c2;generalize ai:y.Qd=aj at *;clear ai;generalize ak:(y.Qa:Int)=ep at ac V ⊢;clear ak;go_enter func173,ntmps173;go_upto_region 2 with fail;refine G' (fun x=>Xs p x 4 ep st q J 0 0 0) (kf' p 4 ep st q J) ?_;intro x L;have Y:=y' (i:=1) L.box;have c0:=(L.bel.cell (p:=⟨w,0,none⟩) Q).trans (d' V);simp at Y;have ao:=m' L;clear L;go_quiet (fail);have ap:=m' ((d' ao).drew nq);clear Y c0;go_wp2;go_loopw[6] (fun i wr=>∃s:Nat,s<=3/\i= .int .i64 s/\Xs p wr 4 ep st q J (cD' sv s 0) (cD' sv s 1) (cD' sv s 2)) (fun i _=>3 - (intOf i).toNat)
 case atStart=>exact⟨0,by omega,rfl,d' ap⟩
 case round=>
  obtain⟨s,hs,rfl,L⟩:=hrel;by_cases F:s < 3
  ·have c2:=(L.bel.cell (p:=⟨w,2,none⟩) Q).trans (d' ad);have aq:=y' (i:=0) L.box;have au:=y' (i:=2) L.box;have av:=y' (i:=3) L.box;have ax:=y' (i:=4) L.box;simp at aq au av ax;have aI:=L.at s F;have aJ:=H' (i:=s) L.num;have Z:(s:Int) < 3:=(by omega);have ay:=m' ((d' ah).far (C' (E:=fun _=>False) (L.bel.mono (z13 _))) (fun _ _ h=>h));have G:=m' L;clear L;have az:=m' (pI' (d' ay) s F q (by omega));have M:=m' ((d' ab) s F);by_cases hst:st=s
   ·cases aj
    ·have I:=m' (show sv s=0 by rw[d' M,if_neg (by simp)]);go_wp2;go_roundw
     case rel=>exact⟨s+1,by omega,by go_num,(d' G).keep F (d' I)⟩
     case measure=>simp[intOf];omega
    ·have I:=m' (show sv s=y.gone s q by rw[d' M,if_pos ⟨hst,rfl⟩]);have aA:(st== (s:Int))=true:=(by simpa using hst);clear hst;go_wp2_with (go_at_call 209;refine(d' az).mono ?_;rintro aK aL ⟨rfl,rfl⟩;rw[<-d' I]);go_roundw
     case rel=>exact⟨s+1,by omega,by go_num,(d' G).set F⟩
     case measure=>simp[intOf];omega
   ·have I:=m' (show sv s=0 by rw[d' M,if_neg (fun h=>hst h.1)]);have aA:(st== (s:Int))=false:=(by simpa using hst);go_wp2;go_roundw
    case rel=>exact⟨s+1,by omega,by go_num,(d' G).keep F (d' I)⟩
    case measure=>simp[intOf];omega
  ·have Z:s=3:=(by omega);subst Z;obtain⟨z0,aB,aC⟩:=cC' L.num;obtain⟨aD,aE,aF⟩:=cC' L.out;have f0:=H' (i:=0) L.out;have f1:=H' (i:=1) L.out;have f2:=H' (i:=2) L.out;simp[cD']at z0 aB aC aD aE aF;have G:=m' L;clear L;go_wp2;exact z50 (v:= .agg #[.int .i64 (sv 0), .int .i64 (sv 1), .int .i64 (sv 2)]) (by simp[results,results173,go_sem, *]) rfl ⟨rfl,(((d' G).bel.setCell (p:=⟨p.heap.size+1,0,none⟩) (by simp) _).setCell (p:=⟨p.heap.size+1,1,none⟩) (by simp) _).setCell (p:=⟨p.heap.size+1,2,none⟩) (by simp) _⟩
theorem sn' (R:Qk p w y H b z) (k st q:Int) (F:z10) (h2:¬k=2) (h4:¬k=4) (sv:Nat->Nat) (J:∀s,s < 3->sv s=0):
  Calls prog 173 #[.pointer (some ⟨w,0,none⟩), .agg #[.int .i64 k, .int .i64 y.Qa, .int .i64 st, .int .i64 q, .string F]] p fun x w'=>x= .returned (.agg #[.int .i64 (sv 0), .int .i64 (sv 1), .int .i64 (sv 2)])/\Below p.heap.size p w':=by
 have Y:=m' J;have k2:(k==2)=false:=by simpa using h2
 have k4:(k==4)=false:=by simpa using h4
 clear J h2 h4;have c0:=y' (i:=0) R.blk;have c2:=y' (i:=2) R.blk;simp[ai']at c0 c2;have M:=z14 R.blk;have Z:((y.Qa:Int) != (y.Qa:Int))=false:=by simp
 have O:=m' c0;have aa:=m' c2;have ab:=m' R;clear R c0 c2;generalize ac:(y.Qa:Int)=ep at Z O ⊢;clear ac;go_enter func173,ntmps173;go_upto_region 2 with fail;refine G' (fun x=>Xs p x k ep st q F 0 0 0) (kf' p k ep st q F) ?_;intro x L;have Q:=y' (i:=1) L.box;have c0:=(L.bel.cell (p:=⟨w,0,none⟩) M).trans (d' O);simp at Q;have ad:=m' L;clear L;go_quiet (fail);have ah:=m' ((d' ad).drew nq);clear Q c0;go_wp2;go_loopw[6] (fun i wr=>∃s:Nat,s<=3/\i= .int .i64 s/\Xs p wr k ep st q F (cD' sv s 0) (cD' sv s 1) (cD' sv s 2)) (fun i _=>3 - (intOf i).toNat)
 case atStart=>exact⟨0,by omega,rfl,d' ah⟩
 case round=>
  obtain⟨s,hs,rfl,L⟩:=hrel;by_cases G:s < 3
  ·have c2:=(L.bel.cell (p:=⟨w,2,none⟩) M).trans (d' aa);have ai:=y' (i:=0) L.box;have aj:=y' (i:=2) L.box;have ak:=y' (i:=3) L.box;have ao:=y' (i:=4) L.box;simp at ai aj ak ao;have ay:=L.at s G;have az:=H' (i:=s) L.num;have V:(s:Int) < 3:=(by omega);have aA:=m' ((d' ab).far (C' (E:=fun _=>False) (L.bel.mono (z13 _))) (fun _ _ h=>h));have I:=m' L;clear L;go_wp2;go_roundw
   case rel=>exact⟨s+1,by omega,by go_num,(d' I).keep G ((d' Y) s G)⟩
   case measure=>simp[intOf];omega
  ·have V:s=3:=(by omega);subst V;obtain⟨z0,ap,aq⟩:=cC' L.num;obtain⟨au,av,ax⟩:=cC' L.out;have f0:=H' (i:=0) L.out;have f1:=H' (i:=1) L.out;have f2:=H' (i:=2) L.out;simp[cD']at z0 ap aq au av ax;have I:=m' L;clear L;go_wp2;exact z50 (v:= .agg #[.int .i64 (sv 0), .int .i64 (sv 1), .int .i64 (sv 2)]) (by simp[results,results173,go_sem, *]) rfl ⟨rfl,(((d' I).bel.setCell (p:=⟨p.heap.size+1,0,none⟩) (by simp) _).setCell (p:=⟨p.heap.size+1,1,none⟩) (by simp) _).setCell (p:=⟨p.heap.size+1,2,none⟩) (by simp) _⟩
theorem fF' (R:Qk p w y H b z) (k e st q:Int) (F:z10) (h2:k=2->F.size=12) (h4:k=4->0<=q/\q<=2147483647):
  Calls prog 173 #[.pointer (some ⟨w,0,none⟩), .agg #[.int .i64 k, .int .i64 e, .int .i64 st, .int .i64 q, .string F]] p fun x w'=>
   x= .returned (.agg #[.int .i64 (y.Xr k e st q F 0), .int .i64 (y.Xr k e st q F 1), .int .i64 (y.Xr k e st q F 2)])/\Below p.heap.size p w':=by
 by_cases G:e=y.Qa
 ·subst G;by_cases I:k=2
  ·subst I;exact uy' R st q F (h2 rfl) _ (fun s _=>by simp[Mq.Ag.Xr])
  by_cases J:k=4
  ·subst J;exact uz' R st q F (h4 rfl) _ (fun s _=>by simp[Mq.Ag.Xr])
  ·exact sn' R k st q F I J _ (fun s _=>by simp[Mq.Ag.Xr,I,J])
 ·have M:∀s,y.Xr k e st q F s=0:=fun s=>by simp[Mq.Ag.Xr,G]
  simp only[M];exact mp' R k e st q F G
structure Yz (w x:World) (p:Nat) (a:Mq.Ag) (r:ah') (kv hv:Nat->Value) (k e st q:Int) (b:z10):Prop where
 bel:Below w.heap.size w x
 box:x.heap[w.heap.size]? =some (.cells #[.int .i64 k, .int .i64 e, .int .i64 st, .int .i64 q, .string b] 41 (0,0))
 ref:Qk x p a r kv hv
theorem cY' (R:Qk p w y H b z) (k e st q:Int) (F:z10):Yz p (p.alloc (.cells #[.int .i64 k, .int .i64 e, .int .i64 st, .int .i64 q, .string F] 41)) w y H b z k e st q F:=
 ⟨(z11 _ _).alloc (z13 _) _,z19 p _,R.far (C' (E:=fun _=>False) ((z11 _ _).alloc (z13 _) _)) (fun _ _ h=>h)⟩
theorem Yz.drew {w x:World} {p:Nat} {a:Mq.Ag} {r:ah'} {z F:Nat->Value} {k e st q:Int} {b:z10} (h:Yz w x p a r z F k e st q b) (n:Nat):Yz w (x.drewN n) p a r z F k e st q b:=
 ⟨z41 h.bel n,h.box,h.ref.far (C' (E:=fun _=>False) (z41 (z11 _ _) n)) (fun _ _ h=>h)⟩
theorem Qk.fenced (R:Qk p w y H b z) (v:Bool):Qk (p.setCell ⟨w,3,none⟩ (.bool v)) w {y with fenced:=v} H b z:=by
 have J:=Q' p w 3 (.bool v);exact⟨by have:=aa' (j:=3) (v:= .bool v) R.blk;rw[this];rfl,fun t F=>(R.kept t F).far J (fun g G I=>(R.kept t F).ne R.blk (by decide) (by rw[G,I])),fun t F=>(R.held t F).far J (fun g G I=>(R.held t F).ne R.blk (by decide) (by rw[G,I])),R.apk,R.aph,R.ep,R.tk,R.bs,R.kl,R.hl⟩
theorem Qk.Qd (R:Qk p w y H b z) (v:Bool):Qk (p.setCell ⟨w,2,none⟩ (.bool v)) w {y with Qd:=v} H b z:=by
 have J:=Q' p w 2 (.bool v);exact⟨by have:=aa' (j:=2) (v:= .bool v) R.blk;rw[this];rfl,fun t F=>(R.kept t F).far J (fun g G I=>(R.kept t F).ne R.blk (by decide) (by rw[G,I])),fun t F=>(R.held t F).far J (fun g G I=>(R.held t F).ne R.blk (by decide) (by rw[G,I])),R.apk,R.aph,R.ep,R.tk,R.bs,R.kl,R.hl⟩
theorem bM' {a':Mq.Ag} (R:Qk u w a' H b z) (F:Far (aO' w b z) p u):aU' p u w a' H b z:=⟨b,z,R,F,fun _ h=> .inl h⟩
theorem iC' (R:Qk p w y H b z) (k e st q:Int) (F:z10) (hk:k=5) (V:(y.Qa:Int) < e):
  Calls prog 174 #[.pointer (some ⟨w,0,none⟩), .agg #[.int .i64 k, .int .i64 e, .int .i64 st, .int .i64 q, .string F]] p fun x w'=>x= .returned (.tuple #[])/\aU' p w' w {y with fenced:=true} H b z:=by
 have k5:(k==5)=true:=by simpa using hk
 clear hk;have G:=m' (cY' R k e st q F);have Y:=z14 R.blk;generalize I:(y.Qa:Int)=ep at *;go_enter func174,ntmps174;go_upto_region 1 with fail;refine G' (fun x=>Yz p x w y H b z k e st q F) (d' G) ?_;clear G R;intro x L;obtain⟨M,O⟩:=cW' L.box;have c0:=y' (i:=0) L.ref.blk;have c2:=y' (i:=2) L.ref.blk;have f2:=H' (i:=2) L.ref.blk;have c3:=y' (i:=3) L.ref.blk;have f3:=H' (i:=3) L.ref.blk;simp[ai']at M O c0 c2 c3;rw[I]at c0;have Q:=m' L;clear L I;go_quiet (fail);go_wp2;refine z50 (z65 rfl _ _ _) rfl ?_;have J:=(d' Q).drew nq;exact⟨rfl,bM' (J.ref.fenced true) ((C' J.bel).trans (Q' _ w 3 (.bool true)) (fun k _ h=> .inl h))⟩
theorem hO' (R:Qk p w y H b z) (k e st q:Int) (F:z10) (hk:k=5) (O:¬ (y.Qa:Int) < e) (G:¬e=y.Qa):
  Calls prog 174 #[.pointer (some ⟨w,0,none⟩), .agg #[.int .i64 k, .int .i64 e, .int .i64 st, .int .i64 q, .string F]] p fun x w'=>x= .returned (.tuple #[])/\aU' p w' w y H b z:=by
 have k5:(k==5)=true:=by simpa using hk
 have Y:(e != (y.Qa:Int))=true:=by simpa using G
 clear hk G;have I:=m' (cY' R k e st q F);have Z:=z14 R.blk;generalize J:(y.Qa:Int)=ep at *;have hd:decide (ep < e)=false:=by simpa using O
 go_enter func174,ntmps174;go_upto_region 1 with fail;refine G' (fun x=>Yz p x w y H b z k e st q F) (d' I) ?_;clear I R;intro x L;obtain⟨Q,V⟩:=cW' L.box;have c0:=y' (i:=0) L.ref.blk;have c2:=y' (i:=2) L.ref.blk;have f2:=H' (i:=2) L.ref.blk;have c3:=y' (i:=3) L.ref.blk;have f3:=H' (i:=3) L.ref.blk;simp[ai']at Q V c0 c2 c3;rw[J]at c0;have M:=m' L;clear L J;go_quiet (fail);go_wp2;go_quiet (fail);go_wp2;refine z50 (z65 rfl _ _ _) rfl ?_;exact⟨rfl,bM' (a':=y) (((d' M).drew _).drew _).ref (C' (((d' M).drew _).drew _).bel)⟩
theorem iD' (R:Qk p w y H b z) (k e st q:Int) (F:z10) (hk:¬k=5) (G:¬e=y.Qa):
  Calls prog 174 #[.pointer (some ⟨w,0,none⟩), .agg #[.int .i64 k, .int .i64 e, .int .i64 st, .int .i64 q, .string F]] p fun x w'=>x= .returned (.tuple #[])/\aU' p w' w y H b z:=by
 have k5:(k==5)=false:=by simpa using hk
 have V:(e != (y.Qa:Int))=true:=by simpa using G
 clear hk G;have I:=m' (cY' R k e st q F);have Y:=z14 R.blk;generalize J:(y.Qa:Int)=ep at *;go_enter func174,ntmps174;go_upto_region 1 with fail;refine G' (fun x=>Yz p x w y H b z k e st q F) (d' I) ?_;clear I R;intro x L;obtain⟨O,Q⟩:=cW' L.box;have c0:=y' (i:=0) L.ref.blk;have c2:=y' (i:=2) L.ref.blk;have f2:=H' (i:=2) L.ref.blk;have c3:=y' (i:=3) L.ref.blk;have f3:=H' (i:=3) L.ref.blk;simp[ai']at O Q c0 c2 c3;rw[J]at c0;have M:=m' L;clear L J;go_quiet (fail);go_wp2;go_quiet (fail);go_wp2;refine z50 (z65 rfl _ _ _) rfl ?_;exact⟨rfl,bM' (a':=y) (((d' M).drew _).drew _).ref (C' (((d' M).drew _).drew _).bel)⟩
theorem iE' (R:Qk p w y H b z) (k e st q:Int) (F:z10) (hk:k=5) (I:e=y.Qa):
  Calls prog 174 #[.pointer (some ⟨w,0,none⟩), .agg #[.int .i64 k, .int .i64 e, .int .i64 st, .int .i64 q, .string F]] p fun x w'=>x= .returned (.tuple #[])/\aU' p w' w {y with Qd:=false} H b z:=by
 have k5:(k==5)=true:=by simpa using hk
 have O:¬ (y.Qa:Int) < e:=by omega
 have Y:(e != (y.Qa:Int))=false:=by simpa using I
 clear hk I;have J:=m' (cY' R k e st q F);have Z:=z14 R.blk;generalize M:(y.Qa:Int)=ep at *;have hd:decide (ep < e)=false:=by simpa using O
 go_enter func174,ntmps174;go_upto_region 1 with fail;refine G' (fun x=>Yz p x w y H b z k e st q F) (d' J) ?_;clear J R;intro x L;obtain⟨Q,V⟩:=cW' L.box;have c0:=y' (i:=0) L.ref.blk;have c2:=y' (i:=2) L.ref.blk;have f2:=H' (i:=2) L.ref.blk;have c3:=y' (i:=3) L.ref.blk;have f3:=H' (i:=3) L.ref.blk;simp[ai']at Q V c0 c2 c3;rw[M]at c0;have G:=m' L;clear L M;go_quiet (fail);go_wp2;go_quiet (fail);go_wp2;refine z77 (z65 rfl _ _ _) rfl ?_;have aa:=(d' G).drew nq;exact⟨rfl,bM' ((((d' G).drew _).ref).Qd false) ((C' ((d' G).drew _).bel).trans (Q' _ w 2 (.bool false)) (fun k _ h=> .inl h))⟩
theorem jS' (R:Qk p w y H b z) (k e st q:Int) (F:z10) (h5:¬k=5) (h2:¬k=2) (h4:¬k=4) (G:e=y.Qa):
  Calls prog 174 #[.pointer (some ⟨w,0,none⟩), .agg #[.int .i64 k, .int .i64 e, .int .i64 st, .int .i64 q, .string F]] p fun x w'=>x= .returned (.tuple #[])/\aU' p w' w y H b z:=by
 have k5:(k==5)=false:=by simpa using h5
 have k2:(k==2)=false:=by simpa using h2
 have k4:(k==4)=false:=by simpa using h4
 have V:(e != (y.Qa:Int))=false:=by simpa using G
 clear h5 h2 h4 G;have I:=m' (cY' R k e st q F);have Y:=z14 R.blk;generalize J:(y.Qa:Int)=ep at *;go_enter func174,ntmps174;go_upto_region 1 with fail;refine G' (fun x=>Yz p x w y H b z k e st q F) (d' I) ?_;clear I R;intro x L;obtain⟨O,Q⟩:=cW' L.box;have c0:=y' (i:=0) L.ref.blk;have c2:=y' (i:=2) L.ref.blk;have f2:=H' (i:=2) L.ref.blk;have c3:=y' (i:=3) L.ref.blk;have f3:=H' (i:=3) L.ref.blk;simp[ai']at O Q c0 c2 c3;rw[J]at c0;have M:=m' L;clear L J;go_quiet (fail);go_wp2;go_quiet (fail);go_wp2;refine z77 (z65 rfl _ _ _) rfl ?_;exact⟨rfl,bM' (a':=y) ((d' M).drew _).ref (C' ((d' M).drew _).bel)⟩
theorem iF' (R:Qk p w y H b z) (k e st q:Int) (F:z10) (hk:k=4) (G:e=y.Qa) (I:y.Qd=false):
  Calls prog 174 #[.pointer (some ⟨w,0,none⟩), .agg #[.int .i64 k, .int .i64 e, .int .i64 st, .int .i64 q, .string F]] p fun x w'=>x= .returned (.tuple #[])/\aU' p w' w y H b z:=by
 have k5:(k==5)=false:=by subst hk;rfl
 have k2:(k==2)=false:=by subst hk;rfl
 have k4:(k==4)=true:=by subst hk;rfl
 have Y:(e != (y.Qa:Int))=false:=by simpa using G
 clear hk G;have J:=m' (cY' R k e st q F);have Z:=z14 R.blk;generalize M:(y.Qa:Int)=ep at *;go_enter func174,ntmps174;go_upto_region 1 with fail;refine G' (fun x=>Yz p x w y H b z k e st q F) (d' J) ?_;clear J R;intro x L;obtain⟨Q,V⟩:=cW' L.box;have c0:=y' (i:=0) L.ref.blk;have c2:=y' (i:=2) L.ref.blk;have f2:=H' (i:=2) L.ref.blk;have c3:=y' (i:=3) L.ref.blk;have f3:=H' (i:=3) L.ref.blk;simp[ai']at Q V c0 c2 c3;rw[M]at c0;rw[I]at c2;have O:=m' L;clear L M;clear I;go_quiet (fail);go_wp2;go_quiet (fail);go_wp2;refine z50 (z65 rfl _ _ _) rfl ?_;exact⟨rfl,bM' (a':=y) ((d' O).drew _).ref (C' ((d' O).drew _).bel)⟩
end Go.Proofs.YtamafdcnbcoegaaGreat
