/-
  Part 11 of a proof: LB1, L35.
-/
import Derived.Test.YtamafdcnbcoegaaGreatSf10
set_option maxRecDepth 100000
set_option maxHeartbeats 40000000
namespace Go.Proofs.YtamafdcnbcoegaaGreat
open Go.RowKit
theorem sH' {op ct m:Nat} {st:Mod.Stv} {a:Mod.Ag} {free:List Nat} {r:Nat->List Nat} (h:eR' op ct m st a free r) (I:ct+1000 < 18446744073709551616) (J:m≠1) (P:Mod.Places a free r) (n f:Nat->Nat) (D:∀i,i < 3->n i<=(a.fl i).kept.length) (z:∀i,i < 3->f i=(a.fl i).base+n i) (F:∀i,i < 3->(a.fl i).base+(a.fl i).kept.length<=2147483647):
  (st.putNumbers (f 0) (f 1) (f 2)).1=0/\eR' op (ct+1) (m - 1) (st.putNumbers (f 0) (f 1) (f 2)).2 (a.drop n) (frD free r n 3) (plD r n 3):=by
 have G:=mz' h (by omega);have u:∀i,i < 3->((a.drop n).fl i).base=(a.fl i).base+n i/\((a.drop n).fl i).kept.map (·.1)=((a.fl i).kept.drop (n i)).map (·.1):=fun i hi=>by simp[Mod.Ag.drop,Mod.dropTo,hi,Mod.Flow.drop]
 have hd:=h.dk.gone (a':=a.drop n) (free':=frD free r n 3) (pl':=plD r n 3) P n D u (fun i hi=>by unfold plD;rw[if_pos hi]) (fun x H=>rJ' 3 H) (by have:=h.ct;omega) F;rw[(u 0 (by omega)).1,(u 1 (by omega)).1,(u 2 (by omega)).1,<-z 0 (by omega),<-z 1 (by omega),<-z 2 (by omega)]at hd;have h1:=h.dead;have h2:=h.arm;have h3:=h.ct;unfold Mod.Stv.putNumbers Mod.Dk.put;rw[if_neg (by rw[h1];simp),if_neg (by rw[h2];omega),G];exact⟨rfl,rfl,by show st.dk.armed - 1=m - 1;rw[h2],h.op,by show st.count+1<=ct+1;omega,hd⟩
def cn' (o:Nat×Nat) (st:Mod.Stv) (a:Mod.Ag) (free:List Nat) (f:Nat->List Nat):Prop:=eR' o.1 (1+fH' a) o.2 st a free f
theorem cn'.same {op:Nat×Nat} {st:Mod.Stv} {a a':Mod.Ag} {free:List Nat} {f:Nat->List Nat} (h:cn' op st a free f) (r:∀i,i < 3->(a'.fl i).base=(a.fl i).base/\(a'.fl i).kept.map (·.1)=(a.fl i).kept.map (·.1)):cn' op st a' free f:=by
 unfold cn';rw[sG' r];exact eR'.same (op:=op.1) (n:=op.2) h r
theorem cn'.flags {op:Nat×Nat} {st:Mod.Stv} {a:Mod.Ag} {free:List Nat} {f:Nat->List Nat} (h:cn' op st a free f) (tk:Nat) (wel fen:Bool):cn' op st {a with ticks:=tk,welcome:=wel,fenced:=fen} free f:=h.same (fun _ _=>⟨rfl,rfl⟩)
def dT' (o:Nat×Nat) (k:Nat):Nat×Nat:=if k=0 then o else(o.1,o.2 - 1)
theorem cQ' (o:Nat×Nat):dT' o 0=o:=rfl
theorem tT' (o:Nat×Nat) {k:Nat} (h:0 < k):dT' o k=(o.1,o.2 - 1):=by unfold dT';rw[if_neg (by omega)]
theorem uN' (o:Nat×Nat) (k:Nat):(dT' o k).1=o.1:=by unfold dT';split <;> rfl
theorem tU' {op:Nat×Nat} {st:Mod.Stv} {a:Mod.Ag} {free:List Nat} {r:Nat->List Nat} (h:cn' op st a free r) (P:Mod.Places a free r) (n f:Nat->Nat) (u:∀i,i < 3->n i<=(a.fl i).kept.length) (D:∀i,i < 3->f i=(a.fl i).base+n i) (z:∀i,i < 3->(a.fl i).base+(a.fl i).kept.length<=2147483647) (G:0 < n 0+n 1+n 2) (F:op.2≠1):
  (st.putNumbers (f 0) (f 1) (f 2)).1=0/\cn' (op.1,op.2 - 1) (st.putNumbers (f 0) (f 1) (f 2)).2 (a.drop n) (frD free r n 3) (plD r n 3):=by
 have H:=rK' z;obtain⟨h1,h2⟩:=sH' (ct:=1+fH' a) h (by omega) F P n f u D z;refine⟨h1,⟨h2.dead,h2.arm,h2.op,Nat.le_trans h2.ct ?_,h2.dk⟩⟩;have hl:∀i,i < 3->((a.drop n).fl i).base=(a.fl i).base+n i/\((a.drop n).fl i).kept.length=(a.fl i).kept.length - n i:=fun i hi=>by simp[Mod.Ag.drop,Mod.dropTo,hi,Mod.Flow.drop]
 have I:=u 0 (by omega);have J:=u 1 (by omega);have M:=u 2 (by omega);show 1+fH' a+1<=1+fH' (a.drop n);unfold fH';rw[(hl 0 (by omega)).1,(hl 0 (by omega)).2,(hl 1 (by omega)).1,(hl 1 (by omega)).2,(hl 2 (by omega)).1,(hl 2 (by omega)).2];omega
def bE' (op:Nat×Nat) (w x:World) (p:Nat) (a:Mod.Ag) (c:Av):Prop:=
 ∃g free sh f st,az' w x p g a.ticks a.welcome a.fenced free sh st c/\cn' op st a free f/\aO' a st.opening g free sh f
theorem bE'.behind {op:Nat×Nat} {w x y:World} {p:Nat} {a:Mod.Ag} {c:Av} (h:bE' op x y p a c) (f:Below w.heap.size w x):bE' op w y p a c:=by
 obtain⟨g,free,sh,r,st,u,hs,z⟩:=h;exact⟨g,free,sh,r,st,u.behind f,hs,z⟩
theorem bE'.below {op:Nat×Nat} {w x y:World} {p:Nat} {a:Mod.Ag} {c:Av} (h:bE' op w x p a c) (f:Below x.heap.size x y):bE' op w y p a c:=by
 obtain⟨g,free,sh,r,st,u,hs,z⟩:=h;exact⟨g,free,sh,r,st,u.below f,hs,z⟩
theorem bM' {op:Nat×Nat} {w:World} {p:Nat} {g:Nat->Nat} {free:List Nat} {sh:Nat->List (Nat×Value)} {st:Mod.Stv} {c:Av} {a:Mod.Ag} {f:Nat->List Nat} (r:aA' w p g a.ticks a.welcome a.fenced free sh st c) (hs:cn' op st a free f) (u:aO' a st.opening g free sh f):bE' op w w p a c:=⟨g,free,sh,f,st,ji' r,hs,u⟩
section
variable {w:World} {p:Nat} {g:Nat->Nat} {free:List Nat} {sh:Nat->List (Nat×Value)} {st:Mod.Stv} {c:Av} {a:Mod.Ag} {pl:Nat->List Nat} {op:Nat×Nat}
theorem pj' (X:aA' w p g a.ticks a.welcome a.fenced free sh st c) (hs:cn' op st a free pl) (bf:op.2≠1) (cD:∀i,i < 3->(a.fl i).base+(a.fl i).kept.length<=2147483647) (bz:aO' a st.opening g free sh pl) (n f:Nat->Nat) (bO:∀i,i < 3->n i<=(a.fl i).kept.length) (bA:∀i,i < 3->f i=(a.fl i).base+n i) (bB:∀i,i < 3->f i < 4294967296)
  (bP:¬ (f 0=g 0/\f 1=g 1/\f 2=g 2)):
  Calls Tryz.prog 152 #[y' p, .agg #[.int .i64 (f 0), .int .i64 (f 1), .int .i64 (f 2)]] w fun bC r=>bC= .returned (.int .i64 0)/\bE' (op.1,op.2 - 1) w r p (a.drop n) c:=by
 have g0:w.cell? ⟨p,1,none⟩=some (.int .i64 (g 0)):=by rw[m' X.ks.blk];exact X.ks.ag 0 (by omega)
 have g1:w.cell? ⟨p,2,none⟩=some (.int .i64 (g 1)):=by rw[m' X.ks.blk];exact X.ks.ag 1 (by omega)
 have g2:w.cell? ⟨p,3,none⟩=some (.int .i64 (g 2)):=by rw[m' X.ks.blk];exact X.ks.ag 2 (by omega)
 have bQ:=lt_of_block X.ks.blk;obtain⟨h0,bR⟩:=tU' hs bz.places n f bO bA cD (kL' bz bA bP) bf;have bD:=fA' (st:=st) (f 0) (f 1) (f 2) X.stt.hd (by rw[X.len];omega);rw[X.len]at bD;have bS:=dE' (st:=st) (f 0) (f 1) (f 2);have bT:=fun y (ak:cC' y c.s c.dp st c.dlv c.duv)=>cg' y c.s c.dp st c.dlv c.duv ak (f 0) (f 1) (f 2) (bB 0 (by omega)) (bB 1 (by omega)) (bB 2 (by omega));obtain⟨ao,bU⟩:∃ao,ao=(st.putNumbers (f 0) (f 1) (f 2)).2:=⟨_,rfl⟩;rw[h0,<-bU]at bT;rw[<-bU]at bR bD bS;have cE:∀r:World,(Op.equalIn 10000 136 (.agg #[.int .i64 (f 0), .int .i64 (f 1), .int .i64 (f 2)]) (.agg #[.int .i64 (g 0), .int .i64 (g 1), .int .i64 (g 2)])).run Tryz.prog r= .ok false r:=fun r=>by
  rw[hw'];congr 1;by_cases bg:(f 0:Int)=(g 0:Int)
  ·by_cases aD:(f 1:Int)=(g 1:Int)
   ·have aV:¬ (f 2:Int)=(g 2:Int):=fun aV=>bP ⟨by omega,by omega,by omega⟩;simp[aV]
   ·simp[aD]
  ·simp[bg]
 have cF:=fun(r:World) (bh:Av) (h:aA' r p g a.ticks a.welcome a.fenced free sh ao bh)=>oL' h f;have cG:∀j:Nat,j < 3->∀cH:Array Value,cH= #[.int .i64 (f 0), .int .i64 (f 1), .int .i64 (f 2)]->cH[j]? =some (.int .i64 (f j)):=by
  rintro j hj _ rfl;obtain rfl|rfl|rfl:j=0\/j=1\/j=2:=by omega
  all_goals rfl
 have cI:=fun y ak=>t' (bT y ak);have cJ:=fun r bh h=>t' (cF r bh h);have bV:=t' cG;have bE:=t' X;have cK:=t' bz;have aW:=t' (And.intro bR (And.intro bD (And.intro bS (And.intro bO bA))));obtain⟨aE,bW⟩:∃x,x=f 0:=⟨_,rfl⟩;obtain⟨aF,bX⟩:∃x,x=f 1:=⟨_,rfl⟩;obtain⟨aG,bY⟩:∃x,x=f 2:=⟨_,rfl⟩;rw[<-bW,<-bX,<-bY]at cI cE cJ bV ⊢;have et:=t' (And.intro bW (And.intro bX bY));generalize g 0=eu at *;generalize g 1=ev at *;generalize g 2=ew at *;clear bf X bz bR bD bS bT cF cG h0 bU bP bW bX bY bO bA bB hs cD;unfold y' at *;go_enter Tryz.func152,Tryz.ntmps152;go_upto_region 1 with fail;refine C' (fun x=>x.heap[w.heap.size]? =some (.cells #[.int .i64 aE, .int .i64 aF, .int .i64 aG] 136 (0,0))/\Below w.heap.size w x) ⟨heap_alloc_new _ _,(Below.refl _ _).alloc (Nat.le_refl _) _⟩ ?_;rintro x ⟨u,aH⟩;have aM:=m' (i:=0) u;have aN:=m' (i:=1) u;have aO:=m' (i:=2) u;simp at aM aN aO;have ad:=(aH.cell (p:=⟨p,1,none⟩) bQ).trans g0;have aX:=(aH.cell (p:=⟨p,2,none⟩) bQ).trans g1;have bZ:=(aH.cell (p:=⟨p,3,none⟩) bQ).trans g2;have aI:=t' aH;have bi:=t' u;clear u aH g0 g1 g2;go_quiet (fail);go_upto_region 3 with fail;refine C' (fun x=>x.heap[w.heap.size]? =some (.cells #[.int .i64 aE, .int .i64 aF, .int .i64 aG] 136 (0,0))/\Below w.heap.size w x) ⟨i' bi,(i' aI).trans (below_drewN (Below.refl _ _) _ |>.mono (i' aI).size)⟩ ?_;clear aM aN aO ad aX bZ aI bi cE;rintro x ⟨u,aH⟩;have aM:=m' (i:=0) u;have aN:=m' (i:=1) u;have aO:=m' (i:=2) u;simp at aM aN aO;have ey:=lt_of_block u;have aI:=t' aH;have bi:=t' u;have cL:∀k,w.heap.size<=k->¬StU c.s c.dp c.dlv c.duv k:=fun k bf h=>by have:=(i' bE).lt k (.inr (.inl h));omega
 clear u aH;refine Q' (by kernel_rfl)
  [fun v _=>v= .pointer (some ⟨p,0,none⟩),fun v _=>v= .pointer (some ⟨p,0,none⟩),fun v _=>v= .pointer (some ⟨p,0,none⟩),fun v _=>v= .pointer (some ⟨c.s,0,none⟩),fun v _=>v= .agg #[.int .i64 aE, .int .i64 aF, .int .i64 aG],
   fun v y=>v= .int .i64 0/\∃bj,cC' y c.s c.dp ao c.dlv bj/\Loc w c.duv bj,fun v _=>v= .int .i64 0]
  [[(0,none)],[(15,some 0)],[(16,some 1)],[(17,some 2)],[(3,none)],[(18,some 3),(19,some 4)],[(20,some 5)]] [some 15,some 16,some 17,some 18,some 19,some 20,some 5] [false,false,false,false,false,true,false,false,false,false,false,false,false,false,false,true,true,true,true,true,true,false,false,false,false,false,false,false,false,false,false,false,false,false,false,false,false,false,false,false,false,false,false,false,false,false,false,false,false,false,false,false,false,false,false,false,false,false,false,false,false,false,false,false,false,false,false,false,false]
  [(5,StU c.s c.dp c.dlv c.duv)]
  (by kernel_rfl) (by kernel_rfl) (by kernel_rfl) (by kernel_rfl) (by kernel_rfl) ?_ ?_ ?_ ?_
 ·repeat' (first|exact J' _|exact(fun _ _ _ h u=>⟨h.1,h.2.imp fun _ h=>⟨h.1.far (A' (E:=fun _=>False) u) (fun _ _ h=>h),h.2⟩⟩)|exact trivial|apply And.intro)
 ·repeat' (first|exact trivial|exact .inl rfl|exact .inr (.inr (ak' _ _))|apply And.intro)
 ·refine⟨?_,?_,?_,?_,?_,?_,?_,trivial⟩;all_goals
   intro a' r u H;have ap:=u.blk (i' bi) (aa' (by intro q z;simp at z;subst z;exact cL _ (Nat.le_refl _)));have bg:=m' (i:=0) ap;have aD:=m' (i:=1) ap;have aV:=m' (i:=2) ap;simp at bg aD aV;clear ap;simp only[I',List.getD_cons_zero,List.getD_cons_succ,Array.getD_eq_getD_getElem?]at H;try simp at H
  iterate 3
   ·clear u;go_simp;exact⟨_,rfl,Far.refl _ _,rfl⟩
  ·have z0:r.cell? ⟨p,0,none⟩=some (.pointer (some ⟨c.s,0,none⟩)):=by have ca:=(i' bE).below (i' aI);have:=u.blk ca.ks.blk (aa' (by intro q z;simp at z;subst z;exact fun h=>ca.sep p (.inl rfl) h));rw[m' this,ca.ks.a0];rfl
   clear u;go_simp;exact⟨_,rfl,Far.refl _ _,rfl⟩
  ·clear u;go_simp;exact⟨_,rfl,Far.refl _ _,rfl⟩
  ·have U:Below x.heap.size x r:=u.below (Nat.le_refl _) (by rintro j _ ⟨q,z,g1,g2,Y⟩;simp at z;subst z;exact g1 rfl);have cb:=t' (i' (cI r (((i' bE).below (i' aI)).below U).stt));have bF:=U.size;have ez:=(i' aI).size;clear u U;go_simp;refine(i' cb).mono ?_;rintro bC dG ⟨rfl,bj,k1,k2,k3⟩;exact⟨_,rfl,ac' (.head _) k3,rfl,bj,k1,bw' k2 (by omega)⟩
  ·clear u;obtain⟨H,_⟩:=H;go_simp;exact⟨_,rfl,Far.refl _ _,rfl⟩
 ·intro aY r hF J;obtain⟨_,bj,k1,k2⟩:=J.2.2.2.2.2.1;have dH:=J.2.2.2.2.2.2.1;have hF:Far (StU c.s c.dp c.dlv c.duv) x r:=hF.mono (fun k _ h=>by obtain⟨q,z,h⟩:=h;simp at z;subst z;exact h);have bk:=dp' (i' bE) k1 k2 ((A' (E:=StU c.s c.dp c.dlv c.duv) (i' aI)).trans hF (fun _ _ h=>h)) (i' aW).2.1;have U:=hF.blk (i' bi) (cL _ (Nat.le_refl _));have cM:=bk.trans (fun bh h=>i' (cJ r bh h));obtain⟨eA,aq,_⟩:=id bk;have cN:r.frozen? ⟨p,1,none⟩=false:=D' (i:=1) aq.ks.blk;have ah:r.frozen? ⟨p,2,none⟩=false:=D' (i:=2) aq.ks.blk;have V:r.frozen? ⟨p,3,none⟩=false:=D' (i:=3) aq.ks.blk;have aX:r.cell? ⟨p,1,none⟩=some (.int .i64 (g 0)):=by rw[m' aq.ks.blk];exact aq.ks.ag 0 (by omega)
  have bZ:r.cell? ⟨p,2,none⟩=some (.int .i64 (g 1)):=by rw[m' aq.ks.blk];exact aq.ks.ag 1 (by omega)
  have dI:r.cell? ⟨p,3,none⟩=some (.int .i64 (g 2)):=by rw[m' aq.ks.blk];exact aq.ks.ag 2 (by omega)
  have aM:=m' (i:=0) U;have aN:=m' (i:=1) U;have aO:=m' (i:=2) U;simp at aM aN aO;have cc:¬w.heap.size=p:=by omega
  have cO:=t' cM;have az:=t' U;clear J hF k1 k2 bk U cM aq;simp only[R',dH];generalize aY 15=eB;generalize aY 16=eC;generalize aY 17=eD;generalize aY 18=eE;generalize aY 19=eF;generalize aY 20=eG;go_upto_region 7 with fail;have cP:(((r.setCell ⟨p,1,none⟩ (.int .i64 aE)).setCell ⟨p,2,none⟩ (.int .i64 aF)).setCell ⟨p,3,none⟩ (.int .i64 aG)).heap[w.heap.size]? =some (.cells #[.int .i64 aE, .int .i64 aF, .int .i64 aG] 136 (0,0)):=by rw[S' cc,S' cc,S' cc];exact i' az
  refine C' (fun y=>y.heap[w.heap.size]? =some (.cells #[.int .i64 aE, .int .i64 aF, .int .i64 aG] 136 (0,0))/\az' w y p f a.ticks a.welcome a.fenced free sh ao c) ⟨cP,i' cO⟩ ?_;clear cP az cO aM aN aO cN ah V aX bZ dI;rintro y cQ;have cd:=t' cQ;clear cQ;go_wp2;go_loopw[6,28] (fun _ i wr=>∃j:Nat,j<=3/\i= .int .i64 j/\wr.heap[w.heap.size]? =some (.cells #[.int .i64 aE, .int .i64 aF, .int .i64 aG] 136 (0,0))/\∃aJ F pl',az' w wr p f a.ticks a.welcome a.fenced aJ F ao c/\aO' (agD a n j) ao.opening (fun t=>((agD a n j).fl t).base) aJ F pl'/\aJ=frD free pl n j/\pl'=plD pl n j) (fun _ i _=>3 - (intOf i).toNat)
  case atStart=>refine⟨0,by omega,rfl,(i' cd).1,free,sh,pl,(i' cd).2,?_,rfl,(tQ' pl n).symm⟩;rw[tF',(i' aW).2.2.1];exact {(i' cK)with bs:=fun _ _=>rfl}
  case round=>
   obtain⟨j,hj,rfl,ap,aJ,F,pl',cR,aZ,cS,cT⟩:=hrel;have bl:=t' (And.intro cS cT);clear cd cS cT;by_cases aA:j < 3
   ·obtain⟨c1,aK,bm,bn,bo,bp⟩:=cR;have au:=(i' aW).2.2.2.1 j aA;have aP:=(i' aW).2.2.2.2 j aA;have av:=aZ.kp j aA;have aB:=aZ.pn j aA;rw[kv']at av aB;have cU:na' (F (j * 3)):=by rw[av];exact ga' _ _ _
    have hcut:bm' (F (j * 3)) (f j)=n j:=by rw[av,aP];exact gb' _ _ _ _ au aB
    have ce:=fun y (ak:Below wr.heap.size wr y)=>lK' ((aK.below ak).shAt (i:=j * 3) (by omega)) cU (f j);simp only[hcut]at ce;have aL:∀y (ak:Below wr.heap.size wr y),Hid (Calls Tryz.prog 200 #[.pointer (some ⟨p,4+j * 6,none⟩), .int .i64 (f j)] y fun e w'=>∃ax cap,e= .returned (.slice ax (n j) cap)/\ao' w' 158 2 (.slice ax (n j) cap) (n j) (ex' ((F (j * 3)).take (n j)))/\dA' y w' p (4+j * 3 * 2) 151 c1.arr (c1.nv (j * 3)) (c1.mv (j * 3)) ((F (j * 3)).drop (n j))):=by intro y ak;have h:=ce y ak;rw[show 4+j * 3 * 2=4+j * 6 by omega]at h ⊢;refine t' (h.mono ?_);rintro e w' ⟨v,rfl,cf,hs⟩;have cV:=ao'.of_own (ap' cf (Nat.zero_le _));obtain⟨ax,cap,rfl,_⟩:=cV.shape;exact⟨ax,cap,rfl,cV,hs⟩
    have cW:wr.cell? ⟨w.heap.size,j,none⟩=some (.int .i64 (f j)):=by rw[m' ap];exact(i' bV) j aA _ rfl
    have eH:=lt_of_block ap;have cX:=cG' aK ap (by decide) (by decide) (by decide) (by decide) (by decide) (by decide) (by decide);have cY:¬ (w.heap.size=p\/ShU (c1.nv (j * 3)) (c1.mv (j * 3)) w.heap.size):=fun h=>cX (h.elim (fun h=> .inl (.inl h)) (fun h=> .inl (.inr (.inr ⟨_,by omega,h⟩))));have eI:(0:Int)<=(j:Int):=by omega
    have eJ:(j:Int) < 3:=by omega
    have dJ:=t' (And.intro aK (And.intro bm (And.intro bn (And.intro bo bp))));have cg:=t' aZ;have ch:=t' ap;have bG:=t' (And.intro au (And.intro aP (And.intro av aB)));obtain⟨D,ci⟩:∃D,D=n j:=⟨_,rfl⟩;obtain⟨aC,cj⟩:∃aC,aC=f j:=⟨_,rfl⟩;rw[<-ci]at aL;rw[<-cj]at aL cW;have bq:=t' (And.intro ci cj);clear ce cU hcut aK bm bn bo bp aZ ap au aP av aB cX ci cj;go_upto_region 10 with fail;refine Q' (by kernel_rfl)
     [fun v _=>v= .pointer (some ⟨p,0,none⟩),fun v _=>v= .int .i64 j,fun v _=>v= .pointer (some ⟨p,0,none⟩),fun v _=>v= .pointer (some ⟨p,4,none⟩),fun v _=>v= .pointer (some ⟨p,4+j * 6,none⟩),fun v _=>v= .pointer (some ⟨p,4+j * 6,none⟩),fun v _=>v= .int .i64 j,fun v _=>v= .pointer (some ⟨w.heap.size,j,none⟩),fun v _=>v= .int .i64 aC,
      fun v r=>∃ax cap,v= .slice ax D cap/\ao' r 158 2 (.slice ax D cap) D (ex' ((F (j * 3)).take D))/\dA' wr r p (4+j * 3 * 2) 151 c1.arr (c1.nv (j * 3)) (c1.mv (j * 3)) ((F (j * 3)).drop D),fun v _=>v= .int .i64 D,fun v _=>v= .int .i64 0]
     [[(0,none)],[(6,none)],[(31,some 0)],[(33,some 2)],[(34,some 3),(32,some 1)],[(35,some 4)],[(6,none)],[(3,none),(37,some 6)],[(38,some 7)],[(36,some 5),(39,some 8)],[(40,some 9)],[]] [some 31,some 32,some 33,some 34,some 35,some 36,some 37,some 38,some 39,some 40,some 41,some 42] [false,false,false,false,false,false,false,false,false,false,false,false,false,false,false,false,false,false,false,false,false,false,false,false,false,false,false,false,false,false,false,true,true,true,true,true,true,true,true,true,true,true,true,false,false,false,false,false,false,false,false,false,false,false,false,false,false,false,false,false,false,false,false,false,false,false,false,false,false]
     [(9,fun k=>k=p\/ShU (c1.nv (j * 3)) (c1.mv (j * 3)) k)]
     (by kernel_rfl) (by kernel_rfl) (by kernel_rfl) (by kernel_rfl) (by kernel_rfl) ?_ ?_ ?_ ?_
    ·repeat' (first|exact J' _|exact(fun _ _ _ h u=>h.imp fun _ h=>h.imp fun _ h=>⟨h.1,h.2.1.keep (fun g I=>u.block g (h.2.1.lt g I)),nk' h.2.2 u⟩)|exact trivial|apply And.intro)
    ·repeat' (first|exact trivial|exact .inl rfl|exact .inr (.inr (ak' _ _))|exact .inr (.inl (by decide+kernel))|apply And.intro)
    ·refine⟨?_,?_,?_,?_,?_,?_,?_,?_,?_,?_,?_,?_,trivial⟩;all_goals
      intro a' r u H;have bg:r.cell? ⟨w.heap.size,j,none⟩=some (.int .i64 aC):=by have:=u.blk (i' ch) (aa' (by intro q z;simp at z;subst z;exact cY));rw[m' this,<-m' (i' ch)];exact cW
      simp only[I',List.getD_cons_zero,List.getD_cons_succ,Array.getD_eq_getD_getElem?]at H;try simp at H
     iterate 9
      ·clear u aL;go_simp;exact⟨_,rfl,Far.refl _ _,rfl⟩
     ·have U:Below wr.heap.size wr r:=u.below (Nat.le_refl _) (by rintro k _ ⟨q,z,g1,g2,Y⟩;simp at z;subst z;exact g1 rfl);have cb:=t' (i' (aL r U));have az:=t' U;clear u U aL;go_simp;refine(i' cb).mono ?_;rintro bC dG ⟨ax,cap,rfl,k1,k2⟩;exact⟨_,rfl,ac' (.head _) k2.far,ax,cap,rfl,k1,⟨k2.out,(A' (i' az)).trans k2.far (fun _ _ h=>h)⟩⟩
     ·obtain⟨ax,cap,eK,_⟩:=H;clear u aL;go_simp;exact⟨_,rfl,Far.refl _ _,rfl⟩
     ·clear u aL;go_simp;exact⟨_,rfl,Far.refl _ _,rfl⟩
    ·intro ah eL ai J;obtain⟨dK,dL,cZ,ck,cl⟩:=J.2.2.2.2.2.2.2.2.2.1;have db:=J.2.2.2.2.2.2.2.2.2.2.1;have dc:=J.2.2.2.2.2.2.2.2.2.2.2.1;clear J ai aL;simp only[R',cZ,db,dc];generalize ah 31=eM;generalize ah 32=eN;generalize ah 33=eO;generalize ah 34=eP;generalize ah 35=eQ;generalize ah 36=eR;generalize ah 37=eS;generalize ah 38=eT;generalize ah 39=eU;obtain⟨aK,bm,bn,bo,bp⟩:=i' dJ;have dd:=cl.far.blk (i' ch) cY;have cm:=ed' bm bn bo bp (cz' aK (i:=j * 3) (by omega) (cl.step (aK.ks.am (j * 3) (by omega))));obtain⟨aQ,ba⟩:∃aQ,aQ=fun t=>if t=j * 3 then(F (j * 3)).drop D else F t:=⟨_,rfl⟩
     rw[<-ba]at cm;obtain⟨br,bH⟩:∃br,br=ex' ((F (j * 3)).take D):=⟨_,rfl⟩;rw[<-bH]at ck;have de:∀t,t < D->∃cn:ByteArray,br[t * 2]? =some (.string cn)/\br[t * 2+1]? =some (.int .i64 ((pl' j).getD t 0:Nat)):=by
      intro t co;obtain⟨au,aP,av,aB⟩:=i' bG;rw[<-(i' bq).1]at au;rw[bH,av,kx'];have:=kw' (a.fl j).base ((a.fl j).kept.take D) ((pl' j).take D) t (by simp[aB]) (by simp;omega);have I:((pl' j).take D).getD t 0=(pl' j).getD t 0:=by rw[List.getD_eq_getElem?_getD,List.getD_eq_getElem?_getD,List.getElem?_take,if_pos co]
      rw[I]at this;exact⟨_,this.1,this.2⟩
     have df:∀t,t < D->(pl' j).take (t+1)=(pl' j).take t++[(pl' j).getD t 0]:=by
      intro t co;obtain⟨au,aP,av,aB⟩:=i' bG;rw[<-(i' bq).1]at au;have bt:t < (pl' j).length:=by omega
      rw[List.take_add_one,List.getElem?_eq_getElem bt,List.getD_eq_getElem?_getD,List.getElem?_eq_getElem bt];rfl
     have eV:D<=24:=by have h1:=(i' cK).small aA;have h2:=(i' bG).1;rw[<-(i' bq).1]at h2;omega
     have dg:=t' (And.intro dd (And.intro ck cm));have dh:=t' (And.intro de df);have cp:=t' (And.intro ba bH);clear aK bm bn bo bp dd cm ba bH de df ck cl db dc cZ;go_wp2;go_loopw[8,42] (fun _ i wr2=>∃t:Nat,t<=D/\i= .int .i64 t/\wr2.heap[w.heap.size]? =some (.cells #[.int .i64 aE, .int .i64 aF, .int .i64 aG] 136 (0,0))/\ao' wr2 158 2 (.slice dK D dL) D br/\az' w wr2 p f a.ticks a.welcome a.fenced (aJ++(pl' j).take t) aQ ao c) (fun _ i _=>D - (intOf i).toNat)
     case atStart=>obtain⟨cq,bI,dM⟩:=i' dg;exact⟨0,by omega,rfl,cq,bI,by simpa using dM⟩
     case round=>
      obtain⟨t,co,rfl,ay,Z,di⟩:=hrel;clear dg;by_cases bt:t < D
      ·obtain⟨eW,eX,cr,_,_,dj⟩:=Z.shape;injection cr with cr _ dN;subst cr dN;obtain⟨eY,dl,rfl,cs⟩:=dj (by omega);obtain⟨cn,dm,dq⟩:=(i' dh).1 t bt;have r0:=(cs (t * 2) (by omega)).trans dm;have cu:=(cs (t * 2+1) (by omega)).trans dq;rw[show dl+(t * 2+1)=dl+t * 2+1 by omega]at cu;obtain⟨M,cv⟩:∃M,M=(pl' j).getD t 0:=⟨_,rfl⟩;rw[<-cv]at cu;have dO:=t' cv;obtain⟨c2,G,aa,ab,s1,ac⟩:=di;have eZ:(0:Int)<=(t:Int):=by omega
       have dr:(t:Int) < (D:Int):=by omega
       have cw:=t' (And.intro G (And.intro aa (And.intro ab (And.intro s1 ac))));have dP:=t' (And.intro ay Z);clear G aa ab s1 ac dj cs dm dq cv ay Z;go_upto_region 13 with fail;obtain⟨bb,cx⟩:∃bb,bb=wr.heap.size:=⟨_,rfl⟩;have dt:=t' cx;rw[<-cx];clear cx;refine C' (fun y=>y.heap[bb]? =some (.cells #[.string cn, .int .i64 M] 158 (0,0))/\Below wr.heap.size wr y) ?_ ?_
       ·rw[i' dt];exact⟨heap_alloc_new _ _,(Below.refl _ _).alloc (Nat.le_refl _) _⟩
       clear r0 cu;rintro aR ⟨bJ,aS⟩;obtain⟨G,aa,ab,s1,ac⟩:=i' cw;have Q:=G.below aS;obtain⟨O,bK⟩:∃O,O=aJ++(pl' j).take t:=⟨_,rfl⟩;rw[<-bK]at Q;obtain⟨aj,bL⟩:∃aj,aj=O.length:=⟨_,rfl⟩;obtain⟨bc,bd,be,_⟩:=Q.ks.fr.shape;have Z:=Q.ks.fr;rw[<-bL]at be Z;have fb:aj<=24+24:=by have h1:=(i' cg).sum;rw[bL,bK,List.length_append,List.length_take];omega
       have du:aR.cell? ⟨p,22,none⟩=some c2.fv:=by rw[m' Q.ks.blk,Q.ks.af]
       have dQ:aR.cell? ⟨p,22,none⟩=some (.slice bc aj bd):=by rw[du,be]
       have bM:=Q.ks.fr.ne Q.ks.blk (by decide);have dR:=Q.ks.fr.ne bJ (by decide);have fc:=lt_of_block Q.ks.blk;have fd:=lt_of_block bJ;have dS:¬bb=p:=by have:=lt_of_block G.ks.blk;have:=i' dt;omega
       have dT:=fun g I=>Q.ks.fr.lt g I;have bu:=t' Q;have dU:=t' aS;have dV:=t' bJ;have dW:=t' Z;have dv:=t' (And.intro bK bL);have dX:=t' (And.intro G (And.intro aa (And.intro ab (And.intro s1 ac))));clear G aa ab s1 ac Q aS bJ Z bK bL du dQ;refine Q' (by kernel_rfl)
        [fun v _=>v= .pointer (some ⟨p,0,none⟩),fun v _=>v= .pointer (some ⟨p,0,none⟩),fun v _=>v= .pointer (some ⟨p,0,none⟩),fun v _=>v= .pointer (some ⟨p,22,none⟩),fun v _=>v= .slice bc aj bd,fun v _=>v= .pointer (some ⟨bb,1,none⟩),fun v _=>v= .int .i64 M,vM' aR.heap.size M,vN' aR c2.fv (O++[M]),fun v _=>v= .pointer (some ⟨p,0,none⟩),fun v _=>v= .pointer (some ⟨p,22,none⟩),
         fun _ r=>az' aR r p f a.ticks a.welcome a.fenced (O++[M]) aQ ao c2]
        [[(0,none)],[(0,none)],[(47,some 1)],[(48,some 2)],[(49,some 3)],[(8,none)],[(51,some 5)],[(52,some 6)],[(50,some 4),(53,some 7)],[(46,some 0)],[(55,some 9)],[(56,some 10),(54,some 8)]] [some 46,some 47,some 48,some 49,some 50,some 51,some 52,some 53,some 54,some 55,some 56,none] [false,false,false,false,false,false,false,false,false,false,false,false,false,false,false,false,false,false,false,false,false,false,false,false,false,false,false,false,false,false,false,false,false,false,false,false,false,false,false,false,false,false,false,false,false,false,true,true,true,true,true,true,true,true,true,true,true,false,false,false,false,false,false,false,false,false,false,false,false]
        [(8,fun k=>c2.fv.ownBlock=some k),(11,fun k=>k=p)]
        (by kernel_rfl) (by kernel_rfl) (by kernel_rfl) (by kernel_rfl) (by kernel_rfl) ?_ ?_ ?_ ?_
       ·repeat' (first|exact J' _|exact oJ' _ _|exact oK' _ _ _|exact(fun _ _ _ h u=>h.below u)|exact trivial|apply And.intro)
       ·repeat' (first|exact trivial|exact .inl rfl|exact .inr (.inr (ak' _ _))|exact .inr (.inr (hx' (fun g I=>dT g I)))|exact .inr (.inr (hx' (fun g (I:g=p)=>by omega)))|exact .inr (.inr (nj' (fun g (I:g=p)=>⟨by omega,by rw[I];exact bM⟩)))|exact .inr (.inl (show ar' _ 11 8=true by decide+kernel))|apply And.intro)
       ·refine⟨?_,?_,?_,?_,?_,?_,?_,?_,?_,?_,?_,?_,trivial⟩;all_goals
         intro a' r u H;have bF:=u.size;have az:=t' u;clear u;simp only[I',List.getD_cons_zero,List.getD_cons_succ,Array.getD_eq_getD_getElem?]at H;try simp at H
        iterate 4
         ·go_simp;exact⟨_,rfl,Far.refl _ _,rfl⟩
        ·have ad:=(i' az).blk (i' bu).ks.blk (by
          rintro⟨q,z,g1,g2,Y⟩;simp at z;rcases z with rfl|rfl
          ·exact bM Y
          ·exact absurd (show ar' _ 11 4=false from g2) (by decide+kernel))
         have aX:r.cell? ⟨p,22,none⟩=some (.slice bc aj bd):=by rw[m' ad,(i' bu).ks.af,be]
         clear ad;go_simp;exact⟨_,rfl,Far.refl _ _,rfl⟩
        ·go_simp;exact⟨_,rfl,Far.refl _ _,rfl⟩
        ·have ad:=(i' az).blk (i' dV) (by
          rintro⟨q,z,g1,g2,Y⟩;simp at z;rcases z with rfl|rfl
          ·exact dR Y
          ·exact dS Y)
         have aX:r.cell? ⟨bb,1,none⟩=some (.int .i64 M):=m' (i:=1) ad;clear ad;go_simp;exact⟨_,rfl,Far.refl _ _,rfl⟩
        ·go_simp;exact⟨_,rfl,A' ((Below.refl _ _).alloc (Nat.le_refl _) _),_,rfl,bF,heap_alloc_new r _⟩
        ·have dY:=(i' dW).far (i' az) (by
          rintro g I ⟨q,z,g1,g2,Y⟩;simp at z;rcases z with rfl|rfl
          ·exact g1 rfl
          ·have Y:g=p:=Y;exact bM (by rw[I,Y]))
         obtain⟨g,I,fe,dZ⟩:=H.2;have ea:ao' r 3 1 (.slice bc aj bd) aj (H' O):=by rw[<-be];exact dY
         refine gz' rfl (.tmp 50) (.tmp 53) 26 rfl 3 _ 1 8 Tryz.underlying26 tv' rfl (.slice bc aj bd) aj (H' O) ea (by simp[Act.eval,H]) ⟨g,0,none⟩ 1 1 [.int .i64 M] (by simp[Act.eval,I]) rfl ?_ (by intro cy hu;simp at hu;subst hu;rfl) (by omega) (by omega) (by omega) ?_
         ·intro k cy bf;rw[cE',m' dZ,Nat.zero_add];simpa using bf
         ·intro dw w' g1 g2;obtain⟨_,bI⟩:=i' dv;have eb:ao' w' 3 1 dw (O++[M]).length (H' (O++[M])):=by rw[List.length_append,List.length_singleton,<-bI,show H' (O++[M])=H' O++[.int .i64 M] by simp[H']];exact g1
          have cz:=g2.grown;rw[<-be]at cz g2;exact⟨dw,rfl,ac' (.head _) (bl' cz),eb,gQ' bF g2,Nat.le_trans bF cz.size⟩
        ·go_simp;exact⟨_,rfl,Far.refl _ _,rfl⟩
        ·go_simp;exact⟨_,rfl,Far.refl _ _,rfl⟩
        ·have ai:Far (fun k=>c2.fv.ownBlock=some k) aR r:=(i' az).mono (by
          rintro k _ ⟨q,z,g1,g2,Y⟩;simp at z;rcases z with rfl|rfl
          ·exact Y
          ·exact absurd rfl g1)
         have ad:=ai.blk (i' bu).ks.blk bM;have cN:r.frozen? ⟨p,22,none⟩=false:=D' (i:=22) ad;have aX:r.cell? ⟨p,22,none⟩=some (.slice bc aj bd):=by rw[m' ad,(i' bu).ks.af,be]
         obtain⟨ff,cA⟩:=H;obtain⟨ec,ed,ee,_⟩:=cA.1.shape;have dx:=t' cA;have cB:=t' ai;clear cA ad ai;rw[ee]at dx;go_simp;refine⟨ac' (.tail _ (.head _)) (O' r p 22 _),?_⟩;obtain⟨ef,dy,_⟩:=i' dx;have dz:(O++[M]).length=O.length+1:=by simp
         rw[dz]at dy;have eg:ao' r 3 1 (.slice ec (O.length+1) ed) (O++[M]).length (H' (O++[M])):=by rw[<-dz];exact ef
         exact jj' (i' bu) _ (i' cB) eg dy
       ·intro V z3 dA J;have dB:=J.2.2.2.2.2.2.2.2.2.2.2.1;have ai:Far (fun k=>c2.fv.ownBlock=some k\/k=p) aR z3:=dA.mono (fun k _ h=>by
         obtain⟨q,z,h⟩:=h;simp at z;rcases z with rfl|rfl
         ·exact .inl h
         ·exact .inr h)
        have eh:=t' dB;have cB:=t' ai;clear dB J dA ai;simp only[R'];generalize V 46=fg;generalize V 47=fh;generalize V 48=fi;generalize V 49=fj;generalize V 50=fk;generalize V 51=fm;generalize V 52=fo;generalize V 53=fp;generalize V 54=fq;generalize V 55=ft;generalize V 56=fu;go_wp2;obtain⟨ay,Z⟩:=i' dP;obtain⟨G,aa,ab,s1,ac⟩:=i' dX;have aS:=i' dU;have ai:=i' cB;obtain⟨cq,bI⟩:=i' dv;have ei:¬ (c2.fv.ownBlock=some w.heap.size\/w.heap.size=p):=by
         rintro(h|h)
         ·exact(G.ks.fr.ne ay (by decide)) h
         ·exact absurd h (by omega)
        refine⟨⟨t+1,by omega,by go_num,?_,?_,?_⟩,by simp[intOf];omega⟩
        ·exact ai.blk ((aS.block _ (lt_of_block ay)).trans ay) ei
        ·refine(Z.far (A' (E:=fun _=>False) aS) (fun _ _ h=>h)).far ai (fun g I h=>?_);rcases h with h|h
         ·exact(Z.ty G.ks.fr (by decide) I) h
         ·exact(Z.ne G.ks.blk (by decide)) (by rw[I,h])
        ·rw[(i' dh).2 t bt,<-List.append_assoc,<-cq,<-i' dO];exact ed' aa ab s1 ac ((i' eh).behind aS)
      ·have dr:D=t:=by omega
       subst dr;obtain⟨c2,G,aa,ab,s1,ac⟩:=di;have ba:=(i' cp).1;have dC:kr' (aQ (j * 3+1)):=by rw[ba];show kr' (if j * 3+1=j * 3 then _ else F (j * 3+1));rw[if_neg (by omega)];exact(i' cg).si j aA
       have bN:=fun y (ak:Below wr.heap.size wr y)=>t' (lN' ((G.below ak).shAt (i:=j * 3+1) (by omega)) dC aC);rw[show 4+(j * 3+1) * 2=4+j * 6+2 by omega]at bN;have ej:wr.cell? ⟨w.heap.size,j,none⟩=some (.int .i64 aC):=by rw[m' ay,(i' bq).2];exact(i' bV) j aA _ rfl
       have dD:=lt_of_block ay;have cw:=t' (And.intro G (And.intro aa (And.intro ab (And.intro s1 ac))));have dE:=t' ay;clear G aa ab s1 ac ay ba dC Z;go_upto_region 15 with fail;refine aj' (by kernel_rfl)
        [fun v _=>v= .pointer (some ⟨p,0,none⟩),fun v _=>v= .int .i64 j,fun v _=>v= .pointer (some ⟨p,0,none⟩),fun v _=>v= .pointer (some ⟨p,4,none⟩),fun v _=>v= .pointer (some ⟨p,4+j * 6,none⟩),fun v _=>v= .pointer (some ⟨p,4+j * 6+2,none⟩),fun v _=>v= .int .i64 j,fun v _=>v= .pointer (some ⟨w.heap.size,j,none⟩),fun v _=>v= .int .i64 aC,fun _ _=>True]
        [[(0,none)],[(6,none)],[(58,some 0)],[(60,some 2)],[(61,some 3),(59,some 1)],[(62,some 4)],[(6,none)],[(3,none),(64,some 6)],[(65,some 7)],[(63,some 5),(66,some 8)]] [some 58,some 59,some 60,some 61,some 62,some 63,some 64,some 65,some 66,some 67] [false,false,false,false,false,false,false,false,false,false,false,false,false,false,false,false,false,false,false,false,false,false,false,false,false,false,false,false,false,false,false,false,false,false,false,false,false,false,false,false,false,false,false,false,false,false,false,false,false,false,false,false,false,false,false,false,false,false,true,true,true,true,true,true,true,true,true,true,false]
        9 _ rfl rfl (by kernel_rfl) (by kernel_rfl) (by kernel_rfl) (by kernel_rfl) (by kernel_rfl) (by kernel_rfl) ?_ ?_ ?_
       ·repeat' (first|exact J' _|exact Z'|exact trivial|apply And.intro)
       ·refine⟨?_,?_,?_,?_,?_,?_,?_,?_,?_,trivial⟩;all_goals
         intro a' r u H;have bg:=(u.cell (p:=⟨w.heap.size,j,none⟩) dD).trans ej;clear u bN;simp only[I',List.getD_cons_zero,List.getD_cons_succ,Array.getD_eq_getD_getElem?]at H;try simp at H
         go_simp;try exact⟨_,rfl,Below.refl _ _,rfl⟩
         try exact Below.refl _ _
       ·intro aT dF aU J;simp only[ae',List.take]at J;have ek:=J.2.2.2.2.2.1;have el:=J.2.2.2.2.2.2.2.2.1;clear J;have em:=t' (i' (bN dF aU));have en:=t' aU;clear aU bN;simp only[R',ek,el];generalize aT 58=u58;generalize aT 59=u59;generalize aT 60=u60;generalize aT 61=u61;generalize aT 62=u62;generalize aT 64=u64;generalize aT 65=u65;go_simp;refine(i' em).mono ?_;rintro bC cy ⟨v,rfl,cf,bw⟩;have eo:=t' bw;clear cf bw;go_wp2;obtain⟨G,aa,ab,s1,ac⟩:=i' cw;have aU:=i' en;have Q:=G.below aU;have bw:=i' eo;have eq:dA' dF cy p (4+(j * 3+1) * 2) 151 c2.arr (c2.nv (j * 3+1)) (c2.mv (j * 3+1)) ((aQ (j * 3+1)).drop (bm' (aQ (j * 3+1)) aC)):=by rw[show 4+(j * 3+1) * 2=4+j * 6+2 by omega];exact bw
        have bk:=ed' aa ab s1 ac ((cz' Q (i:=j * 3+1) (by omega) (eq.step (G.ks.am (j * 3+1) (by omega)))).behind aU);have er:=cG' G (i' dE) (by decide) (by decide) (by decide) (by decide) (by decide) (by decide) (by decide);obtain⟨au,aP,av,aB⟩:=i' bG;obtain⟨aD,aV⟩:=i' bq;have es:((F (j * 3+1)).map (·.1)).Pairwise (· < ·):=by have:=(G.ks.shs (j * 3+1) (by omega)).sorted;rw[(i' cp).1]at this;have e:(fun t=>if t=j * 3 then(F (j * 3)).drop D else F t) (j * 3+1)=F (j * 3+1):=if_neg (by omega);rw[e]at this;exact this
        have cC:=qG' (i' cg) aA (n:=n j) (by rw[kv'];exact au) es;rw[<-tG']at cC;refine⟨⟨j+1,by omega,by go_num,?_,aJ++(pl' j).take D,_,(fun t=>if t=j then(pl' j).drop D else pl' t),bk,?_,?_,?_⟩,by simp[intOf];omega⟩
        ·refine bw.far.blk ((aU.block _ dD).trans (i' dE)) (fun h=>er ?_);rcases h with h|h
         ·exact .inl (.inl h)
         ·exact .inl (.inr (.inr ⟨_,by omega,h⟩))
        ·have hcut:bm' (F (j * 3)) ((a.fl j).base+n j)=n j:=by rw[av];exact gb' _ _ _ _ au aB
         rw[kv',hcut,<-aD,<-show aC=(a.fl j).base+D by rw[aV,aD];exact aP]at cC;rw[(i' cp).1];have e:(fun t=>if t=j * 3 then(F (j * 3)).drop D else F t) (j * 3+1)=F (j * 3+1):=if_neg (by omega);rw[e];exact {cC with bs:=fun _ _=>rfl}
        ·rw[(i' bl).1,(i' bl).2,aD];exact(tR' free pl n j).symm
        ·rw[(i' bl).2,aD];exact(tS' pl n j).symm
   ·obtain rfl:j=3:=by omega
    go_wp2;go_ret;refine⟨rfl,f,aJ,F,pl',ao,cR,by rw[(i' bl).1,(i' bl).2];exact(i' aW).1,?_⟩;rw[sy']at aZ;exact {aZ with bs:=fun i hi=>(i' aW).2.2.2.2 i hi |>.trans (by simp[Mod.Ag.drop,Mod.dropTo,hi,Mod.Flow.drop])}
theorem kM' (u:aA' w p g a.ticks a.welcome a.fenced free sh st c) (hs:cn' op st a free pl) (ac:op.2=1) (ad:aO' a st.opening g free sh pl) (f:Nat->Nat) (J:∀i,i < 3->f i < 4294967296)
  (aF:¬ (f 0=g 0/\f 1=g 1/\f 2=g 2)):
  Calls Tryz.prog 152 #[y' p, .agg #[.int .i64 (f 0), .int .i64 (f 1), .int .i64 (f 2)]] w fun aG z=>aG= .returned (.int .i64 4)/\fa' op.1 w z p a c:=by
 have g0:w.cell? ⟨p,1,none⟩=some (.int .i64 (g 0)):=by rw[m' u.ks.blk];exact u.ks.ag 0 (by omega)
 have g1:w.cell? ⟨p,2,none⟩=some (.int .i64 (g 1)):=by rw[m' u.ks.blk];exact u.ks.ag 1 (by omega)
 have g2:w.cell? ⟨p,3,none⟩=some (.int .i64 (g 2)):=by rw[m' u.ks.blk];exact u.ks.ag 2 (by omega)
 have ah:=lt_of_block u.ks.blk;obtain⟨h0,ai⟩:=tP' (st:=st) (a:=a) (op:=op.1) (ct:=1+fH' a) (by have h:=hs;unfold cn' at h;rw[ac]at h;exact h) ad.places (f 0) (f 1) (f 2);have M:=fA' (st:=st) (f 0) (f 1) (f 2) u.stt.hd (by rw[u.len];omega);rw[u.len]at M;have aj:=dE' (st:=st) (f 0) (f 1) (f 2);have ak:=fun y (ao:cC' y c.s c.dp st c.dlv c.duv)=>cg' y c.s c.dp st c.dlv c.duv ao (f 0) (f 1) (f 2) (J 0 (by omega)) (J 1 (by omega)) (J 2 (by omega));obtain⟨O,ap⟩:∃O,O=(st.putNumbers (f 0) (f 1) (f 2)).2:=⟨_,rfl⟩;rw[h0,<-ap]at ak;rw[<-ap]at ai M aj;have aH:∀z:World,(Op.equalIn 10000 136 (.agg #[.int .i64 (f 0), .int .i64 (f 1), .int .i64 (f 2)]) (.agg #[.int .i64 (g 0), .int .i64 (g 1), .int .i64 (g 2)])).run Tryz.prog z= .ok false z:=fun z=>by
  rw[hw'];congr 1;by_cases aq:(f 0:Int)=(g 0:Int)
  ·by_cases au:(f 1:Int)=(g 1:Int)
   ·have Q:¬ (f 2:Int)=(g 2:Int):=fun Q=>aF ⟨by omega,by omega,by omega⟩;simp[Q]
   ·simp[au]
  ·simp[aq]
 have aI:=fun y ao=>t' (ak y ao);have U:=t' u;have aS:=t' ad;have aJ:=t' (And.intro ai (And.intro M aj));obtain⟨av,ax⟩:∃x,x=f 0:=⟨_,rfl⟩;obtain⟨ay,az⟩:∃x,x=f 1:=⟨_,rfl⟩;obtain⟨aA,aB⟩:∃x,x=f 2:=⟨_,rfl⟩;rw[<-ax,<-az,<-aB]at aI aH ⊢;have aT:=t' (And.intro ax (And.intro az aB));generalize g 0=aU at *;generalize g 1=aV at *;generalize g 2=aW at *;clear u ad ai M aj ak h0 ap aF ax az aB J hs ac;unfold y' at *;go_enter Tryz.func152,Tryz.ntmps152;go_upto_region 1 with fail;refine C' (fun x=>x.heap[w.heap.size]? =some (.cells #[.int .i64 av, .int .i64 ay, .int .i64 aA] 136 (0,0))/\Below w.heap.size w x) ⟨heap_alloc_new _ _,(Below.refl _ _).alloc (Nat.le_refl _) _⟩ ?_;rintro x ⟨r,F⟩;have V:=m' (i:=0) r;have X:=m' (i:=1) r;have Y:=m' (i:=2) r;simp at V X Y;have aM:=(F.cell (p:=⟨p,1,none⟩) ah).trans g0;have aN:=(F.cell (p:=⟨p,2,none⟩) ah).trans g1;have aO:=(F.cell (p:=⟨p,3,none⟩) ah).trans g2;have G:=t' F;have Z:=t' r;clear r F g0 g1 g2;go_quiet (fail);go_upto_region 3 with fail;refine C' (fun x=>x.heap[w.heap.size]? =some (.cells #[.int .i64 av, .int .i64 ay, .int .i64 aA] 136 (0,0))/\Below w.heap.size w x) ⟨i' Z,(i' G).trans (below_drewN (Below.refl _ _) _ |>.mono (i' G).size)⟩ ?_;clear V X Y aM aN aO G Z aH;rintro x ⟨r,F⟩;have V:=m' (i:=0) r;have X:=m' (i:=1) r;have Y:=m' (i:=2) r;simp at V X Y;have aX:=lt_of_block r;have G:=t' F;have Z:=t' r;have aP:∀k,w.heap.size<=k->¬StU c.s c.dp c.dlv c.duv k:=fun k ac h=>by have:=(i' U).lt k (.inr (.inl h));omega
 clear r F;refine Q' (by kernel_rfl)
  [fun v _=>v= .pointer (some ⟨p,0,none⟩),fun v _=>v= .pointer (some ⟨p,0,none⟩),fun v _=>v= .pointer (some ⟨p,0,none⟩),fun v _=>v= .pointer (some ⟨c.s,0,none⟩),fun v _=>v= .agg #[.int .i64 av, .int .i64 ay, .int .i64 aA],
   fun v y=>v= .int .i64 4/\∃I,cC' y c.s c.dp O c.dlv I/\Loc w c.duv I,fun v _=>v= .int .i64 4]
  [[(0,none)],[(15,some 0)],[(16,some 1)],[(17,some 2)],[(3,none)],[(18,some 3),(19,some 4)],[(20,some 5)]] [some 15,some 16,some 17,some 18,some 19,some 20,some 5] [false,false,false,false,false,true,false,false,false,false,false,false,false,false,false,true,true,true,true,true,true,false,false,false,false,false,false,false,false,false,false,false,false,false,false,false,false,false,false,false,false,false,false,false,false,false,false,false,false,false,false,false,false,false,false,false,false,false,false,false,false,false,false,false,false,false,false,false,false]
  [(5,StU c.s c.dp c.dlv c.duv)]
  (by kernel_rfl) (by kernel_rfl) (by kernel_rfl) (by kernel_rfl) (by kernel_rfl) ?_ ?_ ?_ ?_
 ·repeat' (first|exact J' _|exact(fun _ _ _ h r=>⟨h.1,h.2.imp fun _ h=>⟨h.1.far (A' (E:=fun _=>False) r) (fun _ _ h=>h),h.2⟩⟩)|exact trivial|apply And.intro)
 ·repeat' (first|exact trivial|exact .inl rfl|exact .inr (.inr (ak' _ _))|apply And.intro)
 ·refine⟨?_,?_,?_,?_,?_,?_,?_,trivial⟩;all_goals
   intro a' z r aa;have ab:=r.blk (i' Z) (aa' (by intro q D;simp at D;subst D;exact aP _ (Nat.le_refl _)));have aq:=m' (i:=0) ab;have au:=m' (i:=1) ab;have Q:=m' (i:=2) ab;simp at aq au Q;clear ab;simp only[I',List.getD_cons_zero,List.getD_cons_succ,Array.getD_eq_getD_getElem?]at aa;try simp at aa
  iterate 3
   ·clear r;go_simp;exact⟨_,rfl,Far.refl _ _,rfl⟩
  ·have z0:z.cell? ⟨p,0,none⟩=some (.pointer (some ⟨c.s,0,none⟩)):=by have aC:=(i' U).below (i' G);have:=r.blk aC.ks.blk (aa' (by intro q D;simp at D;subst D;exact fun h=>aC.sep p (.inl rfl) h));rw[m' this,aC.ks.a0];rfl
   clear r;go_simp;exact⟨_,rfl,Far.refl _ _,rfl⟩
  ·clear r;go_simp;exact⟨_,rfl,Far.refl _ _,rfl⟩
  ·have aD:Below x.heap.size x z:=r.below (Nat.le_refl _) (by rintro j _ ⟨q,D,g1,g2,aY⟩;simp at D;subst D;exact g1 rfl);have aQ:=t' (i' (aI z (((i' U).below (i' G)).below aD).stt));have aZ:=aD.size;have ba:=(i' G).size;clear r aD;go_simp;refine(i' aQ).mono ?_;rintro aG bb ⟨rfl,I,k1,k2,k3⟩;exact⟨_,rfl,ac' (.head _) k3,rfl,I,k1,bw' k2 (by omega)⟩
  ·clear r;obtain⟨aa,_⟩:=aa;go_simp;exact⟨_,rfl,Far.refl _ _,rfl⟩
 ·intro H z hF aE;obtain⟨_,I,k1,k2⟩:=aE.2.2.2.2.2.1;have aK:=aE.2.2.2.2.2.2.1;have hF:Far (StU c.s c.dp c.dlv c.duv) x z:=hF.mono (fun k _ h=>by obtain⟨q,D,h⟩:=h;simp at D;subst D;exact h);have aL:=dp' (i' U) k1 k2 ((A' (E:=StU c.s c.dp c.dlv c.duv) (i' G)).trans hF (fun _ _ h=>h)) (i' aJ).2.1;have aR:=t' aL;clear aL aE hF k1 k2;simp only[R',aK];clear aK;generalize H 15=bc;generalize H 16=bd;generalize H 17=be;generalize H 18=bf;generalize H 19=bg;generalize H 20=bh;go_wp2;go_ret;exact⟨rfl,g,free,sh,O,i' aR,(i' aJ).1⟩
theorem kN' (z:aA' w p g a.ticks a.welcome a.fenced free sh st c) (hs:cn' op st a free pl) (I:∀i,i < 3->(a.fl i).base+(a.fl i).kept.length<=2147483647) (r:aO' a st.opening g free sh pl) (n f:Nat->Nat) (J:op.2≠1\/n 0+n 1+n 2=0) (M:∀i,i < 3->n i<=(a.fl i).kept.length) (D:∀i,i < 3->f i=(a.fl i).base+n i) (O:∀i,i < 3->f i < 4294967296):
  Calls Tryz.prog 152 #[y' p, .agg #[.int .i64 (f 0), .int .i64 (f 1), .int .i64 (f 2)]] w fun F G=>F= .returned (.int .i64 0)/\bE' (dT' op (n 0+n 1+n 2)) w G p (a.drop n) c:=by
 by_cases h:f 0=g 0/\f 1=g 1/\f 2=g 2
 ·have H:∀i,i < 3->f i=g i:=by
   intro i hi;obtain rfl|rfl|rfl:i=0\/i=1\/i=2:=by omega
   ·exact h.1
   ·exact h.2.1
   ·exact h.2.2
  have u:∀i,i < 3->n i=0:=fun i hi=>by have:=H i hi;have:=D i hi;have:=r.bs i hi;omega
  have Q:a.drop n=a:=sz' u;rw[Q,show n 0+n 1+n 2=0 by have:=u 0 (by omega);have:=u 1 (by omega);have:=u 2 (by omega);omega,cQ'];refine(qH' z f H).mono ?_;rintro F G ⟨rfl,U⟩;exact⟨rfl,(bM' z hs r).below U⟩
 ·have V:=kL' r D h;rw[tT' op V];exact pj' z hs (J.resolve_right (by omega)) I r n f M D O h
theorem rL' {a:Mod.Ag} {op:Nat} {g:Nat->Nat} {free:List Nat} {sh:Nat->List (Nat×Value)} {pl:Nat->List Nat} (r:aO' a op g free sh pl) {n f:Nat->Nat} (u:∀i,i < 3->f i=(a.fl i).base+n i) (z:0 < n 0+n 1+n 2):¬ (f 0=g 0/\f 1=g 1/\f 2=g 2):=by
 rintro⟨h0,h1,h2⟩;have D:=r.bs 0 (by omega);have F:=r.bs 1 (by omega);have G:=r.bs 2 (by omega);have H:=u 0 (by omega);have I:=u 1 (by omega);have J:=u 2 (by omega);omega
theorem kO' (G:aA' w p g a.ticks a.welcome a.fenced free sh st c) (hs:cn' op st a free pl) (J:aO' a st.opening g free sh pl) (e:Nat) (s q:Int) (b:ByteArray):
  Calls Tryz.prog 106 #[y' p, .agg #[.int .i64 5, .int .i64 e, .int .i64 s, .int .i64 q, .string b]] w fun ad M=>ad= .returned (.int .i64 0)/\bE' op w M p (a.deliver 5 e s q b) c:=by
 have ao:=lt_of_block G.ks.blk;have O:=fun M (ah:Below w.heap.size w M)=>t' (bk' (G.below ah));obtain⟨ep,Q⟩:∃ep,ep=a.epoch:=⟨_,rfl⟩;have V:st.opening=ep:=by rw[Q];exact J.ep
 rw[V]at O;have hd:a.deliver 5 e s q b=if ep < e then {a with fenced:=true}else if e=ep then {a with welcome:=false}else a:=by
  unfold Mod.Ag.deliver;rw[<-Q];by_cases h1:ep < e
  ·rw[if_pos ⟨rfl,by omega⟩,if_pos h1]
  ·rw[if_neg (by omega),if_neg h1];by_cases h2:e=ep
   ·rw[if_neg (by omega),if_pos rfl,if_pos h2]
   ·rw[if_pos (by omega),if_neg h2]
 obtain⟨X,Y⟩:∃X,X=a.deliver 5 e s q b:=⟨_,rfl⟩;rw[<-Y]at hd ⊢;have Z:=t' (cA' w #[.int .i64 5, .int .i64 e, .int .i64 s, .int .i64 q, .string b]);have f:=t' (And.intro G (And.intro hs J));have U:=t' hd;clear G hs J V Q Y hd;unfold y' at *;go_enter Tryz.func106,Tryz.ntmps106;go_upto_region 1 with fail;refine C' (aZ' w #[.int .i64 5, .int .i64 e, .int .i64 s, .int .i64 q, .string b]) (i' Z) ?_;clear Z;intro x r;have H:=m' (i:=1) r.box;simp at H;have z:=fun n=>t' (i' (O (x.drewN n) (r.drewN n).bel));have I:=t' r;clear r;have K:=(i' f).1.below (i' I).bel;have aa:∀n,(x.drewN n).cell? ⟨p,25,none⟩=some (.bool a.fenced):=fun n=>by show x.cell? _= _;rw[m' K.ks.blk,K.ks.ae]
 have f25:∀n,(x.drewN n).frozen? ⟨p,25,none⟩=false:=fun n=>D' (w:=x) (i:=25) K.ks.blk;have D:=t' (And.intro aa f25);have F:∀n,Below w.heap.size w (x.drewN n):=fun n=>((i' I).drewN n).bel;have u:=t' F;clear K aa f25 F;by_cases h1:ep < e
 ·have ai:(ep:Int) < (e:Int):=by omega
  go_quiet (first|(go_at_call 66;exact Calls.quiet_of_same (i' (z _))))
  have d:=(i' D).1 nq;have aj:=(i' D).2 nq;go_wp2;go_ret;refine⟨rfl,?_⟩;rw[i' U,if_pos h1];exact⟨g,free,sh,pl,st,(qJ' ((i' f).1.below ((i' u) nq)) true).behind ((i' u) nq),(i' f).2.1.flags _ _ _,(i' f).2.2.flags a.ticks a.welcome true⟩
 ·have ai:¬ (ep:Int) < (e:Int):=by omega
  go_quiet (first|(go_at_call 66;exact Calls.quiet_of_same (i' (z _))))
  go_upto_region 3 with fail
  refine C' (aZ' w #[.int .i64 5, .int .i64 e, .int .i64 s, .int .i64 q, .string b]) ((i' I).drewN _) ?_;clear I H z D u;intro x r;have H:=m' (i:=1) r.box;simp at H;have z:=fun n=>t' (i' (O (x.drewN n) (r.drewN n).bel));have K:=(i' f).1.below r.bel;have ab:∀n,(x.drewN n).cell? ⟨p,24,none⟩=some (.bool a.welcome):=fun n=>by show x.cell? _= _;rw[m' K.ks.blk,K.ks.aw]
  have ac:∀n,(x.drewN n).frozen? ⟨p,24,none⟩=false:=fun n=>D' (w:=x) (i:=24) K.ks.blk;have F:∀n,Below w.heap.size w (x.drewN n):=fun n=>(r.drewN n).bel;have u:=t' F;have D:=t' (And.intro ab ac);clear K ab ac r F;by_cases h2:e=ep
  ·have ak:((e:Int) == (ep:Int))=true:=by simp[h2]
   go_quiet (first|(go_at_call 66;exact Calls.quiet_of_same (i' (z _))))
   have d:=(i' D).1 nq;have aj:=(i' D).2 nq;go_wp2;go_ret;refine⟨rfl,?_⟩;rw[i' U,if_neg h1,if_pos h2];exact⟨g,free,sh,pl,st,(ky' ((i' f).1.below ((i' u) nq)) false).behind ((i' u) nq),(i' f).2.1.flags _ _ _,(i' f).2.2.flags a.ticks false a.fenced⟩
  ·have ak:((e:Int) == (ep:Int))=false:=by simp;omega
   go_quiet (first|(go_at_call 66;exact Calls.quiet_of_same (i' (z _))))
   go_wp2;go_ret;refine⟨rfl,?_⟩;rw[i' U,if_neg h1,if_neg h2];exact(bM' (i' f).1 (i' f).2.1 (i' f).2.2).below ((i' u) nq)
end
theorem qW' (f:Nat->Mod.Flow) (i:Nat):(Mod.fresh f 3 i).base=(f i).base/\(Mod.fresh f 3 i).kept.map (·.1)=(f i).kept.map (·.1):=by
 unfold Mod.fresh;split
 ·exact⟨rfl,by simp⟩
 ·exact⟨rfl,rfl⟩
theorem pk' (f:Nat->Mod.Flow) (s:Nat) (x:List Nat) (i:Nat):(Mod.upd f s {f s with held:=x} i).base=(f i).base/\(Mod.upd f s {f s with held:=x} i).kept.map (·.1)=(f i).kept.map (·.1):=by
 unfold Mod.upd;split
 ·rename_i h;rw[h];exact⟨rfl,rfl⟩
 ·exact⟨rfl,rfl⟩
section
variable {w:World} {p:Nat} {g:Nat->Nat} {free:List Nat} {sh:Nat->List (Nat×Value)} {st:Mod.Stv} {c:Av} {a:Mod.Ag} {pl:Nat->List Nat} {op:Nat}
end
end Go.Proofs.YtamafdcnbcoegaaGreat
