/-
  Part 11 of a proof: LB1, L35.
-/
import Derived.Test.YtamafdcnbcoegabGreatCm10
set_option maxRecDepth 100000
set_option maxHeartbeats 40000000
namespace Go.Proofs.YtamafdcnbcoegabGreat
open Go.RowKit
theorem ue' {op ct m:Nat} {st:Mod.Stv} {a:Mod.Ag} {free:List Nat} {z:Nat->List Nat} (h:fi' op ct m st a free z) (M:ct+1000 < 18446744073709551616) (O:m≠1) (P:Mod.Places a free z) (n r:Nat->Nat) (G:∀i,i < 3->n i<=(a.fl i).kept.length) (F:∀i,i < 3->r i=(a.fl i).base+n i) (H:∀i,i < 3->(a.fl i).base+(a.fl i).kept.length<=2147483647):
  (st.putNumbers (r 0) (r 1) (r 2)).1=0/\fi' op (ct+1) (m - 1) (st.putNumbers (r 0) (r 1) (r 2)).2 (a.drop n) (frD free z n 3) (plD z n 3):=by
 have I:=nr' h (by omega);have D:∀i,i < 3->((a.drop n).fl i).base=(a.fl i).base+n i/\((a.drop n).fl i).kept.map (·.1)=((a.fl i).kept.drop (n i)).map (·.1):=fun i hi=>by simp[Mod.Ag.drop,Mod.dropTo,hi,Mod.Flow.drop]
 have hd:=h.dk.gone (a':=a.drop n) (free':=frD free z n 3) (pl':=plD z n 3) P n G D (fun i hi=>by unfold plD;rw[if_pos hi]) (fun x J=>tc' 3 J) (by have:=h.ct;omega) H;rw[(D 0 (by omega)).1,(D 1 (by omega)).1,(D 2 (by omega)).1,<-F 0 (by omega),<-F 1 (by omega),<-F 2 (by omega)]at hd;have h1:=h.dead;have h2:=h.arm;have h3:=h.ct;unfold Mod.Stv.putNumbers Mod.Dk.put;rw[if_neg (by rw[h1];simp),if_neg (by rw[h2];omega),I];exact⟨rfl,rfl,by show st.dk.armed - 1=m - 1;rw[h2],h.op,by show st.count+1<=ct+1;omega,hd⟩
def cv' (o:Nat×Nat) (st:Mod.Stv) (a:Mod.Ag) (free:List Nat) (r:Nat->List Nat):Prop:=fi' o.1 (1+fY' a) o.2 st a free r
theorem cv'.same {op:Nat×Nat} {st:Mod.Stv} {a a':Mod.Ag} {free:List Nat} {r:Nat->List Nat} (h:cv' op st a free r) (z:∀i,i < 3->(a'.fl i).base=(a.fl i).base/\(a'.fl i).kept.map (·.1)=(a.fl i).kept.map (·.1)):cv' op st a' free r:=by
 unfold cv';rw[ud' z];exact fi'.same (op:=op.1) (n:=op.2) h z
theorem cv'.flags {op:Nat×Nat} {st:Mod.Stv} {a:Mod.Ag} {free:List Nat} {r:Nat->List Nat} (h:cv' op st a free r) (tk:Nat) (wel fen:Bool):cv' op st {a with ticks:=tk,welcome:=wel,fenced:=fen} free r:=h.same (fun _ _=>⟨rfl,rfl⟩)
def eh' (o:Nat×Nat) (k:Nat):Nat×Nat:=if k=0 then o else(o.1,o.2 - 1)
theorem dc' (o:Nat×Nat):eh' o 0=o:=rfl
theorem vu' (o:Nat×Nat) {k:Nat} (h:0 < k):eh' o k=(o.1,o.2 - 1):=by unfold eh';rw[if_neg (by omega)]
theorem wy' (o:Nat×Nat) (k:Nat):(eh' o k).1=o.1:=by unfold eh';split <;> rfl
theorem vv' {op:Nat×Nat} {st:Mod.Stv} {a:Mod.Ag} {free:List Nat} {z:Nat->List Nat} (h:cv' op st a free z) (P:Mod.Places a free z) (n r:Nat->Nat) (D:∀i,i < 3->n i<=(a.fl i).kept.length) (G:∀i,i < 3->r i=(a.fl i).base+n i) (F:∀i,i < 3->(a.fl i).base+(a.fl i).kept.length<=2147483647) (I:0 < n 0+n 1+n 2) (H:op.2≠1):
  (st.putNumbers (r 0) (r 1) (r 2)).1=0/\cv' (op.1,op.2 - 1) (st.putNumbers (r 0) (r 1) (r 2)).2 (a.drop n) (frD free z n 3) (plD z n 3):=by
 have J:=td' F;obtain⟨h1,h2⟩:=ue' (ct:=1+fY' a) h (by omega) H P n r D G F;refine⟨h1,⟨h2.dead,h2.arm,h2.op,Nat.le_trans h2.ct ?_,h2.dk⟩⟩;have hl:∀i,i < 3->((a.drop n).fl i).base=(a.fl i).base+n i/\((a.drop n).fl i).kept.length=(a.fl i).kept.length - n i:=fun i hi=>by simp[Mod.Ag.drop,Mod.dropTo,hi,Mod.Flow.drop]
 have M:=D 0 (by omega);have O:=D 1 (by omega);have Q:=D 2 (by omega);show 1+fY' a+1<=1+fY' (a.drop n);unfold fY';rw[(hl 0 (by omega)).1,(hl 0 (by omega)).2,(hl 1 (by omega)).1,(hl 1 (by omega)).2,(hl 2 (by omega)).1,(hl 2 (by omega)).2];omega
def bO' (op:Nat×Nat) (w x:World) (p:Nat) (a:Mod.Ag) (c:Av):Prop:=
 ∃g free sh r st,aA' w x p g a.ticks a.welcome a.fenced free sh st c/\cv' op st a free r/\aQ' a st.opening g free sh r
theorem bO'.behind {op:Nat×Nat} {w x y:World} {p:Nat} {a:Mod.Ag} {c:Av} (h:bO' op x y p a c) (r:Below w.heap.size w x):bO' op w y p a c:=by
 obtain⟨g,free,sh,z,st,D,hs,F⟩:=h;exact⟨g,free,sh,z,st,D.behind r,hs,F⟩
theorem bO'.below {op:Nat×Nat} {w x y:World} {p:Nat} {a:Mod.Ag} {c:Av} (h:bO' op w x p a c) (r:Below x.heap.size x y):bO' op w y p a c:=by
 obtain⟨g,free,sh,z,st,D,hs,F⟩:=h;exact⟨g,free,sh,z,st,D.below r,hs,F⟩
theorem bU' {op:Nat×Nat} {w:World} {p:Nat} {g:Nat->Nat} {free:List Nat} {sh:Nat->List (Nat×Value)} {st:Mod.Stv} {c:Av} {a:Mod.Ag} {r:Nat->List Nat} (z:aC' w p g a.ticks a.welcome a.fenced free sh st c) (hs:cv' op st a free r) (D:aQ' a st.opening g free sh r):bO' op w w p a c:=⟨g,free,sh,r,st,pI' z,hs,D⟩
section
variable {w:World} {p:Nat} {g:Nat->Nat} {free:List Nat} {sh:Nat->List (Nat×Value)} {st:Mod.Stv} {c:Av} {a:Mod.Ag} {pl:Nat->List Nat} {op:Nat×Nat}
theorem ql' (Z:aC' w p g a.ticks a.welcome a.fenced free sh st c) (hs:cv' op st a free pl) (bh:op.2≠1) (cE:∀i,i < 3->(a.fl i).base+(a.fl i).kept.length<=2147483647) (bB:aQ' a st.opening g free sh pl) (n r:Nat->Nat) (bQ:∀i,i < 3->n i<=(a.fl i).kept.length) (bC:∀i,i < 3->r i=(a.fl i).base+n i) (bD:∀i,i < 3->r i < 4294967296)
  (bR:¬ (r 0=g 0/\r 1=g 1/\r 2=g 2)):
  Calls Tryz.prog 117 #[A' p, .agg #[.int .i64 (r 0), .int .i64 (r 1), .int .i64 (r 2)]] w fun bE z=>bE= .returned (.int .i64 0)/\bO' (op.1,op.2 - 1) w z p (a.drop n) c:=by
 have g0:w.cell? ⟨p,1,none⟩=some (.int .i64 (g 0)):=by rw[t' Z.ks.blk];exact Z.ks.ag 0 (by omega)
 have g1:w.cell? ⟨p,2,none⟩=some (.int .i64 (g 1)):=by rw[t' Z.ks.blk];exact Z.ks.ag 1 (by omega)
 have g2:w.cell? ⟨p,3,none⟩=some (.int .i64 (g 2)):=by rw[t' Z.ks.blk];exact Z.ks.ag 2 (by omega)
 have bS:=lt_of_block Z.ks.blk;obtain⟨h0,bT⟩:=vv' hs bB.places n r bQ bC cE (lw' bB bC bR) bh;have bF:=fR' (st:=st) (r 0) (r 1) (r 2) Z.stt.hd (by rw[Z.len];omega);rw[Z.len]at bF;have bU:=dV' (st:=st) (r 0) (r 1) (r 2);have bV:=fun y (ap:cM' y c.s c.dp st c.dlv c.duv)=>cm' y c.s c.dp st c.dlv c.duv ap (r 0) (r 1) (r 2) (bD 0 (by omega)) (bD 1 (by omega)) (bD 2 (by omega));obtain⟨aq,bW⟩:∃aq,aq=(st.putNumbers (r 0) (r 1) (r 2)).2:=⟨_,rfl⟩;rw[h0,<-bW]at bV;rw[<-bW]at bT bF bU;have cF:∀z:World,(Op.equalIn 10000 100 (.agg #[.int .i64 (r 0), .int .i64 (r 1), .int .i64 (r 2)]) (.agg #[.int .i64 (g 0), .int .i64 (g 1), .int .i64 (g 2)])).run Tryz.prog z= .ok false z:=fun z=>by
  rw[ik'];congr 1;by_cases bi:(r 0:Int)=(g 0:Int)
  ·by_cases aF:(r 1:Int)=(g 1:Int)
   ·have aX:¬ (r 2:Int)=(g 2:Int):=fun aX=>bR ⟨by omega,by omega,by omega⟩;simp[aX]
   ·simp[aF]
  ·simp[bi]
 have cG:=fun(z:World) (bj:Av) (h:aC' z p g a.ticks a.welcome a.fenced free sh aq bj)=>pO' h r;have cH:∀j:Nat,j < 3->∀cI:Array Value,cI= #[.int .i64 (r 0), .int .i64 (r 1), .int .i64 (r 2)]->cI[j]? =some (.int .i64 (r j)):=by
  rintro j hj _ rfl;obtain rfl|rfl|rfl:j=0\/j=1\/j=2:=by omega
  all_goals rfl
 have cJ:=fun y ap=>y' (bV y ap);have cK:=fun z bj h=>y' (cG z bj h);have bX:=y' cH;have bG:=y' Z;have cL:=y' bB;have aY:=y' (And.intro bT (And.intro bF (And.intro bU (And.intro bQ bC))));obtain⟨aG,bY⟩:∃x,x=r 0:=⟨_,rfl⟩;obtain⟨aH,bZ⟩:∃x,x=r 1:=⟨_,rfl⟩;obtain⟨aI,ca⟩:∃x,x=r 2:=⟨_,rfl⟩;rw[<-bY,<-bZ,<-ca]at cJ cF cK bX ⊢;have eu:=y' (And.intro bY (And.intro bZ ca));generalize g 0=ev at *;generalize g 1=ew at *;generalize g 2=ey at *;clear bh Z bB bT bF bU bV cG cH h0 bW bR bY bZ ca bQ bC bD hs cE;unfold A' at *;go_enter Tryz.func117,Tryz.ntmps117;go_upto_region 1 with fail;refine H' (fun x=>x.heap[w.heap.size]? =some (.cells #[.int .i64 aG, .int .i64 aH, .int .i64 aI] 100 (0,0))/\Below w.heap.size w x) ⟨heap_alloc_new _ _,(Below.refl _ _).alloc (Nat.le_refl _) _⟩ ?_;rintro x ⟨D,aJ⟩;have aO:=t' (i:=0) D;have aP:=t' (i:=1) D;have aQ:=t' (i:=2) D;simp at aO aP aQ;have ai:=(aJ.cell (p:=⟨p,1,none⟩) bS).trans g0;have aZ:=(aJ.cell (p:=⟨p,2,none⟩) bS).trans g1;have cb:=(aJ.cell (p:=⟨p,3,none⟩) bS).trans g2;have aK:=y' aJ;have bk:=y' D;clear D aJ g0 g1 g2;go_quiet (fail);go_upto_region 3 with fail;refine H' (fun x=>x.heap[w.heap.size]? =some (.cells #[.int .i64 aG, .int .i64 aH, .int .i64 aI] 100 (0,0))/\Below w.heap.size w x) ⟨i' bk,(i' aK).trans (below_drewN (Below.refl _ _) _ |>.mono (i' aK).size)⟩ ?_;clear aO aP aQ ai aZ cb aK bk cF;rintro x ⟨D,aJ⟩;have aO:=t' (i:=0) D;have aP:=t' (i:=1) D;have aQ:=t' (i:=2) D;simp at aO aP aQ;have ez:=lt_of_block D;have aK:=y' aJ;have bk:=y' D;have cM:∀k,w.heap.size<=k->¬StU c.s c.dp c.dlv c.duv k:=fun k bh h=>by have:=(i' bG).lt k (.inr (.inl h));omega
 clear D aJ;refine Z' (by kernel_rfl)
  [fun v _=>v= .pointer (some ⟨p,0,none⟩),fun v _=>v= .pointer (some ⟨p,0,none⟩),fun v _=>v= .pointer (some ⟨p,0,none⟩),fun v _=>v= .pointer (some ⟨c.s,0,none⟩),fun v _=>v= .agg #[.int .i64 aG, .int .i64 aH, .int .i64 aI],
   fun v y=>v= .int .i64 0/\∃bl,cM' y c.s c.dp aq c.dlv bl/\Loc w c.duv bl,fun v _=>v= .int .i64 0]
  [[(0,none)],[(15,some 0)],[(16,some 1)],[(17,some 2)],[(3,none)],[(18,some 3),(19,some 4)],[(20,some 5)]] [some 15,some 16,some 17,some 18,some 19,some 20,some 5] [false,false,false,false,false,true,false,false,false,false,false,false,false,false,false,true,true,true,true,true,true,false,false,false,false,false,false,false,false,false,false,false,false,false,false,false,false,false,false,false,false,false,false,false,false,false,false,false,false,false,false,false,false,false,false,false,false,false,false,false,false,false,false,false,false,false,false,false,false]
  [(5,StU c.s c.dp c.dlv c.duv)]
  (by kernel_rfl) (by kernel_rfl) (by kernel_rfl) (by kernel_rfl) (by kernel_rfl) ?_ ?_ ?_ ?_
 ·repeat' (first|exact O' _|exact(fun _ _ _ h D=>⟨h.1,h.2.imp fun _ h=>⟨h.1.far (C' (E:=fun _=>False) D) (fun _ _ h=>h),h.2⟩⟩)|exact trivial|apply And.intro)
 ·repeat' (first|exact trivial|exact .inl rfl|exact .inr (.inr (an' _ _))|apply And.intro)
 ·refine⟨?_,?_,?_,?_,?_,?_,?_,trivial⟩;all_goals
   intro a' z D J;have au:=D.blk (i' bk) (ae' (by intro q F;simp at F;subst F;exact cM _ (Nat.le_refl _)));have bi:=t' (i:=0) au;have aF:=t' (i:=1) au;have aX:=t' (i:=2) au;simp at bi aF aX;clear au;simp only[M',List.getD_cons_zero,List.getD_cons_succ,Array.getD_eq_getD_getElem?]at J;try simp at J
  iterate 3
   ·clear D;go_simp;exact⟨_,rfl,Far.refl _ _,rfl⟩
  ·have z0:z.cell? ⟨p,0,none⟩=some (.pointer (some ⟨c.s,0,none⟩)):=by have cc:=(i' bG).below (i' aK);have:=D.blk cc.ks.blk (ae' (by intro q F;simp at F;subst F;exact fun h=>cc.sep p (.inl rfl) h));rw[t' this,cc.ks.a0];rfl
   clear D;go_simp;exact⟨_,rfl,Far.refl _ _,rfl⟩
  ·clear D;go_simp;exact⟨_,rfl,Far.refl _ _,rfl⟩
  ·have X:Below x.heap.size x z:=D.below (Nat.le_refl _) (by rintro j _ ⟨q,F,g1,g2,aa⟩;simp at F;subst F;exact g1 rfl);have cd:=y' (i' (cJ z (((i' bG).below (i' aK)).below X).stt));have bH:=X.size;have eA:=(i' aK).size;clear D X;go_simp;refine(i' cd).mono ?_;rintro bE dH ⟨rfl,bl,k1,k2,k3⟩;exact⟨_,rfl,aj' (.head _) k3,rfl,bl,k1,bH' k2 (by omega)⟩
  ·clear D;obtain⟨J,_⟩:=J;go_simp;exact⟨_,rfl,Far.refl _ _,rfl⟩
 ·intro f z hF O;obtain⟨_,bl,k1,k2⟩:=O.2.2.2.2.2.1;have dI:=O.2.2.2.2.2.2.1;have hF:Far (StU c.s c.dp c.dlv c.duv) x z:=hF.mono (fun k _ h=>by obtain⟨q,F,h⟩:=h;simp at F;subst F;exact h);have bm:=dG' (i' bG) k1 k2 ((C' (E:=StU c.s c.dp c.dlv c.duv) (i' aK)).trans hF (fun _ _ h=>h)) (i' aY).2.1;have X:=hF.blk (i' bk) (cM _ (Nat.le_refl _));have cN:=bm.trans (fun bj h=>i' (cK z bj h));obtain⟨eB,av,_⟩:=id bm;have cO:z.frozen? ⟨p,1,none⟩=false:=I' (i:=1) av.ks.blk;have aj:z.frozen? ⟨p,2,none⟩=false:=I' (i:=2) av.ks.blk;have Y:z.frozen? ⟨p,3,none⟩=false:=I' (i:=3) av.ks.blk;have aZ:z.cell? ⟨p,1,none⟩=some (.int .i64 (g 0)):=by rw[t' av.ks.blk];exact av.ks.ag 0 (by omega)
  have cb:z.cell? ⟨p,2,none⟩=some (.int .i64 (g 1)):=by rw[t' av.ks.blk];exact av.ks.ag 1 (by omega)
  have dJ:z.cell? ⟨p,3,none⟩=some (.int .i64 (g 2)):=by rw[t' av.ks.blk];exact av.ks.ag 2 (by omega)
  have aO:=t' (i:=0) X;have aP:=t' (i:=1) X;have aQ:=t' (i:=2) X;simp at aO aP aQ;have ce:¬w.heap.size=p:=by omega
  have cP:=y' cN;have aB:=y' X;clear O hF k1 k2 bm X cN av;simp only[Y',dI];generalize f 15=eC;generalize f 16=eD;generalize f 17=eE;generalize f 18=eF;generalize f 19=eG;generalize f 20=eH;go_upto_region 7 with fail;have cQ:(((z.setCell ⟨p,1,none⟩ (.int .i64 aG)).setCell ⟨p,2,none⟩ (.int .i64 aH)).setCell ⟨p,3,none⟩ (.int .i64 aI)).heap[w.heap.size]? =some (.cells #[.int .i64 aG, .int .i64 aH, .int .i64 aI] 100 (0,0)):=by rw[aa' ce,aa' ce,aa' ce];exact i' aB
  refine H' (fun y=>y.heap[w.heap.size]? =some (.cells #[.int .i64 aG, .int .i64 aH, .int .i64 aI] 100 (0,0))/\aA' w y p r a.ticks a.welcome a.fenced free sh aq c) ⟨cQ,i' cP⟩ ?_;clear cQ aB cP aO aP aQ cO aj Y aZ cb dJ;rintro y cR;have cf:=y' cR;clear cR;go_wp2;go_loopw[6,28] (fun _ i wr=>∃j:Nat,j<=3/\i= .int .i64 j/\wr.heap[w.heap.size]? =some (.cells #[.int .i64 aG, .int .i64 aH, .int .i64 aI] 100 (0,0))/\∃aL H pl',aA' w wr p r a.ticks a.welcome a.fenced aL H aq c/\aQ' (agD a n j) aq.opening (fun t=>((agD a n j).fl t).base) aL H pl'/\aL=frD free pl n j/\pl'=plD pl n j) (fun _ i _=>3 - (intOf i).toNat)
  case atStart=>refine⟨0,by omega,rfl,(i' cf).1,free,sh,pl,(i' cf).2,?_,rfl,(vr' pl n).symm⟩;rw[vg',(i' aY).2.2.1];exact {(i' cL)with bs:=fun _ _=>rfl}
  case round=>
   obtain⟨j,hj,rfl,au,aL,H,pl',cS,ba,cT,cU⟩:=hrel;have bn:=y' (And.intro cT cU);clear cf cT cU;by_cases aC:j < 3
   ·obtain⟨c1,aM,bo,bp,bq,br⟩:=cS;have ax:=(i' aY).2.2.2.1 j aC;have aR:=(i' aY).2.2.2.2 j aC;have ay:=ba.kp j aC;have aD:=ba.pn j aC;rw[lf']at ay aD;have cV:ob' (H (j * 3)):=by rw[ay];exact gv' _ _ _
    have hcut:bs' (H (j * 3)) (r j)=n j:=by rw[ay,aR];exact gw' _ _ _ _ ax aD
    have cg:=fun y (ap:Below wr.heap.size wr y)=>mx' ((aM.below ap).shAt (i:=j * 3) (by omega)) cV (r j);simp only[hcut]at cg;have aN:∀y (ap:Below wr.heap.size wr y),Hid (Calls Tryz.prog 166 #[.pointer (some ⟨p,4+j * 6,none⟩), .int .i64 (r j)] y fun e w'=>∃az cap,e= .returned (.slice az (n j) cap)/\as' w' 140 2 (.slice az (n j) cap) (n j) (eK' ((H (j * 3)).take (n j)))/\dS' y w' p (4+j * 3 * 2) 116 c1.arr (c1.nv (j * 3)) (c1.mv (j * 3)) ((H (j * 3)).drop (n j))):=by intro y ap;have h:=cg y ap;rw[show 4+j * 3 * 2=4+j * 6 by omega]at h ⊢;refine y' (h.mono ?_);rintro e w' ⟨v,rfl,ch,hs⟩;have cW:=as'.of_own (au' ch (Nat.zero_le _));obtain⟨az,cap,rfl,_⟩:=cW.shape;exact⟨az,cap,rfl,cW,hs⟩
    have cX:wr.cell? ⟨w.heap.size,j,none⟩=some (.int .i64 (r j)):=by rw[t' au];exact(i' bX) j aC _ rfl
    have eI:=lt_of_block au;have cY:=cR' aM au (by decide) (by decide) (by decide) (by decide) (by decide) (by decide) (by decide);have cZ:¬ (w.heap.size=p\/ShU (c1.nv (j * 3)) (c1.mv (j * 3)) w.heap.size):=fun h=>cY (h.elim (fun h=> .inl (.inl h)) (fun h=> .inl (.inr (.inr ⟨_,by omega,h⟩))));have eJ:(0:Int)<=(j:Int):=by omega
    have eK:(j:Int) < 3:=by omega
    have dK:=y' (And.intro aM (And.intro bo (And.intro bp (And.intro bq br))));have ci:=y' ba;have cj:=y' au;have bI:=y' (And.intro ax (And.intro aR (And.intro ay aD)));obtain⟨G,ck⟩:∃G,G=n j:=⟨_,rfl⟩;obtain⟨aE,cl⟩:∃aE,aE=r j:=⟨_,rfl⟩;rw[<-ck]at aN;rw[<-cl]at aN cX;have bt:=y' (And.intro ck cl);clear cg cV hcut aM bo bp bq br ba au ax aR ay aD cY ck cl;go_upto_region 10 with fail;refine Z' (by kernel_rfl)
     [fun v _=>v= .pointer (some ⟨p,0,none⟩),fun v _=>v= .int .i64 j,fun v _=>v= .pointer (some ⟨p,0,none⟩),fun v _=>v= .pointer (some ⟨p,4,none⟩),fun v _=>v= .pointer (some ⟨p,4+j * 6,none⟩),fun v _=>v= .pointer (some ⟨p,4+j * 6,none⟩),fun v _=>v= .int .i64 j,fun v _=>v= .pointer (some ⟨w.heap.size,j,none⟩),fun v _=>v= .int .i64 aE,
      fun v z=>∃az cap,v= .slice az G cap/\as' z 140 2 (.slice az G cap) G (eK' ((H (j * 3)).take G))/\dS' wr z p (4+j * 3 * 2) 116 c1.arr (c1.nv (j * 3)) (c1.mv (j * 3)) ((H (j * 3)).drop G),fun v _=>v= .int .i64 G,fun v _=>v= .int .i64 0]
     [[(0,none)],[(6,none)],[(31,some 0)],[(33,some 2)],[(34,some 3),(32,some 1)],[(35,some 4)],[(6,none)],[(3,none),(37,some 6)],[(38,some 7)],[(36,some 5),(39,some 8)],[(40,some 9)],[]] [some 31,some 32,some 33,some 34,some 35,some 36,some 37,some 38,some 39,some 40,some 41,some 42] [false,false,false,false,false,false,false,false,false,false,false,false,false,false,false,false,false,false,false,false,false,false,false,false,false,false,false,false,false,false,false,true,true,true,true,true,true,true,true,true,true,true,true,false,false,false,false,false,false,false,false,false,false,false,false,false,false,false,false,false,false,false,false,false,false,false,false,false,false]
     [(9,fun k=>k=p\/ShU (c1.nv (j * 3)) (c1.mv (j * 3)) k)]
     (by kernel_rfl) (by kernel_rfl) (by kernel_rfl) (by kernel_rfl) (by kernel_rfl) ?_ ?_ ?_ ?_
    ·repeat' (first|exact O' _|exact(fun _ _ _ h D=>h.imp fun _ h=>h.imp fun _ h=>⟨h.1,h.2.1.keep (fun g M=>D.block g (h.2.1.lt g M)),ol' h.2.2 D⟩)|exact trivial|apply And.intro)
    ·repeat' (first|exact trivial|exact .inl rfl|exact .inr (.inr (an' _ _))|exact .inr (.inl (by decide+kernel))|apply And.intro)
    ·refine⟨?_,?_,?_,?_,?_,?_,?_,?_,?_,?_,?_,?_,trivial⟩;all_goals
      intro a' z D J;have bi:z.cell? ⟨w.heap.size,j,none⟩=some (.int .i64 aE):=by have:=D.blk (i' cj) (ae' (by intro q F;simp at F;subst F;exact cZ));rw[t' this,<-t' (i' cj)];exact cX
      simp only[M',List.getD_cons_zero,List.getD_cons_succ,Array.getD_eq_getD_getElem?]at J;try simp at J
     iterate 9
      ·clear D aN;go_simp;exact⟨_,rfl,Far.refl _ _,rfl⟩
     ·have X:Below wr.heap.size wr z:=D.below (Nat.le_refl _) (by rintro k _ ⟨q,F,g1,g2,aa⟩;simp at F;subst F;exact g1 rfl);have cd:=y' (i' (aN z X));have aB:=y' X;clear D X aN;go_simp;refine(i' cd).mono ?_;rintro bE dH ⟨az,cap,rfl,k1,k2⟩;exact⟨_,rfl,aj' (.head _) k2.far,az,cap,rfl,k1,⟨k2.out,(C' (i' aB)).trans k2.far (fun _ _ h=>h)⟩⟩
     ·obtain⟨az,cap,eL,_⟩:=J;clear D aN;go_simp;exact⟨_,rfl,Far.refl _ _,rfl⟩
     ·clear D aN;go_simp;exact⟨_,rfl,Far.refl _ _,rfl⟩
    ·intro aj eM ak O;obtain⟨dL,dM,db,cm,cn⟩:=O.2.2.2.2.2.2.2.2.2.1;have dc:=O.2.2.2.2.2.2.2.2.2.2.1;have dd:=O.2.2.2.2.2.2.2.2.2.2.2.1;clear O ak aN;simp only[Y',db,dc,dd];generalize aj 31=eN;generalize aj 32=eO;generalize aj 33=eP;generalize aj 34=eQ;generalize aj 35=eR;generalize aj 36=eS;generalize aj 37=eT;generalize aj 38=eU;generalize aj 39=eV;obtain⟨aM,bo,bp,bq,br⟩:=i' dK;have de:=cn.far.blk (i' cj) cZ;have co:=eq' bo bp bq br (cJ' aM (i:=j * 3) (by omega) (cn.step (aM.ks.am (j * 3) (by omega))));obtain⟨aS,bb⟩:∃aS,aS=fun t=>if t=j * 3 then(H (j * 3)).drop G else H t:=⟨_,rfl⟩
     rw[<-bb]at co;obtain⟨bu,bJ⟩:∃bu,bu=eK' ((H (j * 3)).take G):=⟨_,rfl⟩;rw[<-bJ]at cm;have df:∀t,t < G->∃cp:ByteArray,bu[t * 2]? =some (.string cp)/\bu[t * 2+1]? =some (.int .i64 ((pl' j).getD t 0:Nat)):=by
      intro t cq;obtain⟨ax,aR,ay,aD⟩:=i' bI;rw[<-(i' bt).1]at ax;rw[bJ,ay,li'];have:=lh' (a.fl j).base ((a.fl j).kept.take G) ((pl' j).take G) t (by simp[aD]) (by simp;omega);have M:((pl' j).take G).getD t 0=(pl' j).getD t 0:=by rw[List.getD_eq_getElem?_getD,List.getD_eq_getElem?_getD,List.getElem?_take,if_pos cq]
      rw[M]at this;exact⟨_,this.1,this.2⟩
     have dg:∀t,t < G->(pl' j).take (t+1)=(pl' j).take t++[(pl' j).getD t 0]:=by
      intro t cq;obtain⟨ax,aR,ay,aD⟩:=i' bI;rw[<-(i' bt).1]at ax;have bw:t < (pl' j).length:=by omega
      rw[List.take_add_one,List.getElem?_eq_getElem bw,List.getD_eq_getElem?_getD,List.getElem?_eq_getElem bw];rfl
     have eW:G<=24:=by have h1:=(i' cL).small aC;have h2:=(i' bI).1;rw[<-(i' bt).1]at h2;omega
     have dh:=y' (And.intro de (And.intro cm co));have di:=y' (And.intro df dg);have cr:=y' (And.intro bb bJ);clear aM bo bp bq br de co bb bJ df dg cm cn dc dd db;go_wp2;go_loopw[8,42] (fun _ i wr2=>∃t:Nat,t<=G/\i= .int .i64 t/\wr2.heap[w.heap.size]? =some (.cells #[.int .i64 aG, .int .i64 aH, .int .i64 aI] 100 (0,0))/\as' wr2 140 2 (.slice dL G dM) G bu/\aA' w wr2 p r a.ticks a.welcome a.fenced (aL++(pl' j).take t) aS aq c) (fun _ i _=>G - (intOf i).toNat)
     case atStart=>obtain⟨cs,bK,dN⟩:=i' dh;exact⟨0,by omega,rfl,cs,bK,by simpa using dN⟩
     case round=>
      obtain⟨t,cq,rfl,aA,ab,dj⟩:=hrel;clear dh;by_cases bw:t < G
      ·obtain⟨eX,eY,cu,_,_,dl⟩:=ab.shape;injection cu with cu _ dO;subst cu dO;obtain⟨eZ,dm,rfl,cv⟩:=dl (by omega);obtain⟨cp,dq,dr⟩:=(i' di).1 t bw;have r0:=(cv (t * 2) (by omega)).trans dq;have cw:=(cv (t * 2+1) (by omega)).trans dr;rw[show dm+(t * 2+1)=dm+t * 2+1 by omega]at cw;obtain⟨Q,cx⟩:∃Q,Q=(pl' j).getD t 0:=⟨_,rfl⟩;rw[<-cx]at cw;have dP:=y' cx;obtain⟨c2,I,ac,ad,s1,ah⟩:=dj;have fb:(0:Int)<=(t:Int):=by omega
       have dt:(t:Int) < (G:Int):=by omega
       have cy:=y' (And.intro I (And.intro ac (And.intro ad (And.intro s1 ah))));have dQ:=y' (And.intro aA ab);clear I ac ad s1 ah dl cv dq dr cx aA ab;go_upto_region 13 with fail;obtain⟨bc,cz⟩:∃bc,bc=wr.heap.size:=⟨_,rfl⟩;have du:=y' cz;rw[<-cz];clear cz;refine H' (fun y=>y.heap[bc]? =some (.cells #[.string cp, .int .i64 Q] 140 (0,0))/\Below wr.heap.size wr y) ?_ ?_
       ·rw[i' du];exact⟨heap_alloc_new _ _,(Below.refl _ _).alloc (Nat.le_refl _) _⟩
       clear r0 cw;rintro aT ⟨bL,aU⟩;obtain⟨I,ac,ad,s1,ah⟩:=i' cy;have V:=I.below aU;obtain⟨U,bM⟩:∃U,U=aL++(pl' j).take t:=⟨_,rfl⟩;rw[<-bM]at V;obtain⟨ao,bN⟩:∃ao,ao=U.length:=⟨_,rfl⟩;obtain⟨be,bf,bg,_⟩:=V.ks.fr.shape;have ab:=V.ks.fr;rw[<-bN]at bg ab;have fc:ao<=24+24:=by have h1:=(i' ci).sum;rw[bN,bM,List.length_append,List.length_take];omega
       have dv:aT.cell? ⟨p,22,none⟩=some c2.fv:=by rw[t' V.ks.blk,V.ks.af]
       have dR:aT.cell? ⟨p,22,none⟩=some (.slice be ao bf):=by rw[dv,bg]
       have bO:=V.ks.fr.ne V.ks.blk (by decide);have dS:=V.ks.fr.ne bL (by decide);have fd:=lt_of_block V.ks.blk;have fe:=lt_of_block bL;have dT:¬bc=p:=by have:=lt_of_block I.ks.blk;have:=i' du;omega
       have dU:=fun g M=>V.ks.fr.lt g M;have bz:=y' V;have dV:=y' aU;have dW:=y' bL;have dX:=y' ab;have dw:=y' (And.intro bM bN);have dY:=y' (And.intro I (And.intro ac (And.intro ad (And.intro s1 ah))));clear I ac ad s1 ah V aU bL ab bM bN dv dR;refine Z' (by kernel_rfl)
        [fun v _=>v= .pointer (some ⟨p,0,none⟩),fun v _=>v= .pointer (some ⟨p,0,none⟩),fun v _=>v= .pointer (some ⟨p,0,none⟩),fun v _=>v= .pointer (some ⟨p,22,none⟩),fun v _=>v= .slice be ao bf,fun v _=>v= .pointer (some ⟨bc,1,none⟩),fun v _=>v= .int .i64 Q,xv' aT.heap.size Q,xw' aT c2.fv (U++[Q]),fun v _=>v= .pointer (some ⟨p,0,none⟩),fun v _=>v= .pointer (some ⟨p,22,none⟩),
         fun _ z=>aA' aT z p r a.ticks a.welcome a.fenced (U++[Q]) aS aq c2]
        [[(0,none)],[(0,none)],[(47,some 1)],[(48,some 2)],[(49,some 3)],[(8,none)],[(51,some 5)],[(52,some 6)],[(50,some 4),(53,some 7)],[(46,some 0)],[(55,some 9)],[(56,some 10),(54,some 8)]] [some 46,some 47,some 48,some 49,some 50,some 51,some 52,some 53,some 54,some 55,some 56,none] [false,false,false,false,false,false,false,false,false,false,false,false,false,false,false,false,false,false,false,false,false,false,false,false,false,false,false,false,false,false,false,false,false,false,false,false,false,false,false,false,false,false,false,false,false,false,true,true,true,true,true,true,true,true,true,true,true,false,false,false,false,false,false,false,false,false,false,false,false]
        [(8,fun k=>c2.fv.ownBlock=some k),(11,fun k=>k=p)]
        (by kernel_rfl) (by kernel_rfl) (by kernel_rfl) (by kernel_rfl) (by kernel_rfl) ?_ ?_ ?_ ?_
       ·repeat' (first|exact O' _|exact pM' _ _|exact pN' _ _ _|exact(fun _ _ _ h D=>h.below D)|exact trivial|apply And.intro)
       ·repeat' (first|exact trivial|exact .inl rfl|exact .inr (.inr (an' _ _))|exact .inr (.inr (il' (fun g M=>dU g M)))|exact .inr (.inr (il' (fun g (M:g=p)=>by omega)))|exact .inr (.inr (ok' (fun g (M:g=p)=>⟨by omega,by rw[M];exact bO⟩)))|exact .inr (.inl (show av' _ 11 8=true by decide+kernel))|apply And.intro)
       ·refine⟨?_,?_,?_,?_,?_,?_,?_,?_,?_,?_,?_,?_,trivial⟩;all_goals
         intro a' z D J;have bH:=D.size;have aB:=y' D;clear D;simp only[M',List.getD_cons_zero,List.getD_cons_succ,Array.getD_eq_getD_getElem?]at J;try simp at J
        iterate 4
         ·go_simp;exact⟨_,rfl,Far.refl _ _,rfl⟩
        ·have ai:=(i' aB).blk (i' bz).ks.blk (by
          rintro⟨q,F,g1,g2,aa⟩;simp at F;rcases F with rfl|rfl
          ·exact bO aa
          ·exact absurd (show av' _ 11 4=false from g2) (by decide+kernel))
         have aZ:z.cell? ⟨p,22,none⟩=some (.slice be ao bf):=by rw[t' ai,(i' bz).ks.af,bg]
         clear ai;go_simp;exact⟨_,rfl,Far.refl _ _,rfl⟩
        ·go_simp;exact⟨_,rfl,Far.refl _ _,rfl⟩
        ·have ai:=(i' aB).blk (i' dW) (by
          rintro⟨q,F,g1,g2,aa⟩;simp at F;rcases F with rfl|rfl
          ·exact dS aa
          ·exact dT aa)
         have aZ:z.cell? ⟨bc,1,none⟩=some (.int .i64 Q):=t' (i:=1) ai;clear ai;go_simp;exact⟨_,rfl,Far.refl _ _,rfl⟩
        ·go_simp;exact⟨_,rfl,C' ((Below.refl _ _).alloc (Nat.le_refl _) _),_,rfl,bH,heap_alloc_new z _⟩
        ·have dZ:=(i' dX).far (i' aB) (by
          rintro g M ⟨q,F,g1,g2,aa⟩;simp at F;rcases F with rfl|rfl
          ·exact g1 rfl
          ·have aa:g=p:=aa;exact bO (by rw[M,aa]))
         obtain⟨g,M,ff,ea⟩:=J.2;have eb:as' z 3 1 (.slice be ao bf) ao (J' U):=by rw[<-bg];exact dZ
         refine gU' rfl (.tmp 50) (.tmp 53) 101 rfl 3 _ 1 8 Tryz.underlying101 uW' rfl (.slice be ao bf) ao (J' U) eb (by simp[Act.eval,J]) ⟨g,0,none⟩ 1 1 [.int .i64 Q] (by simp[Act.eval,M]) rfl ?_ (by intro u hu;simp at hu;subst hu;rfl) (by omega) (by omega) (by omega) ?_
         ·intro k u bh;rw[cO',t' ea,Nat.zero_add];simpa using bh
         ·intro dx w' g1 g2;obtain⟨_,bK⟩:=i' dw;have ec:as' w' 3 1 dx (U++[Q]).length (J' (U++[Q])):=by rw[List.length_append,List.length_singleton,<-bK,show J' (U++[Q])=J' U++[.int .i64 Q] by simp[J']];exact g1
          have cA:=g2.grown;rw[<-bg]at cA g2;exact⟨dx,rfl,aj' (.head _) (br' cA),ec,hS' bH g2,Nat.le_trans bH cA.size⟩
        ·go_simp;exact⟨_,rfl,Far.refl _ _,rfl⟩
        ·go_simp;exact⟨_,rfl,Far.refl _ _,rfl⟩
        ·have ak:Far (fun k=>c2.fv.ownBlock=some k) aT z:=(i' aB).mono (by
          rintro k _ ⟨q,F,g1,g2,aa⟩;simp at F;rcases F with rfl|rfl
          ·exact aa
          ·exact absurd rfl g1)
         have ai:=ak.blk (i' bz).ks.blk bO;have cO:z.frozen? ⟨p,22,none⟩=false:=I' (i:=22) ai;have aZ:z.cell? ⟨p,22,none⟩=some (.slice be ao bf):=by rw[t' ai,(i' bz).ks.af,bg]
         obtain⟨fg,cB⟩:=J;obtain⟨ed,ee,ef,_⟩:=cB.1.shape;have dy:=y' cB;have cC:=y' ak;clear cB ai ak;rw[ef]at dy;go_simp;refine⟨aj' (.tail _ (.head _)) (S' z p 22 _),?_⟩;obtain⟨eg,dz,_⟩:=i' dy;have dA:(U++[Q]).length=U.length+1:=by simp
         rw[dA]at dz;have eh:as' z 3 1 (.slice ed (U.length+1) ee) (U++[Q]).length (J' (U++[Q])):=by rw[<-dA];exact eg
         exact jT' (i' bz) _ (i' cC) eh dz
       ·intro Y z3 dB O;have dC:=O.2.2.2.2.2.2.2.2.2.2.2.1;have ak:Far (fun k=>c2.fv.ownBlock=some k\/k=p) aT z3:=dB.mono (fun k _ h=>by
         obtain⟨q,F,h⟩:=h;simp at F;rcases F with rfl|rfl
         ·exact .inl h
         ·exact .inr h)
        have ei:=y' dC;have cC:=y' ak;clear dC O dB ak;simp only[Y'];generalize Y 46=fh;generalize Y 47=fi;generalize Y 48=fj;generalize Y 49=fk;generalize Y 50=fm;generalize Y 51=fo;generalize Y 52=fp;generalize Y 53=fq;generalize Y 54=ft;generalize Y 55=fu;generalize Y 56=fw;go_wp2;obtain⟨aA,ab⟩:=i' dQ;obtain⟨I,ac,ad,s1,ah⟩:=i' dY;have aU:=i' dV;have ak:=i' cC;obtain⟨cs,bK⟩:=i' dw;have ej:¬ (c2.fv.ownBlock=some w.heap.size\/w.heap.size=p):=by
         rintro(h|h)
         ·exact(I.ks.fr.ne aA (by decide)) h
         ·exact absurd h (by omega)
        refine⟨⟨t+1,by omega,by go_num,?_,?_,?_⟩,by simp[intOf];omega⟩
        ·exact ak.blk ((aU.block _ (lt_of_block aA)).trans aA) ej
        ·refine(ab.far (C' (E:=fun _=>False) aU) (fun _ _ h=>h)).far ak (fun g M h=>?_);rcases h with h|h
         ·exact(ab.ty I.ks.fr (by decide) M) h
         ·exact(ab.ne I.ks.blk (by decide)) (by rw[M,h])
        ·rw[(i' di).2 t bw,<-List.append_assoc,<-cs,<-i' dP];exact eq' ac ad s1 ah ((i' ei).behind aU)
      ·have dt:G=t:=by omega
       subst dt;obtain⟨c2,I,ac,ad,s1,ah⟩:=dj;have bb:=(i' cr).1;have dD:lb' (aS (j * 3+1)):=by rw[bb];show lb' (if j * 3+1=j * 3 then _ else H (j * 3+1));rw[if_neg (by omega)];exact(i' ci).si j aC
       have bP:=fun y (ap:Below wr.heap.size wr y)=>y' (mB' ((I.below ap).shAt (i:=j * 3+1) (by omega)) dD aE);rw[show 4+(j * 3+1) * 2=4+j * 6+2 by omega]at bP;have ek:wr.cell? ⟨w.heap.size,j,none⟩=some (.int .i64 aE):=by rw[t' aA,(i' bt).2];exact(i' bX) j aC _ rfl
       have dE:=lt_of_block aA;have cy:=y' (And.intro I (And.intro ac (And.intro ad (And.intro s1 ah))));have dF:=y' aA;clear I ac ad s1 ah aA bb dD ab;go_upto_region 15 with fail;refine ag' (by kernel_rfl)
        [fun v _=>v= .pointer (some ⟨p,0,none⟩),fun v _=>v= .int .i64 j,fun v _=>v= .pointer (some ⟨p,0,none⟩),fun v _=>v= .pointer (some ⟨p,4,none⟩),fun v _=>v= .pointer (some ⟨p,4+j * 6,none⟩),fun v _=>v= .pointer (some ⟨p,4+j * 6+2,none⟩),fun v _=>v= .int .i64 j,fun v _=>v= .pointer (some ⟨w.heap.size,j,none⟩),fun v _=>v= .int .i64 aE,fun _ _=>True]
        [[(0,none)],[(6,none)],[(58,some 0)],[(60,some 2)],[(61,some 3),(59,some 1)],[(62,some 4)],[(6,none)],[(3,none),(64,some 6)],[(65,some 7)],[(63,some 5),(66,some 8)]] [some 58,some 59,some 60,some 61,some 62,some 63,some 64,some 65,some 66,some 67] [false,false,false,false,false,false,false,false,false,false,false,false,false,false,false,false,false,false,false,false,false,false,false,false,false,false,false,false,false,false,false,false,false,false,false,false,false,false,false,false,false,false,false,false,false,false,false,false,false,false,false,false,false,false,false,false,false,false,true,true,true,true,true,true,true,true,true,true,false]
        9 _ rfl rfl (by kernel_rfl) (by kernel_rfl) (by kernel_rfl) (by kernel_rfl) (by kernel_rfl) (by kernel_rfl) ?_ ?_ ?_
       ·repeat' (first|exact O' _|exact X'|exact trivial|apply And.intro)
       ·refine⟨?_,?_,?_,?_,?_,?_,?_,?_,?_,trivial⟩;all_goals
         intro a' z D J;have bi:=(D.cell (p:=⟨w.heap.size,j,none⟩) dE).trans ek;clear D bP;simp only[M',List.getD_cons_zero,List.getD_cons_succ,Array.getD_eq_getD_getElem?]at J;try simp at J
         go_simp;try exact⟨_,rfl,Below.refl _ _,rfl⟩
         try exact Below.refl _ _
       ·intro aV dG aW O;simp only[af',List.take]at O;have el:=O.2.2.2.2.2.1;have em:=O.2.2.2.2.2.2.2.2.1;clear O;have en:=y' (i' (bP dG aW));have eo:=y' aW;clear aW bP;simp only[Y',el,em];generalize aV 58=u58;generalize aV 59=u59;generalize aV 60=u60;generalize aV 61=u61;generalize aV 62=u62;generalize aV 64=u64;generalize aV 65=u65;go_simp;refine(i' en).mono ?_;rintro bE u ⟨v,rfl,ch,bA⟩;have eq:=y' bA;clear ch bA;go_wp2;obtain⟨I,ac,ad,s1,ah⟩:=i' cy;have aW:=i' eo;have V:=I.below aW;have bA:=i' eq;have er:dS' dG u p (4+(j * 3+1) * 2) 116 c2.arr (c2.nv (j * 3+1)) (c2.mv (j * 3+1)) ((aS (j * 3+1)).drop (bs' (aS (j * 3+1)) aE)):=by rw[show 4+(j * 3+1) * 2=4+j * 6+2 by omega];exact bA
        have bm:=eq' ac ad s1 ah ((cJ' V (i:=j * 3+1) (by omega) (er.step (I.ks.am (j * 3+1) (by omega)))).behind aW);have es:=cR' I (i' dF) (by decide) (by decide) (by decide) (by decide) (by decide) (by decide) (by decide);obtain⟨ax,aR,ay,aD⟩:=i' bI;obtain⟨aF,aX⟩:=i' bt;have et:((H (j * 3+1)).map (·.1)).Pairwise (· < ·):=by have:=(I.ks.shs (j * 3+1) (by omega)).sorted;rw[(i' cr).1]at this;have e:(fun t=>if t=j * 3 then(H (j * 3)).drop G else H t) (j * 3+1)=H (j * 3+1):=if_neg (by omega);rw[e]at this;exact this
        have cD:=rO' (i' ci) aC (n:=n j) (by rw[lf'];exact ax) et;rw[<-vh']at cD;refine⟨⟨j+1,by omega,by go_num,?_,aL++(pl' j).take G,_,(fun t=>if t=j then(pl' j).drop G else pl' t),bm,?_,?_,?_⟩,by simp[intOf];omega⟩
        ·refine bA.far.blk ((aW.block _ dE).trans (i' dF)) (fun h=>es ?_);rcases h with h|h
         ·exact .inl (.inl h)
         ·exact .inl (.inr (.inr ⟨_,by omega,h⟩))
        ·have hcut:bs' (H (j * 3)) ((a.fl j).base+n j)=n j:=by rw[ay];exact gw' _ _ _ _ ax aD
         rw[lf',hcut,<-aF,<-show aE=(a.fl j).base+G by rw[aX,aF];exact aR]at cD;rw[(i' cr).1];have e:(fun t=>if t=j * 3 then(H (j * 3)).drop G else H t) (j * 3+1)=H (j * 3+1):=if_neg (by omega);rw[e];exact {cD with bs:=fun _ _=>rfl}
        ·rw[(i' bn).1,(i' bn).2,aF];exact(vs' free pl n j).symm
        ·rw[(i' bn).2,aF];exact(vt' pl n j).symm
   ·obtain rfl:j=3:=by omega
    go_wp2;go_ret;refine⟨rfl,r,aL,H,pl',aq,cS,by rw[(i' bn).1,(i' bn).2];exact(i' aY).1,?_⟩;rw[tV']at ba;exact {ba with bs:=fun i hi=>(i' aY).2.2.2.2 i hi |>.trans (by simp[Mod.Ag.drop,Mod.dropTo,hi,Mod.Flow.drop])}
theorem lx' (D:aC' w p g a.ticks a.welcome a.fenced free sh st c) (hs:cv' op st a free pl) (ad:op.2=1) (ah:aQ' a st.opening g free sh pl) (r:Nat->Nat) (M:∀i,i < 3->r i < 4294967296)
  (aG:¬ (r 0=g 0/\r 1=g 1/\r 2=g 2)):
  Calls Tryz.prog 117 #[A' p, .agg #[.int .i64 (r 0), .int .i64 (r 1), .int .i64 (r 2)]] w fun aH F=>aH= .returned (.int .i64 4)/\fp' op.1 w F p a c:=by
 have g0:w.cell? ⟨p,1,none⟩=some (.int .i64 (g 0)):=by rw[t' D.ks.blk];exact D.ks.ag 0 (by omega)
 have g1:w.cell? ⟨p,2,none⟩=some (.int .i64 (g 1)):=by rw[t' D.ks.blk];exact D.ks.ag 1 (by omega)
 have g2:w.cell? ⟨p,3,none⟩=some (.int .i64 (g 2)):=by rw[t' D.ks.blk];exact D.ks.ag 2 (by omega)
 have ai:=lt_of_block D.ks.blk;obtain⟨h0,aj⟩:=vq' (st:=st) (a:=a) (op:=op.1) (ct:=1+fY' a) (by have h:=hs;unfold cv' at h;rw[ad]at h;exact h) ah.places (r 0) (r 1) (r 2);have O:=fR' (st:=st) (r 0) (r 1) (r 2) D.stt.hd (by rw[D.len];omega);rw[D.len]at O;have ak:=dV' (st:=st) (r 0) (r 1) (r 2);have ao:=fun y (ap:cM' y c.s c.dp st c.dlv c.duv)=>cm' y c.s c.dp st c.dlv c.duv ap (r 0) (r 1) (r 2) (M 0 (by omega)) (M 1 (by omega)) (M 2 (by omega));obtain⟨Q,aq⟩:∃Q,Q=(st.putNumbers (r 0) (r 1) (r 2)).2:=⟨_,rfl⟩;rw[h0,<-aq]at ao;rw[<-aq]at aj O ak;have aI:∀F:World,(Op.equalIn 10000 100 (.agg #[.int .i64 (r 0), .int .i64 (r 1), .int .i64 (r 2)]) (.agg #[.int .i64 (g 0), .int .i64 (g 1), .int .i64 (g 2)])).run Tryz.prog F= .ok false F:=fun F=>by
  rw[ik'];congr 1;by_cases au:(r 0:Int)=(g 0:Int)
  ·by_cases av:(r 1:Int)=(g 1:Int)
   ·have U:¬ (r 2:Int)=(g 2:Int):=fun U=>aG ⟨by omega,by omega,by omega⟩;simp[U]
   ·simp[av]
  ·simp[au]
 have aJ:=fun y ap=>y' (ao y ap);have V:=y' D;have aT:=y' ah;have aK:=y' (And.intro aj (And.intro O ak));obtain⟨ax,ay⟩:∃x,x=r 0:=⟨_,rfl⟩;obtain⟨az,aA⟩:∃x,x=r 1:=⟨_,rfl⟩;obtain⟨aB,aC⟩:∃x,x=r 2:=⟨_,rfl⟩;rw[<-ay,<-aA,<-aC]at aJ aI ⊢;have aU:=y' (And.intro ay (And.intro aA aC));generalize g 0=aV at *;generalize g 1=aW at *;generalize g 2=aX at *;clear D ah aj O ak ao h0 aq aG ay aA aC M hs ad;unfold A' at *;go_enter Tryz.func117,Tryz.ntmps117;go_upto_region 1 with fail;refine H' (fun x=>x.heap[w.heap.size]? =some (.cells #[.int .i64 ax, .int .i64 az, .int .i64 aB] 100 (0,0))/\Below w.heap.size w x) ⟨heap_alloc_new _ _,(Below.refl _ _).alloc (Nat.le_refl _) _⟩ ?_;rintro x ⟨z,H⟩;have X:=t' (i:=0) z;have Y:=t' (i:=1) z;have Z:=t' (i:=2) z;simp at X Y Z;have aN:=(H.cell (p:=⟨p,1,none⟩) ai).trans g0;have aO:=(H.cell (p:=⟨p,2,none⟩) ai).trans g1;have aP:=(H.cell (p:=⟨p,3,none⟩) ai).trans g2;have I:=y' H;have aa:=y' z;clear z H g0 g1 g2;go_quiet (fail);go_upto_region 3 with fail;refine H' (fun x=>x.heap[w.heap.size]? =some (.cells #[.int .i64 ax, .int .i64 az, .int .i64 aB] 100 (0,0))/\Below w.heap.size w x) ⟨i' aa,(i' I).trans (below_drewN (Below.refl _ _) _ |>.mono (i' I).size)⟩ ?_;clear X Y Z aN aO aP I aa aI;rintro x ⟨z,H⟩;have X:=t' (i:=0) z;have Y:=t' (i:=1) z;have Z:=t' (i:=2) z;simp at X Y Z;have aY:=lt_of_block z;have I:=y' H;have aa:=y' z;have aQ:∀k,w.heap.size<=k->¬StU c.s c.dp c.dlv c.duv k:=fun k ad h=>by have:=(i' V).lt k (.inr (.inl h));omega
 clear z H;refine Z' (by kernel_rfl)
  [fun v _=>v= .pointer (some ⟨p,0,none⟩),fun v _=>v= .pointer (some ⟨p,0,none⟩),fun v _=>v= .pointer (some ⟨p,0,none⟩),fun v _=>v= .pointer (some ⟨c.s,0,none⟩),fun v _=>v= .agg #[.int .i64 ax, .int .i64 az, .int .i64 aB],
   fun v y=>v= .int .i64 4/\∃J,cM' y c.s c.dp Q c.dlv J/\Loc w c.duv J,fun v _=>v= .int .i64 4]
  [[(0,none)],[(15,some 0)],[(16,some 1)],[(17,some 2)],[(3,none)],[(18,some 3),(19,some 4)],[(20,some 5)]] [some 15,some 16,some 17,some 18,some 19,some 20,some 5] [false,false,false,false,false,true,false,false,false,false,false,false,false,false,false,true,true,true,true,true,true,false,false,false,false,false,false,false,false,false,false,false,false,false,false,false,false,false,false,false,false,false,false,false,false,false,false,false,false,false,false,false,false,false,false,false,false,false,false,false,false,false,false,false,false,false,false,false,false]
  [(5,StU c.s c.dp c.dlv c.duv)]
  (by kernel_rfl) (by kernel_rfl) (by kernel_rfl) (by kernel_rfl) (by kernel_rfl) ?_ ?_ ?_ ?_
 ·repeat' (first|exact O' _|exact(fun _ _ _ h z=>⟨h.1,h.2.imp fun _ h=>⟨h.1.far (C' (E:=fun _=>False) z) (fun _ _ h=>h),h.2⟩⟩)|exact trivial|apply And.intro)
 ·repeat' (first|exact trivial|exact .inl rfl|exact .inr (.inr (an' _ _))|apply And.intro)
 ·refine⟨?_,?_,?_,?_,?_,?_,?_,trivial⟩;all_goals
   intro a' F z ab;have ac:=z.blk (i' aa) (ae' (by intro q G;simp at G;subst G;exact aQ _ (Nat.le_refl _)));have au:=t' (i:=0) ac;have av:=t' (i:=1) ac;have U:=t' (i:=2) ac;simp at au av U;clear ac;simp only[M',List.getD_cons_zero,List.getD_cons_succ,Array.getD_eq_getD_getElem?]at ab;try simp at ab
  iterate 3
   ·clear z;go_simp;exact⟨_,rfl,Far.refl _ _,rfl⟩
  ·have z0:F.cell? ⟨p,0,none⟩=some (.pointer (some ⟨c.s,0,none⟩)):=by have aD:=(i' V).below (i' I);have:=z.blk aD.ks.blk (ae' (by intro q G;simp at G;subst G;exact fun h=>aD.sep p (.inl rfl) h));rw[t' this,aD.ks.a0];rfl
   clear z;go_simp;exact⟨_,rfl,Far.refl _ _,rfl⟩
  ·clear z;go_simp;exact⟨_,rfl,Far.refl _ _,rfl⟩
  ·have aE:Below x.heap.size x F:=z.below (Nat.le_refl _) (by rintro j _ ⟨q,G,g1,g2,aZ⟩;simp at G;subst G;exact g1 rfl);have aR:=y' (i' (aJ F (((i' V).below (i' I)).below aE).stt));have ba:=aE.size;have bb:=(i' I).size;clear z aE;go_simp;refine(i' aR).mono ?_;rintro aH bc ⟨rfl,J,k1,k2,k3⟩;exact⟨_,rfl,aj' (.head _) k3,rfl,J,k1,bH' k2 (by omega)⟩
  ·clear z;obtain⟨ab,_⟩:=ab;go_simp;exact⟨_,rfl,Far.refl _ _,rfl⟩
 ·intro f F hF aF;obtain⟨_,J,k1,k2⟩:=aF.2.2.2.2.2.1;have aL:=aF.2.2.2.2.2.2.1;have hF:Far (StU c.s c.dp c.dlv c.duv) x F:=hF.mono (fun k _ h=>by obtain⟨q,G,h⟩:=h;simp at G;subst G;exact h);have aM:=dG' (i' V) k1 k2 ((C' (E:=StU c.s c.dp c.dlv c.duv) (i' I)).trans hF (fun _ _ h=>h)) (i' aK).2.1;have aS:=y' aM;clear aM aF hF k1 k2;simp only[Y',aL];clear aL;generalize f 15=be;generalize f 16=bf;generalize f 17=bg;generalize f 18=bh;generalize f 19=bi;generalize f 20=bj;go_wp2;go_ret;exact⟨rfl,g,free,sh,Q,i' aS,(i' aK).1⟩
theorem ly' (F:aC' w p g a.ticks a.welcome a.fenced free sh st c) (hs:cv' op st a free pl) (M:∀i,i < 3->(a.fl i).base+(a.fl i).kept.length<=2147483647) (z:aQ' a st.opening g free sh pl) (n r:Nat->Nat) (O:op.2≠1\/n 0+n 1+n 2=0) (Q:∀i,i < 3->n i<=(a.fl i).kept.length) (G:∀i,i < 3->r i=(a.fl i).base+n i) (U:∀i,i < 3->r i < 4294967296):
  Calls Tryz.prog 117 #[A' p, .agg #[.int .i64 (r 0), .int .i64 (r 1), .int .i64 (r 2)]] w fun H I=>H= .returned (.int .i64 0)/\bO' (eh' op (n 0+n 1+n 2)) w I p (a.drop n) c:=by
 by_cases h:r 0=g 0/\r 1=g 1/\r 2=g 2
 ·have J:∀i,i < 3->r i=g i:=by
   intro i hi;obtain rfl|rfl|rfl:i=0\/i=1\/i=2:=by omega
   ·exact h.1
   ·exact h.2.1
   ·exact h.2.2
  have D:∀i,i < 3->n i=0:=fun i hi=>by have:=J i hi;have:=G i hi;have:=z.bs i hi;omega
  have V:a.drop n=a:=tW' D;rw[V,show n 0+n 1+n 2=0 by have:=D 0 (by omega);have:=D 1 (by omega);have:=D 2 (by omega);omega,dc'];refine(rP' F r J).mono ?_;rintro H I ⟨rfl,X⟩;exact⟨rfl,(bU' F hs z).below X⟩
 ·have Y:=lw' z G h;rw[vu' op Y];exact ql' F hs (O.resolve_right (by omega)) M z n r Q G U h
theorem te' {a:Mod.Ag} {op:Nat} {g:Nat->Nat} {free:List Nat} {sh:Nat->List (Nat×Value)} {pl:Nat->List Nat} (z:aQ' a op g free sh pl) {n r:Nat->Nat} (D:∀i,i < 3->r i=(a.fl i).base+n i) (F:0 < n 0+n 1+n 2):¬ (r 0=g 0/\r 1=g 1/\r 2=g 2):=by
 rintro⟨h0,h1,h2⟩;have G:=z.bs 0 (by omega);have H:=z.bs 1 (by omega);have I:=z.bs 2 (by omega);have J:=D 0 (by omega);have M:=D 1 (by omega);have O:=D 2 (by omega);omega
theorem lz' (I:aC' w p g a.ticks a.welcome a.fenced free sh st c) (hs:cv' op st a free pl) (O:aQ' a st.opening g free sh pl) (e:Nat) (s q:Int) (b:ByteArray):
  Calls Tryz.prog 78 #[A' p, .agg #[.int .i64 5, .int .i64 e, .int .i64 s, .int .i64 q, .string b]] w fun ai Q=>ai= .returned (.int .i64 0)/\bO' op w Q p (a.deliver 5 e s q b) c:=by
 have ap:=lt_of_block I.ks.blk;have U:=fun Q (aj:Below w.heap.size w Q)=>y' (bq' (I.below aj));obtain⟨ep,V⟩:∃ep,ep=a.epoch:=⟨_,rfl⟩;have Y:st.opening=ep:=by rw[V];exact O.ep
 rw[Y]at U;have hd:a.deliver 5 e s q b=if ep < e then {a with fenced:=true}else if e=ep then {a with welcome:=false}else a:=by
  unfold Mod.Ag.deliver;rw[<-V];by_cases h1:ep < e
  ·rw[if_pos ⟨rfl,by omega⟩,if_pos h1]
  ·rw[if_neg (by omega),if_neg h1];by_cases h2:e=ep
   ·rw[if_neg (by omega),if_pos rfl,if_pos h2]
   ·rw[if_pos (by omega),if_neg h2]
 obtain⟨Z,aa⟩:∃Z,Z=a.deliver 5 e s q b:=⟨_,rfl⟩;rw[<-aa]at hd ⊢;have ab:=y' (cK' w #[.int .i64 5, .int .i64 e, .int .i64 s, .int .i64 q, .string b]);have r:=y' (And.intro I (And.intro hs O));have X:=y' hd;clear I hs O Y V aa hd;unfold A' at *;go_enter Tryz.func78,Tryz.ntmps78;go_upto_region 1 with fail;refine H' (bg' w #[.int .i64 5, .int .i64 e, .int .i64 s, .int .i64 q, .string b]) (i' ab) ?_;clear ab;intro x z;have J:=t' (i:=1) z.box;simp at J;have F:=fun n=>y' (i' (U (x.drewN n) (z.drewN n).bel));have M:=y' z;clear z;have K:=(i' r).1.below (i' M).bel;have ac:∀n,(x.drewN n).cell? ⟨p,25,none⟩=some (.bool a.fenced):=fun n=>by show x.cell? _= _;rw[t' K.ks.blk,K.ks.ae]
 have f25:∀n,(x.drewN n).frozen? ⟨p,25,none⟩=false:=fun n=>I' (w:=x) (i:=25) K.ks.blk;have G:=y' (And.intro ac f25);have H:∀n,Below w.heap.size w (x.drewN n):=fun n=>((i' M).drewN n).bel;have D:=y' H;clear K ac f25 H;by_cases h1:ep < e
 ·have ak:(ep:Int) < (e:Int):=by omega
  go_quiet (first|(go_at_call 52;exact Calls.quiet_of_same (i' (F _))))
  have d:=(i' G).1 nq;have f:=(i' G).2 nq;go_wp2;go_ret;refine⟨rfl,?_⟩;rw[i' X,if_pos h1];exact⟨g,free,sh,pl,st,(rR' ((i' r).1.below ((i' D) nq)) true).behind ((i' D) nq),(i' r).2.1.flags _ _ _,(i' r).2.2.flags a.ticks a.welcome true⟩
 ·have ak:¬ (ep:Int) < (e:Int):=by omega
  go_quiet (first|(go_at_call 52;exact Calls.quiet_of_same (i' (F _))))
  go_upto_region 3 with fail
  refine H' (bg' w #[.int .i64 5, .int .i64 e, .int .i64 s, .int .i64 q, .string b]) ((i' M).drewN _) ?_;clear M J F G D;intro x z;have J:=t' (i:=1) z.box;simp at J;have F:=fun n=>y' (i' (U (x.drewN n) (z.drewN n).bel));have K:=(i' r).1.below z.bel;have ad:∀n,(x.drewN n).cell? ⟨p,24,none⟩=some (.bool a.welcome):=fun n=>by show x.cell? _= _;rw[t' K.ks.blk,K.ks.aw]
  have ah:∀n,(x.drewN n).frozen? ⟨p,24,none⟩=false:=fun n=>I' (w:=x) (i:=24) K.ks.blk;have H:∀n,Below w.heap.size w (x.drewN n):=fun n=>(z.drewN n).bel;have D:=y' H;have G:=y' (And.intro ad ah);clear K ad ah z H;by_cases h2:e=ep
  ·have ao:((e:Int) == (ep:Int))=true:=by simp[h2]
   go_quiet (first|(go_at_call 52;exact Calls.quiet_of_same (i' (F _))))
   have d:=(i' G).1 nq;have f:=(i' G).2 nq;go_wp2;go_ret;refine⟨rfl,?_⟩;rw[i' X,if_neg h1,if_pos h2];exact⟨g,free,sh,pl,st,(lj' ((i' r).1.below ((i' D) nq)) false).behind ((i' D) nq),(i' r).2.1.flags _ _ _,(i' r).2.2.flags a.ticks false a.fenced⟩
  ·have ao:((e:Int) == (ep:Int))=false:=by simp;omega
   go_quiet (first|(go_at_call 52;exact Calls.quiet_of_same (i' (F _))))
   go_wp2;go_ret;refine⟨rfl,?_⟩;rw[i' X,if_neg h1,if_neg h2];exact(bU' (i' r).1 (i' r).2.1 (i' r).2.2).below ((i' D) nq)
end
theorem sf' (f:Nat->Mod.Flow) (i:Nat):(Mod.fresh f 3 i).base=(f i).base/\(Mod.fresh f 3 i).kept.map (·.1)=(f i).kept.map (·.1):=by
 unfold Mod.fresh;split
 ·exact⟨rfl,by simp⟩
 ·exact⟨rfl,rfl⟩
theorem qm' (f:Nat->Mod.Flow) (s:Nat) (x:List Nat) (i:Nat):(Mod.upd f s {f s with held:=x} i).base=(f i).base/\(Mod.upd f s {f s with held:=x} i).kept.map (·.1)=(f i).kept.map (·.1):=by
 unfold Mod.upd;split
 ·rename_i h;rw[h];exact⟨rfl,rfl⟩
 ·exact⟨rfl,rfl⟩
section
variable {w:World} {p:Nat} {g:Nat->Nat} {free:List Nat} {sh:Nat->List (Nat×Value)} {st:Mod.Stv} {c:Av} {a:Mod.Ag} {pl:Nat->List Nat} {op:Nat}
end
end Go.Proofs.YtamafdcnbcoegabGreat
