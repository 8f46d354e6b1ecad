/-
  Part 12 of a proof: LB2.
-/
import Derived.Test.YtamafdcnbcoegaaGreatSf11
set_option maxRecDepth 100000
set_option maxHeartbeats 40000000
namespace Go.Proofs.YtamafdcnbcoegaaGreat
open Go.RowKit
section
variable {w:World} {p:Nat} {g:Nat->Nat} {free:List Nat} {sh:Nat->List (Nat×Value)} {st:Mod.Stv} {c:Av} {a:Mod.Ag} {pl:Nat->List Nat} {op:Nat×Nat}
theorem iL' (J:aA' w p g a.ticks a.welcome a.fenced free sh st c) (hs:cn' op st a free pl) (U:aO' a st.opening g free sh pl) (e:Nat) (s q:Int) (b:ByteArray) (aU:op.2≠1\/(a.says 2 e s q b 0+a.says 2 e s q b 1+a.says 2 e s q b 2)=0) (cp:e=a.epoch) (bo:b.size=12) (aV:∀i,i < 3->(a.fl i).base+(a.fl i).kept.length<=1000000000):
  Calls Tryz.prog 104 #[y' p, .agg #[.int .i64 2, .int .i64 e, .int .i64 s, .int .i64 q, .string b]] w fun M f=>M= .returned (.int .i64 0)/\bE' (dT' op (a.says 2 e s q b 0+a.says 2 e s q b 1+a.says 2 e s q b 2)) w f p (a.deliver 2 e s q b) c:=by
 have aW:=lt_of_block J.ks.blk;have bp:=fun f (I:Below w.heap.size w f)=>t' (bk' (J.below I));obtain⟨n,ad⟩:∃n,n=a.says 2 e s q b:=⟨_,rfl⟩;rw[<-ad]at aU ⊢;have hd:a.deliver 2 e s q b={a.drop n with welcome:=true,fl:=Mod.fresh (a.drop n).fl 3}:=by unfold Mod.Ag.deliver;rw[if_neg (by omega),if_neg (by omega),if_neg (by omega),if_pos rfl,ad]
 have aX:∀i,i < 3->n i<=(a.fl i).kept.length:=fun i _=>by rw[ad];exact fX' _ _ _ _ _ _ _
 have bq:∀i,n i=min (Wire.numAt b.data.toList (4 * i) - (a.fl i).base).toNat (a.fl i).kept.length:=fun i=>by rw[ad];unfold Mod.Ag.says;rw[if_neg (by omega),if_pos rfl];rfl
 obtain⟨Y,aG⟩:∃Y:Nat->Nat,Y=fun i=>(a.fl i).base+n i:=⟨_,rfl⟩;have aH:∀i,max ((a.fl i).base:Int) (min (Wire.numAt b.data.toList (4 * i)) (((a.fl i).base+(a.fl i).kept.length:Nat):Int))=(Y i:Int):=fun i=>by rw[rH',aG];show _=(((a.fl i).base+n i:Nat):Int);rw[bq i]
 have br:=fun f (I:Below w.heap.size w f)=>kN' (J.below I) hs (fun i hi=>by have:=aV i hi;omega) U n Y aU aX (fun i _=>by rw[aG]) (fun i hi=>by have:=aV i hi;have:=aX i hi;rw[aG];show(a.fl i).base+n i < _;omega);have bt:=fun f=>eh' b f bo;have aI:=fun i (hi:i < 3) f (I:Below w.heap.size w f)=>cO' (J.below I) U hi (U.bs i hi);have aY:w.cell? ⟨p,1,none⟩=some (.int .i64 (a.fl 0).base):=by rw[m' J.ks.blk,<-U.bs 0 (by omega)];exact J.ks.ag 0 (by omega)
 have aZ:w.cell? ⟨p,2,none⟩=some (.int .i64 (a.fl 1).base):=by rw[m' J.ks.blk,<-U.bs 1 (by omega)];exact J.ks.ag 1 (by omega)
 have ba:w.cell? ⟨p,3,none⟩=some (.int .i64 (a.fl 2).base):=by rw[m' J.ks.blk,<-U.bs 2 (by omega)];exact J.ks.ag 2 (by omega)
 have aJ:=fun f I=>t' (aI 0 (by omega) f I);have aK:=fun f I=>t' (aI 1 (by omega) f I);have aL:=fun f I=>t' (aI 2 (by omega) f I);have ah:=aH 0;have ai:=aH 1;have aj:=aH 2;simp only[Nat.mul_zero,Nat.mul_one,show 4 * 2=8 from rfl]at ah ai aj;have cq:=fun f=>t' (bt f);generalize Wire.numAt b.data.toList 0=Z at *;generalize Wire.numAt b.data.toList 4=aa at *;generalize Wire.numAt b.data.toList 8=ab at *;have aM:=fun f I=>t' (br f I);obtain⟨bb,bc⟩:∃x,x=Y 0:=⟨_,rfl⟩;obtain⟨bd,be⟩:∃x,x=Y 1:=⟨_,rfl⟩;obtain⟨bf,bg⟩:∃x,x=Y 2:=⟨_,rfl⟩;rw[<-bc]at ah;rw[<-be]at ai;rw[<-bg]at aj;rw[<-bc,<-be,<-bg]at aM;obtain⟨bu,bw⟩:∃v,v=(a.fl 0).base+(a.fl 0).kept.length:=⟨_,rfl⟩;obtain⟨bz,bA⟩:∃v,v=(a.fl 1).base+(a.fl 1).kept.length:=⟨_,rfl⟩;obtain⟨bB,bC⟩:∃v,v=(a.fl 2).base+(a.fl 2).kept.length:=⟨_,rfl⟩;rw[<-bw]at ah aJ;rw[<-bA]at ai aK;rw[<-bC]at aj aL;obtain⟨g0,bD⟩:∃v,v=(a.fl 0).base:=⟨_,rfl⟩;obtain⟨g1,bE⟩:∃v,v=(a.fl 1).base:=⟨_,rfl⟩;obtain⟨g2,bF⟩:∃v,v=(a.fl 2).base:=⟨_,rfl⟩;rw[<-bD]at ah aY;rw[<-bE]at ai aZ;rw[<-bF]at aj ba;simp only[show((0:Nat):Int)=0 from rfl,show((1:Nat):Int)=1 from rfl,show((2:Nat):Int)=2 from rfl]at aJ aK aL;obtain⟨ep,bG⟩:∃ep,ep=a.epoch:=⟨_,rfl⟩;have bH:st.opening=ep:=by rw[bG];exact U.ep
 rw[bH]at bp;have cA:((e:Int) != (ep:Int))=false:=by simp;omega
 obtain⟨bI,bJ⟩:∃bI,bI=a.deliver 2 e s q b:=⟨_,rfl⟩;rw[<-bJ]at hd ⊢;obtain⟨a1,bK⟩:∃a1,a1=a.drop n:=⟨_,rfl⟩;rw[<-bK]at hd aM;have cr:=t' hd;have bL:=t' (cA' w #[.int .i64 2, .int .i64 e, .int .i64 s, .int .i64 q, .string b]);have i0:∀w:World,(Instr.index 98 (.agg #[.int .i64 Z, .int .i64 aa, .int .i64 ab]) (.int .i64 0)).run Tryz.prog w= .ok (.int .i64 Z) w:=fun _=>by kernel_rfl
 have cs:∀w:World,(Instr.index 98 (.agg #[.int .i64 Z, .int .i64 aa, .int .i64 ab]) (.int .i64 1)).run Tryz.prog w= .ok (.int .i64 aa) w:=fun _=>by kernel_rfl
 have i2:∀w:World,(Instr.index 98 (.agg #[.int .i64 Z, .int .i64 aa, .int .i64 ab]) (.int .i64 2)).run Tryz.prog w= .ok (.int .i64 ab) w:=fun _=>by kernel_rfl
 clear J U hs aU ad hd aX bq aG aH br bt aI bc be bg bw bA bC bD bE bF bH bG bJ bK cp bo aV;unfold y' at *;go_enter Tryz.func104,Tryz.ntmps104;go_upto_region 1 with fail;refine C' (aZ' w #[.int .i64 2, .int .i64 e, .int .i64 s, .int .i64 q, .string b]) (i' bL) ?_;clear bL;intro x z;have bM:=m' (i:=1) z.box;simp at bM;have bN:=fun n=>t' (i' (bp (x.drewN n) (z.drewN n).bel));have ac:=t' z;clear z;go_quiet (first|(go_at_call 66;exact Calls.quiet_of_same (i' (bN _))));go_upto_region 3 with fail;refine C' (aZ' w #[.int .i64 2, .int .i64 e, .int .i64 s, .int .i64 q, .string b]) ((i' ac).drewN _) ?_;clear ac bM bN;intro x z;have ak:=m' (i:=4) z.box;simp at ak;have bh:=(z.bel.cell (p:=⟨p,1,none⟩) aW).trans aY;have bi:=(z.bel.cell (p:=⟨p,2,none⟩) aW).trans aZ;have bj:=(z.bel.cell (p:=⟨p,3,none⟩) aW).trans ba;have cu:=z.lt;have ac:=t' z;clear z aY aZ ba;go_upto_region 4 with fail;obtain⟨u,bk⟩:∃u,u=x.heap.size:=⟨_,rfl⟩;have bO:=t' bk;have bl:w.heap.size<=u:=by have:=(i' ac).bel.size;omega
 rw[<-bk];have cB:¬w.heap.size=u:=by omega
 clear bk;refine C' (fun y=>y.heap[u]? =some (.cells #[.int .i64 g0, .int .i64 g1, .int .i64 g2] 136 (0,0))/\aZ' w #[.int .i64 2, .int .i64 e, .int .i64 s, .int .i64 q, .string b] y) ?_ ?_
 ·rw[i' bO];exact⟨heap_alloc_new _ _,(i' ac).below ((Below.refl _ _).alloc (Nat.le_refl _) _)⟩
 clear ac bO ak bh bi bj cu;rintro y ⟨h5,z⟩;have ak:=m' (i:=4) z.box;simp at ak;have ao:=t' (And.intro h5 z);clear h5 z;go_upto_region 5 with (go_at_call 151;refine(i' (cq _)).mono ?_;rintro M f ⟨rfl,D⟩);have bP:=(D.block _ (lt_of_block (i' ao).1)).trans (i' ao).1;have bQ:=(i' ao).2.bel.trans (D.mono (i' ao).2.bel.size);have bR:=t' (And.intro bP bQ);clear D bP bQ ao ak;go_loopw[6,7,22] (fun _ _ i wr=>∃j:Nat,j<=3/\i= .int .i64 j/\wr.heap[u]? =some (.cells #[.int .i64 (if 0 < j then bb else g0:Nat), .int .i64 (if 1 < j then bd else g1:Nat), .int .i64 (if 2 < j then bf else g2:Nat)] 136 (0,0))/\Below w.heap.size w wr) (fun _ _ i _=>3 - (intOf i).toNat)
 case atStart=>obtain⟨h1,h2⟩:=i' bR;exact⟨0,by omega,rfl,by simpa using h1,h2⟩
 case round=>
  obtain⟨j,hj,rfl,h5,bS⟩:=hrel;clear bR;have ap:=m' (i:=0) h5;have aq:=m' (i:=1) h5;have au:=m' (i:=2) h5;have Q:=lt_of_block h5;have aN:=t' h5;have F:=t' bS;clear h5 bS;rcases(show j=0\/j=1\/j=2\/j=3 by omega)with rfl|rfl|rfl|rfl
  ·simp at ap;go_wp2_with fail;refine aj' (by kernel_rfl)
    [fun v _=>v= .int .i64 0,fun v _=>v= .int .i64 0,fun v _=>v= .pointer (some ⟨u,0,none⟩),fun v _=>v= .int .i64 g0,fun v _=>v= .int .i64 Z,fun v _=>v= .pointer (some ⟨p,0,none⟩),fun v _=>v= .int .i64 0,fun v _=>v= .int .i64 bu,fun v _=>v= .int .i64 (min Z (bu:Int)),fun v _=>v= .int .i64 bb,fun v _=>v= .pointer (some ⟨u,0,none⟩),fun _ _=>True]
    [[(6,none)],[(6,none)],[(5,none),(27,some 1)],[(28,some 2)],[(7,none)],[(0,none)],[(6,none)],[(31,some 5),(32,some 6)],[(30,some 4),(33,some 7)],[(29,some 3),(34,some 8)],[(5,none),(26,some 0)],[(36,some 10),(35,some 9)]] [some 26,some 27,some 28,some 29,some 30,some 31,some 32,some 33,some 34,some 35,some 36,none] [false,false,false,false,false,false,false,false,false,false,false,false,false,false,false,false,false,false,false,false,false,false,false,false,false,false,true,true,true,true,true,true,true,true,true,true,true,false,false,false,false,false,false,false,false,false,false,false,false,false,false,false,false,false,false,false,false,false,false,false,false,false,false,false,false]
    11 _ rfl rfl (by kernel_rfl) (by kernel_rfl) (by kernel_rfl) (by kernel_rfl) (by kernel_rfl) (by kernel_rfl) ?_ ?_ ?_
   ·repeat' (first|exact J' _|exact Z'|exact trivial|apply And.intro)
   ·refine⟨?_,?_,?_,?_,?_,?_,?_,?_,?_,?_,?_,trivial⟩;all_goals
     intro a' f D V;have bh:=(D.cell (p:=⟨u,0,none⟩) Q).trans ap;have X:=t' (i' (aJ f ((i' F).trans (D.mono (i' F).size))));clear D;simp only[I',List.getD_cons_zero,List.getD_cons_succ,Array.getD_eq_getD_getElem?]at V;try simp at V
     go_simp;try exact⟨_,rfl,Below.refl _ _,rfl⟩
     try exact Below.refl _ _
    all_goals first
     |(refine(i' X).mono ?_;rintro M av ⟨rfl,q,rfl⟩;exact⟨rfl,below_drewN (Below.refl _ _) q⟩)
     |(refine(i' X).mono ?_;rintro M av ⟨rfl,q,rfl⟩;exact⟨_,rfl,below_drewN (Below.refl _ _) q,rfl⟩)
     |skip
   ·intro r f G H;simp only[ae',List.take]at H;have ax:=H.2.2.2.2.2.2.2.2.2.1;have ay:=H.2.2.2.2.2.2.2.2.2.2.1;clear H;have z5:=(G.block _ Q).trans (i' aN);have bh:=(G.cell (p:=⟨u,0,none⟩) Q).trans ap;have cC:=D' (i:=0) z5;have az:=t' z5;have aA:=t' ((i' F).trans (G.mono (i' F).size));clear G z5;simp only[R',ax,ay];generalize r 26=bT;generalize r 27=bU;generalize r 28=bV;generalize r 29=bW;generalize r 30=bX;generalize r 31=bY;generalize r 32=bZ;generalize r 33=ca;generalize r 34=cb;go_simp;go_wp2;refine⟨⟨1,by omega,by go_num,?_,?_⟩,by simp[intOf]⟩
    ·have:=af' (j:=0) (v:= .int .i64 bb) (i' az);simpa using this
    ·exact(i' aA).setCell (p:=⟨u,0,none⟩) bl _
  ·simp at aq;go_wp2_with fail;refine aj' (by kernel_rfl)
    [fun v _=>v= .int .i64 1,fun v _=>v= .int .i64 1,fun v _=>v= .pointer (some ⟨u,1,none⟩),fun v _=>v= .int .i64 g1,fun v _=>v= .int .i64 aa,fun v _=>v= .pointer (some ⟨p,0,none⟩),fun v _=>v= .int .i64 1,fun v _=>v= .int .i64 bz,fun v _=>v= .int .i64 (min aa (bz:Int)),fun v _=>v= .int .i64 bd,fun v _=>v= .pointer (some ⟨u,1,none⟩),fun _ _=>True]
    [[(6,none)],[(6,none)],[(5,none),(27,some 1)],[(28,some 2)],[(7,none)],[(0,none)],[(6,none)],[(31,some 5),(32,some 6)],[(30,some 4),(33,some 7)],[(29,some 3),(34,some 8)],[(5,none),(26,some 0)],[(36,some 10),(35,some 9)]] [some 26,some 27,some 28,some 29,some 30,some 31,some 32,some 33,some 34,some 35,some 36,none] [false,false,false,false,false,false,false,false,false,false,false,false,false,false,false,false,false,false,false,false,false,false,false,false,false,false,true,true,true,true,true,true,true,true,true,true,true,false,false,false,false,false,false,false,false,false,false,false,false,false,false,false,false,false,false,false,false,false,false,false,false,false,false,false,false]
    11 _ rfl rfl (by kernel_rfl) (by kernel_rfl) (by kernel_rfl) (by kernel_rfl) (by kernel_rfl) (by kernel_rfl) ?_ ?_ ?_
   ·repeat' (first|exact J' _|exact Z'|exact trivial|apply And.intro)
   ·refine⟨?_,?_,?_,?_,?_,?_,?_,?_,?_,?_,?_,trivial⟩;all_goals
     intro a' f D V;have bi:=(D.cell (p:=⟨u,1,none⟩) Q).trans aq;have X:=t' (i' (aK f ((i' F).trans (D.mono (i' F).size))));clear D;simp only[I',List.getD_cons_zero,List.getD_cons_succ,Array.getD_eq_getD_getElem?]at V;try simp at V
     go_simp;try exact⟨_,rfl,Below.refl _ _,rfl⟩
     try exact Below.refl _ _
    all_goals first
     |(refine(i' X).mono ?_;rintro M av ⟨rfl,q,rfl⟩;exact⟨rfl,below_drewN (Below.refl _ _) q⟩)
     |(refine(i' X).mono ?_;rintro M av ⟨rfl,q,rfl⟩;exact⟨_,rfl,below_drewN (Below.refl _ _) q,rfl⟩)
     |skip
   ·intro r f G H;simp only[ae',List.take]at H;have ax:=H.2.2.2.2.2.2.2.2.2.1;have ay:=H.2.2.2.2.2.2.2.2.2.2.1;clear H;have z5:=(G.block _ Q).trans (i' aN);have bi:=(G.cell (p:=⟨u,1,none⟩) Q).trans aq;have cD:=D' (i:=1) z5;have az:=t' z5;have aA:=t' ((i' F).trans (G.mono (i' F).size));clear G z5;simp only[R',ax,ay];generalize r 26=bT;generalize r 27=bU;generalize r 28=bV;generalize r 29=bW;generalize r 30=bX;generalize r 31=bY;generalize r 32=bZ;generalize r 33=ca;generalize r 34=cb;go_simp;go_wp2;refine⟨⟨2,by omega,by go_num,?_,?_⟩,by simp[intOf]⟩
    ·have:=af' (j:=1) (v:= .int .i64 bd) (i' az);simpa using this
    ·exact(i' aA).setCell (p:=⟨u,1,none⟩) bl _
  ·simp at au;go_wp2_with fail;refine aj' (by kernel_rfl)
    [fun v _=>v= .int .i64 2,fun v _=>v= .int .i64 2,fun v _=>v= .pointer (some ⟨u,2,none⟩),fun v _=>v= .int .i64 g2,fun v _=>v= .int .i64 ab,fun v _=>v= .pointer (some ⟨p,0,none⟩),fun v _=>v= .int .i64 2,fun v _=>v= .int .i64 bB,fun v _=>v= .int .i64 (min ab (bB:Int)),fun v _=>v= .int .i64 bf,fun v _=>v= .pointer (some ⟨u,2,none⟩),fun _ _=>True]
    [[(6,none)],[(6,none)],[(5,none),(27,some 1)],[(28,some 2)],[(7,none)],[(0,none)],[(6,none)],[(31,some 5),(32,some 6)],[(30,some 4),(33,some 7)],[(29,some 3),(34,some 8)],[(5,none),(26,some 0)],[(36,some 10),(35,some 9)]] [some 26,some 27,some 28,some 29,some 30,some 31,some 32,some 33,some 34,some 35,some 36,none] [false,false,false,false,false,false,false,false,false,false,false,false,false,false,false,false,false,false,false,false,false,false,false,false,false,false,true,true,true,true,true,true,true,true,true,true,true,false,false,false,false,false,false,false,false,false,false,false,false,false,false,false,false,false,false,false,false,false,false,false,false,false,false,false,false]
    11 _ rfl rfl (by kernel_rfl) (by kernel_rfl) (by kernel_rfl) (by kernel_rfl) (by kernel_rfl) (by kernel_rfl) ?_ ?_ ?_
   ·repeat' (first|exact J' _|exact Z'|exact trivial|apply And.intro)
   ·refine⟨?_,?_,?_,?_,?_,?_,?_,?_,?_,?_,?_,trivial⟩;all_goals
     intro a' f D V;have bj:=(D.cell (p:=⟨u,2,none⟩) Q).trans au;have X:=t' (i' (aL f ((i' F).trans (D.mono (i' F).size))));clear D;simp only[I',List.getD_cons_zero,List.getD_cons_succ,Array.getD_eq_getD_getElem?]at V;try simp at V
     go_simp;try exact⟨_,rfl,Below.refl _ _,rfl⟩
     try exact Below.refl _ _
    all_goals first
     |(refine(i' X).mono ?_;rintro M av ⟨rfl,q,rfl⟩;exact⟨rfl,below_drewN (Below.refl _ _) q⟩)
     |(refine(i' X).mono ?_;rintro M av ⟨rfl,q,rfl⟩;exact⟨_,rfl,below_drewN (Below.refl _ _) q,rfl⟩)
     |skip
   ·intro r f G H;simp only[ae',List.take]at H;have ax:=H.2.2.2.2.2.2.2.2.2.1;have ay:=H.2.2.2.2.2.2.2.2.2.2.1;clear H;have z5:=(G.block _ Q).trans (i' aN);have bj:=(G.cell (p:=⟨u,2,none⟩) Q).trans au;have cE:=D' (i:=2) z5;have az:=t' z5;have aA:=t' ((i' F).trans (G.mono (i' F).size));clear G z5;simp only[R',ax,ay];generalize r 26=bT;generalize r 27=bU;generalize r 28=bV;generalize r 29=bW;generalize r 30=bX;generalize r 31=bY;generalize r 32=bZ;generalize r 33=ca;generalize r 34=cb;go_simp;go_wp2;refine⟨⟨3,by omega,by go_num,?_,?_⟩,by simp[intOf]⟩
    ·have:=af' (j:=2) (v:= .int .i64 bf) (i' az);simpa using this
    ·exact(i' aA).setCell (p:=⟨u,2,none⟩) bl _
  ·simp at ap aq au;have cc:=t' (i' (aM wr (i' F)));clear aM aJ aK aL i0 cs i2 ah ai aj;go_upto_region 12 with (go_at_call 152;refine(i' cc).mono ?_;rintro M y ⟨rfl,cv⟩);obtain⟨cd,ce,cf,cw,cg,ch,ci,cj⟩:=cv;have ck:=t' (ch.behind (i' F));have cl:=t' (And.intro ci cj);clear ch ci cj cc ap aq au aN;go_wp2;go_loopw[9,44] (fun _ i wr=>∃j:Nat,j<=3/\i= .int .i64 j/\az' w wr p cd a1.ticks a1.welcome a1.fenced ce (clr cf j) cg c) (fun _ i _=>3 - (intOf i).toNat)
   case atStart=>exact⟨0,by omega,rfl,by rw[tI'];exact i' ck⟩
   case round=>
    obtain⟨j,hj,rfl,aO⟩:=hrel;clear ck;by_cases cF:j < 3
    ·obtain⟨c1,O,aB,aC,aD,aE⟩:=aO;have bm:=qu' (O.shAt (i:=j * 3+1) (by omega));rw[show 4+(j * 3+1) * 2=4+j * 6+2 by omega]at bm;have cm:=t' bm;have cn:=t' (And.intro O (And.intro aB (And.intro aC (And.intro aD aE))));have cG:(0:Int)<=(j:Int):=by omega
     have cH:(j:Int) < 3:=by omega
     clear O aB aC aD aE bm;go_upto_region 16 with (go_at_call 153;refine(i' cm).mono ?_;rintro M y ⟨rfl,aP⟩);obtain⟨O,aB,aC,aD,aE⟩:=i' cn;have aQ:bY' wr y p (4+(j * 3+1) * 2) 151 c1.arr (c1.nv (j * 3+1)) (c1.mv (j * 3+1)) []:=by rw[show 4+(j * 3+1) * 2=4+j * 6+2 by omega];exact aP
     obtain⟨c2,aF,aR,aS,s1,aT⟩:=ed' aB aC aD aE (cz' O (i:=j * 3+1) (by omega) aQ);have bn:=kq' (aF.shAt (i:=j * 3+2) (by omega));rw[show 4+(j * 3+2) * 2=4+j * 6+4 by omega]at bn;have cx:=t' bn;have cy:=t' (And.intro aF (And.intro aR (And.intro aS (And.intro s1 aT))));clear O aB aC aD aE aF aR aS s1 aT bn aP aQ cn cm;go_wp2_with (go_at_call 154;refine(i' cx).mono ?_;rintro M f ⟨rfl,aP⟩);obtain⟨aF,aR,aS,s1,aT⟩:=i' cy;have aQ:bY' y f p (4+(j * 3+2) * 2) 151 c2.arr (c2.nv (j * 3+2)) (c2.mv (j * 3+2)) []:=by rw[show 4+(j * 3+2) * 2=4+j * 6+4 by omega];exact aP
     have co:=ed' aR aS s1 aT (cz' aF (i:=j * 3+2) (by omega) aQ);rw[tJ']at co;exact⟨⟨j+1,by omega,by go_num,co⟩,by simp[intOf];omega⟩
    ·obtain rfl:j=3:=by omega
     obtain⟨c1,O,_⟩:=id aO;have cI:=D' (i:=24) O.ks.blk;have cJ:wr.cell? ⟨p,24,none⟩=some (.bool a1.welcome):=by rw[m' O.ks.blk,O.ks.aw]
     have cz:=t' (aO.trans (fun cK h=>ky' h true));clear aO O;go_wp2;go_ret;refine⟨rfl,?_⟩;rw[i' cr];exact⟨cd,ce,clr cf 3,cw,cg,i' cz,(i' cl).1.same (fun i _=>qW' _ i),qK' (i' cl).2⟩
theorem iM' (J:aA' w p g a.ticks a.welcome a.fenced free sh st c) (hs:cn' op st a free pl) (M:aO' a st.opening g free sh pl) (e:Nat) (s q:Int) (b:ByteArray) (aY:op.2=1) (aG:0 < (a.says 2 e s q b 0+a.says 2 e s q b 1+a.says 2 e s q b 2)) (bP:e=a.epoch) (aZ:b.size=12) (ba:∀i,i < 3->(a.fl i).base+(a.fl i).kept.length<=1000000000):
  Calls Tryz.prog 104 #[y' p, .agg #[.int .i64 2, .int .i64 e, .int .i64 s, .int .i64 q, .string b]] w fun O f=>O= .returned (.int .i64 4)/\fa' op.1 w f p a c:=by
 have aH:=lt_of_block J.ks.blk;have bb:=fun f (I:Below w.heap.size w f)=>t' (bk' (J.below I));obtain⟨n,ac⟩:∃n,n=a.says 2 e s q b:=⟨_,rfl⟩;rw[<-ac]at aG;have hd:a.deliver 2 e s q b={a.drop n with welcome:=true,fl:=Mod.fresh (a.drop n).fl 3}:=by unfold Mod.Ag.deliver;rw[if_neg (by omega),if_neg (by omega),if_neg (by omega),if_pos rfl,ac]
 have bc:∀i,i < 3->n i<=(a.fl i).kept.length:=fun i _=>by rw[ac];exact fX' _ _ _ _ _ _ _
 have bd:∀i,n i=min (Wire.numAt b.data.toList (4 * i) - (a.fl i).base).toNat (a.fl i).kept.length:=fun i=>by rw[ac];unfold Mod.Ag.says;rw[if_neg (by omega),if_pos rfl];rfl
 obtain⟨X,ax⟩:∃X:Nat->Nat,X=fun i=>(a.fl i).base+n i:=⟨_,rfl⟩;have ay:∀i,max ((a.fl i).base:Int) (min (Wire.numAt b.data.toList (4 * i)) (((a.fl i).base+(a.fl i).kept.length:Nat):Int))=(X i:Int):=fun i=>by rw[rH',ax];show _=(((a.fl i).base+n i:Nat):Int);rw[bd i]
 have be:=fun f (I:Below w.heap.size w f)=>kM' (J.below I) hs aY M X (fun i hi=>by have:=ba i hi;have:=bc i hi;rw[ax];show(a.fl i).base+n i < _;omega) (rL' M (fun i _=>by rw[ax]) aG);have bf:=fun f=>eh' b f aZ;have az:=fun i (hi:i < 3) f (I:Below w.heap.size w f)=>cO' (J.below I) M hi (M.bs i hi);have aI:w.cell? ⟨p,1,none⟩=some (.int .i64 (a.fl 0).base):=by rw[m' J.ks.blk,<-M.bs 0 (by omega)];exact J.ks.ag 0 (by omega)
 have aJ:w.cell? ⟨p,2,none⟩=some (.int .i64 (a.fl 1).base):=by rw[m' J.ks.blk,<-M.bs 1 (by omega)];exact J.ks.ag 1 (by omega)
 have aK:w.cell? ⟨p,3,none⟩=some (.int .i64 (a.fl 2).base):=by rw[m' J.ks.blk,<-M.bs 2 (by omega)];exact J.ks.ag 2 (by omega)
 have aA:=fun f I=>t' (az 0 (by omega) f I);have aB:=fun f I=>t' (az 1 (by omega) f I);have aC:=fun f I=>t' (az 2 (by omega) f I);have ad:=ay 0;have ah:=ay 1;have ai:=ay 2;simp only[Nat.mul_zero,Nat.mul_one,show 4 * 2=8 from rfl]at ad ah ai;have bQ:=fun f=>t' (bf f);generalize Wire.numAt b.data.toList 0=Y at *;generalize Wire.numAt b.data.toList 4=Z at *;generalize Wire.numAt b.data.toList 8=aa at *;have aL:=fun f I=>t' (be f I);obtain⟨aM,aN⟩:∃x,x=X 0:=⟨_,rfl⟩;obtain⟨aO,aP⟩:∃x,x=X 1:=⟨_,rfl⟩;obtain⟨aQ,aR⟩:∃x,x=X 2:=⟨_,rfl⟩;rw[<-aN]at ad;rw[<-aP]at ah;rw[<-aR]at ai;rw[<-aN,<-aP,<-aR]at aL;obtain⟨bg,bh⟩:∃v,v=(a.fl 0).base+(a.fl 0).kept.length:=⟨_,rfl⟩;obtain⟨bi,bj⟩:∃v,v=(a.fl 1).base+(a.fl 1).kept.length:=⟨_,rfl⟩;obtain⟨bk,bl⟩:∃v,v=(a.fl 2).base+(a.fl 2).kept.length:=⟨_,rfl⟩;rw[<-bh]at ad aA;rw[<-bj]at ah aB;rw[<-bl]at ai aC;obtain⟨g0,bm⟩:∃v,v=(a.fl 0).base:=⟨_,rfl⟩;obtain⟨g1,bn⟩:∃v,v=(a.fl 1).base:=⟨_,rfl⟩;obtain⟨g2,bo⟩:∃v,v=(a.fl 2).base:=⟨_,rfl⟩;rw[<-bm]at ad aI;rw[<-bn]at ah aJ;rw[<-bo]at ai aK;simp only[show((0:Nat):Int)=0 from rfl,show((1:Nat):Int)=1 from rfl,show((2:Nat):Int)=2 from rfl]at aA aB aC;obtain⟨ep,bp⟩:∃ep,ep=a.epoch:=⟨_,rfl⟩;have bq:st.opening=ep:=by rw[bp];exact M.ep
 rw[bq]at bb;have cb:((e:Int) != (ep:Int))=false:=by simp;omega
 obtain⟨br,bt⟩:∃br,br=a.deliver 2 e s q b:=⟨_,rfl⟩;rw[<-bt]at hd;obtain⟨a1,bu⟩:∃a1,a1=a.drop n:=⟨_,rfl⟩;rw[<-bu]at hd;have cc:=t' hd;have bw:=t' (cA' w #[.int .i64 2, .int .i64 e, .int .i64 s, .int .i64 q, .string b]);have i0:∀w:World,(Instr.index 98 (.agg #[.int .i64 Y, .int .i64 Z, .int .i64 aa]) (.int .i64 0)).run Tryz.prog w= .ok (.int .i64 Y) w:=fun _=>by kernel_rfl
 have bR:∀w:World,(Instr.index 98 (.agg #[.int .i64 Y, .int .i64 Z, .int .i64 aa]) (.int .i64 1)).run Tryz.prog w= .ok (.int .i64 Z) w:=fun _=>by kernel_rfl
 have i2:∀w:World,(Instr.index 98 (.agg #[.int .i64 Y, .int .i64 Z, .int .i64 aa]) (.int .i64 2)).run Tryz.prog w= .ok (.int .i64 aa) w:=fun _=>by kernel_rfl
 clear J M hs aY aG ac hd bc bd ax ay be bf az aN aP aR bh bj bl bm bn bo bq bp bt bu bP aZ ba;unfold y' at *;go_enter Tryz.func104,Tryz.ntmps104;go_upto_region 1 with fail;refine C' (aZ' w #[.int .i64 2, .int .i64 e, .int .i64 s, .int .i64 q, .string b]) (i' bw) ?_;clear bw;intro x z;have bz:=m' (i:=1) z.box;simp at bz;have bA:=fun n=>t' (i' (bb (x.drewN n) (z.drewN n).bel));have ab:=t' z;clear z;go_quiet (first|(go_at_call 66;exact Calls.quiet_of_same (i' (bA _))));go_upto_region 3 with fail;refine C' (aZ' w #[.int .i64 2, .int .i64 e, .int .i64 s, .int .i64 q, .string b]) ((i' ab).drewN _) ?_;clear ab bz bA;intro x z;have aj:=m' (i:=4) z.box;simp at aj;have aS:=(z.bel.cell (p:=⟨p,1,none⟩) aH).trans aI;have aT:=(z.bel.cell (p:=⟨p,2,none⟩) aH).trans aJ;have aU:=(z.bel.cell (p:=⟨p,3,none⟩) aH).trans aK;have bS:=z.lt;have ab:=t' z;clear z aI aJ aK;go_upto_region 4 with fail;obtain⟨u,aV⟩:∃u,u=x.heap.size:=⟨_,rfl⟩;have bB:=t' aV;have aW:w.heap.size<=u:=by have:=(i' ab).bel.size;omega
 rw[<-aV];have cd:¬w.heap.size=u:=by omega
 clear aV;refine C' (fun y=>y.heap[u]? =some (.cells #[.int .i64 g0, .int .i64 g1, .int .i64 g2] 136 (0,0))/\aZ' w #[.int .i64 2, .int .i64 e, .int .i64 s, .int .i64 q, .string b] y) ?_ ?_
 ·rw[i' bB];exact⟨heap_alloc_new _ _,(i' ab).below ((Below.refl _ _).alloc (Nat.le_refl _) _)⟩
 clear ab bB aj aS aT aU bS;rintro y ⟨h5,z⟩;have aj:=m' (i:=4) z.box;simp at aj;have ak:=t' (And.intro h5 z);clear h5 z;go_upto_region 5 with (go_at_call 151;refine(i' (bQ _)).mono ?_;rintro O f ⟨rfl,D⟩);have bC:=(D.block _ (lt_of_block (i' ak).1)).trans (i' ak).1;have bD:=(i' ak).2.bel.trans (D.mono (i' ak).2.bel.size);have bE:=t' (And.intro bC bD);clear D bC bD ak aj;go_loopw[6,7,22] (fun _ _ i wr=>∃j:Nat,j<=3/\i= .int .i64 j/\wr.heap[u]? =some (.cells #[.int .i64 (if 0 < j then aM else g0:Nat), .int .i64 (if 1 < j then aO else g1:Nat), .int .i64 (if 2 < j then aQ else g2:Nat)] 136 (0,0))/\Below w.heap.size w wr) (fun _ _ i _=>3 - (intOf i).toNat)
 case atStart=>obtain⟨h1,h2⟩:=i' bE;exact⟨0,by omega,rfl,by simpa using h1,h2⟩
 case round=>
  obtain⟨j,hj,rfl,h5,bF⟩:=hrel;clear bE;have aD:=m' (i:=0) h5;have aE:=m' (i:=1) h5;have aF:=m' (i:=2) h5;have Q:=lt_of_block h5;have aX:=t' h5;have F:=t' bF;clear h5 bF;rcases(show j=0\/j=1\/j=2\/j=3 by omega)with rfl|rfl|rfl|rfl
  ·simp at aD;go_wp2_with fail;refine aj' (by kernel_rfl)
    [fun v _=>v= .int .i64 0,fun v _=>v= .int .i64 0,fun v _=>v= .pointer (some ⟨u,0,none⟩),fun v _=>v= .int .i64 g0,fun v _=>v= .int .i64 Y,fun v _=>v= .pointer (some ⟨p,0,none⟩),fun v _=>v= .int .i64 0,fun v _=>v= .int .i64 bg,fun v _=>v= .int .i64 (min Y (bg:Int)),fun v _=>v= .int .i64 aM,fun v _=>v= .pointer (some ⟨u,0,none⟩),fun _ _=>True]
    [[(6,none)],[(6,none)],[(5,none),(27,some 1)],[(28,some 2)],[(7,none)],[(0,none)],[(6,none)],[(31,some 5),(32,some 6)],[(30,some 4),(33,some 7)],[(29,some 3),(34,some 8)],[(5,none),(26,some 0)],[(36,some 10),(35,some 9)]] [some 26,some 27,some 28,some 29,some 30,some 31,some 32,some 33,some 34,some 35,some 36,none] [false,false,false,false,false,false,false,false,false,false,false,false,false,false,false,false,false,false,false,false,false,false,false,false,false,false,true,true,true,true,true,true,true,true,true,true,true,false,false,false,false,false,false,false,false,false,false,false,false,false,false,false,false,false,false,false,false,false,false,false,false,false,false,false,false]
    11 _ rfl rfl (by kernel_rfl) (by kernel_rfl) (by kernel_rfl) (by kernel_rfl) (by kernel_rfl) (by kernel_rfl) ?_ ?_ ?_
   ·repeat' (first|exact J' _|exact Z'|exact trivial|apply And.intro)
   ·refine⟨?_,?_,?_,?_,?_,?_,?_,?_,?_,?_,?_,trivial⟩;all_goals
     intro a' f D U;have aS:=(D.cell (p:=⟨u,0,none⟩) Q).trans aD;have V:=t' (i' (aA f ((i' F).trans (D.mono (i' F).size))));clear D;simp only[I',List.getD_cons_zero,List.getD_cons_succ,Array.getD_eq_getD_getElem?]at U;try simp at U
     go_simp;try exact⟨_,rfl,Below.refl _ _,rfl⟩
     try exact Below.refl _ _
    all_goals first
     |(refine(i' V).mono ?_;rintro O ao ⟨rfl,q,rfl⟩;exact⟨rfl,below_drewN (Below.refl _ _) q⟩)
     |(refine(i' V).mono ?_;rintro O ao ⟨rfl,q,rfl⟩;exact⟨_,rfl,below_drewN (Below.refl _ _) q,rfl⟩)
     |skip
   ·intro r f G H;simp only[ae',List.take]at H;have ap:=H.2.2.2.2.2.2.2.2.2.1;have aq:=H.2.2.2.2.2.2.2.2.2.2.1;clear H;have z5:=(G.block _ Q).trans (i' aX);have aS:=(G.cell (p:=⟨u,0,none⟩) Q).trans aD;have ce:=D' (i:=0) z5;have au:=t' z5;have av:=t' ((i' F).trans (G.mono (i' F).size));clear G z5;simp only[R',ap,aq];generalize r 26=bG;generalize r 27=bH;generalize r 28=bI;generalize r 29=bJ;generalize r 30=bK;generalize r 31=bL;generalize r 32=bM;generalize r 33=bN;generalize r 34=bO;go_simp;go_wp2;refine⟨⟨1,by omega,by go_num,?_,?_⟩,by simp[intOf]⟩
    ·have:=af' (j:=0) (v:= .int .i64 aM) (i' au);simpa using this
    ·exact(i' av).setCell (p:=⟨u,0,none⟩) aW _
  ·simp at aE;go_wp2_with fail;refine aj' (by kernel_rfl)
    [fun v _=>v= .int .i64 1,fun v _=>v= .int .i64 1,fun v _=>v= .pointer (some ⟨u,1,none⟩),fun v _=>v= .int .i64 g1,fun v _=>v= .int .i64 Z,fun v _=>v= .pointer (some ⟨p,0,none⟩),fun v _=>v= .int .i64 1,fun v _=>v= .int .i64 bi,fun v _=>v= .int .i64 (min Z (bi:Int)),fun v _=>v= .int .i64 aO,fun v _=>v= .pointer (some ⟨u,1,none⟩),fun _ _=>True]
    [[(6,none)],[(6,none)],[(5,none),(27,some 1)],[(28,some 2)],[(7,none)],[(0,none)],[(6,none)],[(31,some 5),(32,some 6)],[(30,some 4),(33,some 7)],[(29,some 3),(34,some 8)],[(5,none),(26,some 0)],[(36,some 10),(35,some 9)]] [some 26,some 27,some 28,some 29,some 30,some 31,some 32,some 33,some 34,some 35,some 36,none] [false,false,false,false,false,false,false,false,false,false,false,false,false,false,false,false,false,false,false,false,false,false,false,false,false,false,true,true,true,true,true,true,true,true,true,true,true,false,false,false,false,false,false,false,false,false,false,false,false,false,false,false,false,false,false,false,false,false,false,false,false,false,false,false,false]
    11 _ rfl rfl (by kernel_rfl) (by kernel_rfl) (by kernel_rfl) (by kernel_rfl) (by kernel_rfl) (by kernel_rfl) ?_ ?_ ?_
   ·repeat' (first|exact J' _|exact Z'|exact trivial|apply And.intro)
   ·refine⟨?_,?_,?_,?_,?_,?_,?_,?_,?_,?_,?_,trivial⟩;all_goals
     intro a' f D U;have aT:=(D.cell (p:=⟨u,1,none⟩) Q).trans aE;have V:=t' (i' (aB f ((i' F).trans (D.mono (i' F).size))));clear D;simp only[I',List.getD_cons_zero,List.getD_cons_succ,Array.getD_eq_getD_getElem?]at U;try simp at U
     go_simp;try exact⟨_,rfl,Below.refl _ _,rfl⟩
     try exact Below.refl _ _
    all_goals first
     |(refine(i' V).mono ?_;rintro O ao ⟨rfl,q,rfl⟩;exact⟨rfl,below_drewN (Below.refl _ _) q⟩)
     |(refine(i' V).mono ?_;rintro O ao ⟨rfl,q,rfl⟩;exact⟨_,rfl,below_drewN (Below.refl _ _) q,rfl⟩)
     |skip
   ·intro r f G H;simp only[ae',List.take]at H;have ap:=H.2.2.2.2.2.2.2.2.2.1;have aq:=H.2.2.2.2.2.2.2.2.2.2.1;clear H;have z5:=(G.block _ Q).trans (i' aX);have aT:=(G.cell (p:=⟨u,1,none⟩) Q).trans aE;have cf:=D' (i:=1) z5;have au:=t' z5;have av:=t' ((i' F).trans (G.mono (i' F).size));clear G z5;simp only[R',ap,aq];generalize r 26=bG;generalize r 27=bH;generalize r 28=bI;generalize r 29=bJ;generalize r 30=bK;generalize r 31=bL;generalize r 32=bM;generalize r 33=bN;generalize r 34=bO;go_simp;go_wp2;refine⟨⟨2,by omega,by go_num,?_,?_⟩,by simp[intOf]⟩
    ·have:=af' (j:=1) (v:= .int .i64 aO) (i' au);simpa using this
    ·exact(i' av).setCell (p:=⟨u,1,none⟩) aW _
  ·simp at aF;go_wp2_with fail;refine aj' (by kernel_rfl)
    [fun v _=>v= .int .i64 2,fun v _=>v= .int .i64 2,fun v _=>v= .pointer (some ⟨u,2,none⟩),fun v _=>v= .int .i64 g2,fun v _=>v= .int .i64 aa,fun v _=>v= .pointer (some ⟨p,0,none⟩),fun v _=>v= .int .i64 2,fun v _=>v= .int .i64 bk,fun v _=>v= .int .i64 (min aa (bk:Int)),fun v _=>v= .int .i64 aQ,fun v _=>v= .pointer (some ⟨u,2,none⟩),fun _ _=>True]
    [[(6,none)],[(6,none)],[(5,none),(27,some 1)],[(28,some 2)],[(7,none)],[(0,none)],[(6,none)],[(31,some 5),(32,some 6)],[(30,some 4),(33,some 7)],[(29,some 3),(34,some 8)],[(5,none),(26,some 0)],[(36,some 10),(35,some 9)]] [some 26,some 27,some 28,some 29,some 30,some 31,some 32,some 33,some 34,some 35,some 36,none] [false,false,false,false,false,false,false,false,false,false,false,false,false,false,false,false,false,false,false,false,false,false,false,false,false,false,true,true,true,true,true,true,true,true,true,true,true,false,false,false,false,false,false,false,false,false,false,false,false,false,false,false,false,false,false,false,false,false,false,false,false,false,false,false,false]
    11 _ rfl rfl (by kernel_rfl) (by kernel_rfl) (by kernel_rfl) (by kernel_rfl) (by kernel_rfl) (by kernel_rfl) ?_ ?_ ?_
   ·repeat' (first|exact J' _|exact Z'|exact trivial|apply And.intro)
   ·refine⟨?_,?_,?_,?_,?_,?_,?_,?_,?_,?_,?_,trivial⟩;all_goals
     intro a' f D U;have aU:=(D.cell (p:=⟨u,2,none⟩) Q).trans aF;have V:=t' (i' (aC f ((i' F).trans (D.mono (i' F).size))));clear D;simp only[I',List.getD_cons_zero,List.getD_cons_succ,Array.getD_eq_getD_getElem?]at U;try simp at U
     go_simp;try exact⟨_,rfl,Below.refl _ _,rfl⟩
     try exact Below.refl _ _
    all_goals first
     |(refine(i' V).mono ?_;rintro O ao ⟨rfl,q,rfl⟩;exact⟨rfl,below_drewN (Below.refl _ _) q⟩)
     |(refine(i' V).mono ?_;rintro O ao ⟨rfl,q,rfl⟩;exact⟨_,rfl,below_drewN (Below.refl _ _) q,rfl⟩)
     |skip
   ·intro r f G H;simp only[ae',List.take]at H;have ap:=H.2.2.2.2.2.2.2.2.2.1;have aq:=H.2.2.2.2.2.2.2.2.2.2.1;clear H;have z5:=(G.block _ Q).trans (i' aX);have aU:=(G.cell (p:=⟨u,2,none⟩) Q).trans aF;have cg:=D' (i:=2) z5;have au:=t' z5;have av:=t' ((i' F).trans (G.mono (i' F).size));clear G z5;simp only[R',ap,aq];generalize r 26=bG;generalize r 27=bH;generalize r 28=bI;generalize r 29=bJ;generalize r 30=bK;generalize r 31=bL;generalize r 32=bM;generalize r 33=bN;generalize r 34=bO;go_simp;go_wp2;refine⟨⟨3,by omega,by go_num,?_,?_⟩,by simp[intOf]⟩
    ·have:=af' (j:=2) (v:= .int .i64 aQ) (i' au);simpa using this
    ·exact(i' av).setCell (p:=⟨u,2,none⟩) aW _
  ·simp at aD aE aF;have bT:=t' (i' (aL wr (i' F)));clear aL aA aB aC i0 bR i2 ad ah ai;go_wp2_with (go_at_call 152;refine(i' bT).mono ?_;rintro O y ⟨rfl,bU⟩);go_ret;obtain⟨bV,bW,bX,bY,bZ,ca⟩:=bU;exact⟨rfl,bV,bW,bX,bY,bZ.behind (i' F),ca⟩
theorem pm' (D:aA' w p g a.ticks a.welcome a.fenced free sh st c) (hs:cn' op st a free pl) (M:aO' a st.opening g free sh pl) (e:Nat) (s q:Nat) (b:ByteArray) (aa:op.2≠1\/(a.says 4 e s q b 0+a.says 4 e s q b 1+a.says 4 e s q b 2)=0) (cl:e=a.epoch) (aH:a.welcome=true) (ao:s < 3) (aP:0 < b.size) (aI:∀i,i < 3->(a.fl i).base+(a.fl i).kept.length<=1000000000):
  Calls Tryz.prog 105 #[y' p, .agg #[.int .i64 4, .int .i64 e, .int .i64 s, .int .i64 q, .string b]] w fun V u=>V= .returned (.int .i64 0)/\bE' (dT' op (a.says 4 e s q b 0+a.says 4 e s q b 1+a.says 4 e s q b 2)) w u p (a.deliver 4 e s q b) c:=by
 have ax:=lt_of_block D.ks.blk;have bm:=fun u (H:Below w.heap.size w u)=>t' (bk' (D.below H));have bn:w.cell? ⟨p,24,none⟩=some (.bool true):=by rw[m' D.ks.blk,D.ks.aw,aH]
 obtain⟨r,aQ⟩:∃r,r=a.ackSeq s q:=⟨_,rfl⟩;have bo:r=min q ((a.fl s).base+(a.fl s).kept.length):=by rw[aQ];rfl
 obtain⟨n,ay⟩:∃n,n=a.says 4 e s q b:=⟨_,rfl⟩;rw[<-ay]at aa ⊢;have hd:a.deliver 4 e s q b=if r < (a.fl s).base then a else {a.drop n with fl:=Mod.upd (a.drop n).fl s {(a.drop n).fl s with held:=Mod.bitsOf r b[0].toNat 3}}:=by
  unfold Mod.Ag.deliver;rw[if_neg (by omega),if_neg (by omega),if_neg (by omega),if_neg (by omega),if_pos rfl,ay,vv' aP];have O:((s:Nat):Int).toNat=s:=rfl;rw[O,<-aQ,aH];by_cases h:r < (a.fl s).base
  ·rw[if_pos (.inr h),if_pos h]
  ·rw[if_neg (by simp;omega),if_neg h]
 have aR:∀i,i < 3->n i<=(a.fl i).kept.length:=fun i _=>by rw[ay];exact fX' _ _ _ _ _ _ _
 have aS:∀i,n i=if i=s then min (q - (a.fl s).base) (a.fl s).kept.length else 0:=fun i=>by
  rw[ay];unfold Mod.Ag.says;rw[if_neg (by omega),if_neg (by omega)];by_cases h:i=s
  ·subst h;rw[if_pos ⟨rfl,rfl,aH⟩,if_pos rfl];unfold Mod.Ag.gone;congr 1;omega
  ·rw[if_neg (fun cm=>h (by have:=cm.2.1;omega)),if_neg h]
 have aT:r < (a.fl s).base->n 0+n 1+n 2=0:=fun h=>by
  have H:∀i,n i=0:=fun i=>by
   rw[aS i];split
   ·omega
   ·rfl
  rw[H 0,H 1,H 2]
 obtain⟨G,aU⟩:∃G:Nat->Nat,G=fun i=>if i=s then r else(a.fl i).base:=⟨_,rfl⟩
 have az:¬r < (a.fl s).base->∀u,Below w.heap.size w u->Hid (Calls Tryz.prog 152 #[y' p, .agg #[.int .i64 (G 0), .int .i64 (G 1), .int .i64 (G 2)]] u fun V cn=>V= .returned (.int .i64 0)/\bE' (dT' op (n 0+n 1+n 2)) u cn p (a.drop n) c):=fun aA u H=>by
  have bp:∀i,i < 3->G i=(a.fl i).base+n i:=fun i hi=>by
   rw[aU,aS i];show(if i=s then r else(a.fl i).base)= _;by_cases h:i=s
   ·subst h;rw[if_pos rfl,if_pos rfl];omega
   ·rw[if_neg h,if_neg h];rfl
  refine t' (kN' (D.below H) hs (fun i hi=>by have:=aI i hi;omega) M n G aa aR bp (fun i hi=>?_));have:=aI i hi;have:=aR i hi;rw[bp i hi];omega
 have aV:=fun u (H:Below w.heap.size w u)=>cO' (D.below H) M ao (M.bs s ao);have bq:w.cell? ⟨p,1,none⟩=some (.int .i64 (a.fl 0).base):=by rw[m' D.ks.blk,<-M.bs 0 (by omega)];exact D.ks.ag 0 (by omega)
 have br:w.cell? ⟨p,2,none⟩=some (.int .i64 (a.fl 1).base):=by rw[m' D.ks.blk,<-M.bs 1 (by omega)];exact D.ks.ag 1 (by omega)
 have bt:w.cell? ⟨p,3,none⟩=some (.int .i64 (a.fl 2).base):=by rw[m' D.ks.blk,<-M.bs 2 (by omega)];exact D.ks.ag 2 (by omega)
 have aW:w.cell? ⟨p,1+s,none⟩=some (.int .i64 (a.fl s).base):=by rw[m' D.ks.blk,<-M.bs s ao];exact D.ks.ag s ao
 obtain⟨bu,ai⟩:∃v,v=(a.fl s).base+(a.fl s).kept.length:=⟨_,rfl⟩;rw[<-ai]at aV bo;have co:=fun u H=>t' (aV u H);have cT:min (q:Int) (bu:Int)=(r:Int):=by omega
 have bw:r<=1000000000:=by have:=aI s ao;omega
 have aX:=fun u=>t' (gj' r bw b aP u);obtain⟨bits,aY⟩:∃l,l=Mod.bitsOf r b[0].toNat 3:=⟨_,rfl⟩;have bz:bits.length<=3:=by rw[aY];exact cN' _ _ _
 rw[<-aY]at hd aX;obtain⟨ep,bA⟩:∃ep,ep=a.epoch:=⟨_,rfl⟩;have bB:st.opening=ep:=by rw[bA];exact M.ep
 rw[bB]at bm;have cU:((e:Int) != (ep:Int))=false:=by simp;omega
 obtain⟨bC,bD⟩:∃bC,bC=a.deliver 4 e s q b:=⟨_,rfl⟩;rw[<-bD]at hd ⊢;obtain⟨a1,bE⟩:∃a1,a1=a.drop n:=⟨_,rfl⟩;rw[<-bE]at hd az;have bF:=t' hd;have bG:=t' (cA' w #[.int .i64 4, .int .i64 e, .int .i64 s, .int .i64 q, .string b]);obtain⟨bs,aZ⟩:∃v,v=(a.fl s).base:=⟨_,rfl⟩;rw[<-aZ]at aW az aT;have cp:=t' aT;have bH: #[Value.int .i64 (G 0), .int .i64 (G 1), .int .i64 (G 2)]=(#[Value.int .i64 (a.fl 0).base, .int .i64 (a.fl 1).base, .int .i64 (a.fl 2).base]:Array Value).setIfInBounds s (.int .i64 r):=by
  rw[aU];obtain rfl|rfl|rfl:s=0\/s=1\/s=2:=by omega
  all_goals simp
 have bI:=t' bH;have bJ:=t' aZ;have cq:=t' (bM' D hs M);have cV:(0:Int)<=(s:Int):=by omega
 have cW:(s:Int) < 3:=by omega
 generalize (a.fl 0).base=g0 at *;generalize (a.fl 1).base=g1 at *;generalize (a.fl 2).base=g2 at *;obtain⟨cr,bK⟩:∃x,x=G 0:=⟨_,rfl⟩;obtain⟨cs,bL⟩:∃x,x=G 1:=⟨_,rfl⟩;obtain⟨cu,bM⟩:∃x,x=G 2:=⟨_,rfl⟩;rw[<-bK,<-bL,<-bM]at az bI;have cv:=t' az;have cw:=t' (fun h=>absurd (D.lt _ h) (by omega):¬PaU p c w.heap.size);clear aT D M hs aa ay hd aR aS aU aV bB bA bD bE cl aH aI aQ bo ai aY aZ bH bK bL bM az aP bw;unfold y' at *;go_enter Tryz.func105,Tryz.ntmps105;go_upto_region 1 with fail;refine C' (aZ' w #[.int .i64 4, .int .i64 e, .int .i64 s, .int .i64 q, .string b]) (i' bG) ?_;clear bG;intro x f;have bN:=m' (i:=1) f.box;simp at bN;have cx:=(f.bel.cell (p:=⟨p,24,none⟩) ax).trans bn;have bO:=fun n=>t' (i' (bm (x.drewN n) (f.drewN n).bel));have z:=t' f;clear f bn;go_quiet (first|(go_at_call 66;exact Calls.quiet_of_same (i' (bO _))));go_upto_region 3 with fail;refine C' (aZ' w #[.int .i64 4, .int .i64 e, .int .i64 s, .int .i64 q, .string b]) ((i' z).drewN _) ?_;clear z bN bO cx;intro x f;have F:=m' (i:=2) f.box;have ba:=m' (i:=3) f.box;simp at F ba;have aB:=f.lt;have z:=t' f;clear f;refine cp' (by kernel_rfl)
  [fun v _=>v= .pointer (some ⟨w.heap.size,3,none⟩),fun v _=>v= .int .i64 q,fun v _=>v= .pointer (some ⟨p,0,none⟩),fun v _=>v= .pointer (some ⟨w.heap.size,2,none⟩),fun v _=>v= .int .i64 s,fun v _=>v= .int .i64 bu,fun v _=>v= .int .i64 r,fun v _=>v= .int .i64 r]
  [[(3,none)],[(23,some 0)],[(0,none)],[(3,none)],[(26,some 3)],[(25,some 2),(27,some 4)],[(24,some 1),(28,some 5)],[(29,some 6)]] [some 23,some 24,some 25,some 26,some 27,some 28,some 29,some 5] [false,false,false,false,false,true,false,false,false,false,false,false,false,false,false,false,false,false,false,false,false,false,false,true,true,true,true,true,true,true,false,false,false,false,false,false,false,false,false,false,false,false,false,false,false,false,false,false,false,false,false,false,false,false,false,false,false,false,false,false,false,false,false,false,false,false,false,false,false,false,false,false,false,false,false,false]
  (by kernel_rfl) (by kernel_rfl) (by kernel_rfl) (by kernel_rfl) ?_ ?_ ?_
 ·repeat' (first|exact J' _|exact trivial|apply And.intro)
 ·refine⟨?_,?_,?_,?_,?_,?_,?_,?_,trivial⟩;all_goals
   intro a' u I bP;have bb:=(I.cell (p:=⟨w.heap.size,2,none⟩) aB).trans F;have cX:=(I.cell (p:=⟨w.heap.size,3,none⟩) aB).trans ba;have bQ:=t' (i' (co u ((i' z).bel.trans (I.mono (i' z).bel.size))));clear I;simp only[I',List.getD_cons_zero,List.getD_cons_succ,Array.getD_eq_getD_getElem?]at bP;try simp at bP
   go_simp;try exact Below.refl _ _
  all_goals first
   |exact⟨rfl,Below.refl _ _⟩
   |exact⟨_,rfl,Below.refl _ _,rfl⟩
   |(refine(i' bQ).mono ?_;rintro V bc ⟨rfl,k,rfl⟩;exact⟨rfl,below_drewN (Below.refl _ _) k⟩)
   |(refine(i' bQ).mono ?_;rintro V bc ⟨rfl,k,rfl⟩;exact⟨_,rfl,below_drewN (Below.refl _ _) k,rfl⟩)
   |skip
 ·intro aj u I bd;simp only[ae']at bd;have cy:=bd.2.2.2.2.2.2.2.1;clear bd;have ap:=t' ((i' z).below I);clear I;simp only[R',cy];generalize aj 23=cY;generalize aj 24=cZ;generalize aj 25=db;generalize aj 26=dc;generalize aj 27=dd;generalize aj 28=de;generalize aj 29=df;go_upto_region 4 with fail;refine C' (aZ' w #[.int .i64 4, .int .i64 e, .int .i64 s, .int .i64 q, .string b]) (i' ap) ?_;clear ap z F ba aB;intro x f;have F:=m' (i:=2) f.box;simp at F;have ds:=(f.bel.cell (p:=⟨p,1+s,none⟩) ax).trans aW;have z:=t' f;clear f aW;by_cases aA:r < bs
  ·have cz:(r:Int) < (bs:Int):=by omega
   go_quiet (fail)
   go_wp2;go_ret;refine⟨rfl,?_⟩;rw[i' bF,<-i' bJ,if_pos aA];rw[(i' cp) aA,cQ'];exact(i' cq).below (((i' z).drewN _).bel)
  ·have cz:¬ (r:Int) < (bs:Int):=by omega
   go_quiet (fail)
   go_upto_region 6 with fail
   refine C' (aZ' w #[.int .i64 4, .int .i64 e, .int .i64 s, .int .i64 q, .string b]) ((i' z).drewN _) ?_;clear z F ds;intro x f;have F:=m' (i:=2) f.box;simp at F;have cA:=(f.bel.cell (p:=⟨p,1,none⟩) ax).trans bq;have cB:=(f.bel.cell (p:=⟨p,2,none⟩) ax).trans br;have cC:=(f.bel.cell (p:=⟨p,3,none⟩) ax).trans bt;have aB:=f.lt;have z:=t' f;obtain⟨ab,be⟩:∃ab,ab=x.heap.size:=⟨_,rfl⟩;have bR:=t' be;have cD:w.heap.size < ab:=by omega
   clear f bq br bt;go_upto_region 7 with fail;rw[<-be];clear be;refine C' (fun y=>y.heap[ab]? =some (.cells #[.int .i64 g0, .int .i64 g1, .int .i64 g2] 136 (0,0))/\aZ' w #[.int .i64 4, .int .i64 e, .int .i64 s, .int .i64 q, .string b] y) ?_ ?_
   ·rw[i' bR];exact⟨heap_alloc_new _ _,(i' z).below ((Below.refl _ _).alloc (Nat.le_refl _) _)⟩
   clear z bR F cA cB cC aB;rintro y ⟨J,f⟩;have F:=m' (i:=2) f.box;simp at F;have cE:=D' (i:=s) J;obtain⟨dg,cF⟩:∃v:Nat,y.cell? ⟨ab,s,none⟩=some (.int .i64 v):=by
    rw[m' J];obtain rfl|rfl|rfl:s=0\/s=1\/s=2:=by omega
    ·exact⟨g0,rfl⟩
    ·exact⟨g1,rfl⟩
    ·exact⟨g2,rfl⟩
   have bS:=t' (And.intro J f);clear J f;go_upto_region 8 with fail;refine C' (fun y=>y.heap[ab]? =some (.cells #[.int .i64 cr, .int .i64 cs, .int .i64 cu] 136 (0,0))/\aZ' w #[.int .i64 4, .int .i64 e, .int .i64 s, .int .i64 q, .string b] y) ?_ ?_
   ·obtain⟨J,f⟩:=i' bS;have cG:=O' y ab s (.int .i64 r);refine⟨?_,⟨cG.blk f.box (by omega),f.bel.setCell (p:=⟨ab,s,none⟩) (Nat.le_of_lt cD) _⟩⟩;rw[i' bI];exact af' J
   clear bS F cE cF;rintro y ⟨J,f⟩;have bT:=m' (i:=0) J;have bU:=m' (i:=1) J;have bb:=m' (i:=2) J;have F:=m' (i:=2) f.box;simp at bT bU bb F;have bV:=t' (i' ((i' cv) aA y f.bel));have z:=t' f;clear J f;go_upto_region 11 with (go_at_call 152;refine(i' bV).mono ?_;rintro V u ⟨rfl,cH⟩);obtain⟨aJ,aK,aC,cI,aL,⟨c1,Q,X,ac,ad,ah⟩,bW,bX⟩:=cH;have I:=X.blk (i' z).box (i' cw);have bY:=az'.behind (w:=w) (⟨c1,Q,X,ac,ad,ah⟩:az' y u p aJ a1.ticks a1.welcome a1.fenced aK aC aL c) (i' z).bel;have F:=m' (i:=2) I;simp at F;have ap:=t' (And.intro I bY);have bZ:=t' (And.intro bW bX);clear Q X ac ad ah bW bX I bY z bV bT bU bb;go_quiet (fail);go_upto_region 12 with fail;refine C' (fun y=>y.heap[w.heap.size]? =some (.cells #[.int .i64 4, .int .i64 e, .int .i64 s, .int .i64 q, .string b] 41 (0,0))/\az' w y p aJ a1.ticks a1.welcome a1.fenced aK aC aL c) ?_ ?_
   ·exact⟨(i' ap).1,(i' ap).2.below (below_drewN (Below.refl _ _) _)⟩
   clear ap F;rintro x ⟨aq,c1,Q,X,ac,ad,ah⟩;have bf:=t' (kq' (Q.shAt (i:=s * 3+2) (by omega)));rw[show 4+(s * 3+2) * 2=4+s * 6+4 by omega]at bf;have ca:=t' (And.intro aq (And.intro Q (And.intro X (And.intro ac (And.intro ad ah)))));clear aq Q X ac ad ah;go_upto_region 13 with (go_at_call 154;refine(i' bf).mono ?_;rintro V bc ⟨rfl,O⟩);rw[show 4+s * 6+4=4+(s * 3+2) * 2 by omega]at O;obtain⟨aq,Q,X,ac,ad,ah⟩:=i' ca;have cb:=cG' Q aq (by decide) (by decide) (by decide) (by decide) (by decide) (by decide) (by decide);have cc:=O.2.blk aq (fun h=>cb (.inl (h.elim .inl (fun h=> .inr (.inr ⟨s * 3+2,by omega,h⟩)))));have cJ:=ed' X ac ad ah (cz' Q (by omega) O);have cK:=m' (i:=4) cc;simp at cK;clear aq Q X ac ad ah cb O ca bf cc;obtain⟨c2,aD,aM,aN,s1,aO⟩:=cJ;have cL:=t' (And.intro aD (And.intro aM (And.intro aN (And.intro s1 aO))));clear aD aM aN s1 aO;have cd:=t' (i' (aX bc));clear aX;obtain⟨m,bg⟩:∃m,m=bits.length:=⟨_,rfl⟩;rw[<-bg]at cd bz;have bh:=t' bg;clear bg;go_wp2_with (go_at_call 155;refine(i' cd).mono ?_;rintro V z3 ⟨v,rfl,aE,ai⟩;obtain⟨ce,cap,rfl,_⟩:=(al' aE).shape;replace aE:=t' aE;replace ai:=t' ai);go_loopw[10,67] (fun _ i wr=>∃t:Nat,t<=m/\i= .int .i64 t/\ao' wr 3 1 (.slice ce m cap) m (H' bits)/\∃aF,aA' wr p aJ a1.ticks a1.welcome a1.fenced aK (fun j=>if j=s * 3+2 then(bits.take t).foldl (fun l n=>aV' l n cF') []else aC j) aL aF/\Far (PaU p c) w wr/\(∀k,PaU p aF k->PaU p c k\/w.heap.size<=k)/\aF.s=c.s/\aF.rv=c.rv/\(∀g,(Value.slice ce m cap).ownBlock=some g->¬PaU p aF g)) (fun _ i _=>m - (intOf i).toNat)
   case atStart=>obtain⟨aD,aM,aN,s1,aO⟩:=i' cL;refine⟨0,by omega,rfl,al' (i' aE),c2,aD.below (i' ai),aM.trans (A' (E:=PaU p c) (i' ai)) (fun _ _ h=>h),aN,s1,aO,fun g au hu=>?_⟩;have h1:=(World.ownsRow.lt (i' aE) g au).1;have h2:=aD.lt g hu;omega
   case round=>
    obtain⟨t,dh,rfl,ak,c3,U,Y,Z,u1,u2,av⟩:=hrel;by_cases cf:t < m
    ·obtain⟨di,dj,bi,_,_,cg⟩:=ak.shape;injection bi with bi _ cM;subst bi cM;obtain⟨dl,dm,rfl,ch⟩:=cg (by omega);obtain⟨aG,bj⟩:∃aG,bits[t]? =some aG:=⟨bits[t]'(by have:=i' bh;omega),List.getElem?_eq_getElem _⟩
     have r0:=(ch t (by omega));rw[show(H' bits)[t]? =some (.int .i64 aG) by simp[H',bj]]at r0;have ci:bits.take (t+1)=bits.take t++[aG]:=by rw[List.take_add_one,bj];rfl
     have cj:((bits.take t).foldl (fun l n=>aV' l n cF') []).length < 1000:=by have:=mw' (bits.take t);have:=List.length_take_le t bits;omega
     have bk:=t' (tA' (U.shAt (i:=s * 3+2) (by omega)) (by rw[if_pos rfl];exact cj) aG);rw[if_pos rfl,<-eO',<-ci]at bk;rw[show 4+(s * 3+2) * 2=4+s * 6+4 by omega]at bk;have dq:(0:Int)<=(t:Int):=by omega
     have dr:(t:Int) < (m:Int):=by omega
     have bl:=t' (And.intro ak (And.intro U (And.intro Y (And.intro Z (And.intro u1 (And.intro u2 av))))));clear ak U Y Z u1 u2 av cg ch ci cj bj;go_wp2_with (go_at_call 156;refine(i' bk).mono ?_;rintro V z4 ⟨rfl,O⟩);rw[show 4+s * 6+4=4+(s * 3+2) * 2 by omega]at O;obtain⟨ak,U,Y,Z,u1,u2,av⟩:=i' bl;obtain⟨c4,cN,cO,ck,cP,cQ⟩:=cz' U (by omega) O;have cR:∀k,(k=p\/ShU (c3.nv (s * 3+2)) (c3.mv (s * 3+2)) k)->PaU p c3 k:=fun k aa=>aa.elim (fun h=> .inl (.inl h)) (fun h=> .inl (.inr (.inr ⟨s * 3+2,by omega,h⟩)));refine⟨⟨t+1,by omega,rfl,ak.far O.2 (fun g au h=>av g au (cR g h)),c4,?_,Y.trans cO (fun k aa hu=>(Z k hu).elim id (fun h=>by omega)),fun k aa=>?_,cP.trans u1,cQ.trans u2,fun g au hu=>?_⟩,?_⟩
     ·rw[show(fun j=>if j=s * 3+2 then(bits.take (t+1)).foldl (fun l n=>aV' l n cF') []else aC j)=(fun j=>if j=s * 3+2 then(bits.take (t+1)).foldl (fun l n=>aV' l n cF') []else if j=s * 3+2 then(bits.take t).foldl (fun l n=>aV' l n cF') []else aC j) by
       funext j;by_cases h:j=s * 3+2
       ·rw[if_pos h,if_pos h]
       ·rw[if_neg h,if_neg h,if_neg h]]
      exact cN
     ·rcases ck k aa with h|h
      ·exact Z k h
      ·exact .inr (Nat.le_trans Y.size h)
     ·rcases ck g hu with h|h
      ·exact av g au h
      ·have:=ak.lt g au;omega
     ·simp[intOf];omega
    ·have e:t=m:=by omega
     have dt:¬ (t:Int) < (m:Int):=by omega
     have bl:=t' (And.intro U (And.intro Y (And.intro Z (And.intro u1 u2))));have cS:=t' (And.intro e cf);clear ak U Y Z u1 u2 av e cf;go_wp2;go_ret;refine⟨rfl,?_⟩;rw[i' bF,<-i' bJ,if_neg aA];obtain⟨U,Y,Z,u1,u2⟩:=i' bl;rw[show bits.take t=bits by rw[(i' cS).1,i' bh];exact List.take_length]at U;exact⟨aJ,aK,_,cI,aL,⟨c3,U,Y,Z,u1,u2⟩,(i' bZ).1.same (fun i _=>pk' _ _ _ i),sB' (i' bZ).2 ao bits (by rw[<-i' bh];exact bz)⟩
theorem nz' (z:aA' w p g a.ticks a.welcome a.fenced free sh st c) (hs:cn' op st a free pl) (H:aO' a st.opening g free sh pl) (e:Nat) (s q:Nat) (b:ByteArray) (aB:op.2=1) (aa:0 < (a.says 4 e s q b 0+a.says 4 e s q b 1+a.says 4 e s q b 2)) (bg:e=a.epoch) (ab:a.welcome=true) (V:s < 3) (ad:0 < b.size) (ah:∀i,i < 3->(a.fl i).base+(a.fl i).kept.length<=1000000000):
  Calls Tryz.prog 105 #[y' p, .agg #[.int .i64 4, .int .i64 e, .int .i64 s, .int .i64 q, .string b]] w fun U u=>U= .returned (.int .i64 4)/\fa' op.1 w u p a c:=by
 have X:=lt_of_block z.ks.blk;have aC:=fun u (I:Below w.heap.size w u)=>t' (bk' (z.below I));have aD:w.cell? ⟨p,24,none⟩=some (.bool true):=by rw[m' z.ks.blk,z.ks.aw,ab]
 obtain⟨r,ai⟩:∃r,r=a.ackSeq s q:=⟨_,rfl⟩;have aE:r=min q ((a.fl s).base+(a.fl s).kept.length):=by rw[ai];rfl
 obtain⟨n,Y⟩:∃n,n=a.says 4 e s q b:=⟨_,rfl⟩;rw[<-Y]at aa;have hd:a.deliver 4 e s q b=if r < (a.fl s).base then a else {a.drop n with fl:=Mod.upd (a.drop n).fl s {(a.drop n).fl s with held:=Mod.bitsOf r b[0].toNat 3}}:=by
  unfold Mod.Ag.deliver;rw[if_neg (by omega),if_neg (by omega),if_neg (by omega),if_neg (by omega),if_pos rfl,Y,vv' ad];have bh:((s:Nat):Int).toNat=s:=rfl;rw[bh,<-ai,ab];by_cases h:r < (a.fl s).base
  ·rw[if_pos (.inr h),if_pos h]
  ·rw[if_neg (by simp;omega),if_neg h]
 have aF:∀i,i < 3->n i<=(a.fl i).kept.length:=fun i _=>by rw[Y];exact fX' _ _ _ _ _ _ _
 have aj:∀i,n i=if i=s then min (q - (a.fl s).base) (a.fl s).kept.length else 0:=fun i=>by
  rw[Y];unfold Mod.Ag.says;rw[if_neg (by omega),if_neg (by omega)];by_cases h:i=s
  ·subst h;rw[if_pos ⟨rfl,rfl,ab⟩,if_pos rfl];unfold Mod.Ag.gone;congr 1;omega
  ·rw[if_neg (fun bi=>h (by have:=bi.2.1;omega)),if_neg h]
 have ak:r < (a.fl s).base->n 0+n 1+n 2=0:=fun h=>by
  have I:∀i,n i=0:=fun i=>by
   rw[aj i];split
   ·omega
   ·rfl
  rw[I 0,I 1,I 2]
 obtain⟨G,ao⟩:∃G:Nat->Nat,G=fun i=>if i=s then r else(a.fl i).base:=⟨_,rfl⟩
 have ac:¬r < (a.fl s).base->∀u,Below w.heap.size w u->Hid (Calls Tryz.prog 152 #[y' p, .agg #[.int .i64 (G 0), .int .i64 (G 1), .int .i64 (G 2)]] u fun U bj=>U= .returned (.int .i64 4)/\fa' op.1 u bj p a c):=fun ap u I=>by
  have aG:∀i,i < 3->G i=(a.fl i).base+n i:=fun i hi=>by
   rw[ao,aj i];show(if i=s then r else(a.fl i).base)= _;by_cases h:i=s
   ·subst h;rw[if_pos rfl,if_pos rfl];omega
   ·rw[if_neg h,if_neg h];rfl
  refine t' (kM' (z.below I) hs aB H G (fun i hi=>?_) (rL' H aG aa));have:=ah i hi;have:=aF i hi;rw[aG i hi];omega
 have aq:=fun u (I:Below w.heap.size w u)=>cO' (z.below I) H V (H.bs s V);have aH:w.cell? ⟨p,1,none⟩=some (.int .i64 (a.fl 0).base):=by rw[m' z.ks.blk,<-H.bs 0 (by omega)];exact z.ks.ag 0 (by omega)
 have aI:w.cell? ⟨p,2,none⟩=some (.int .i64 (a.fl 1).base):=by rw[m' z.ks.blk,<-H.bs 1 (by omega)];exact z.ks.ag 1 (by omega)
 have aJ:w.cell? ⟨p,3,none⟩=some (.int .i64 (a.fl 2).base):=by rw[m' z.ks.blk,<-H.bs 2 (by omega)];exact z.ks.ag 2 (by omega)
 have au:w.cell? ⟨p,1+s,none⟩=some (.int .i64 (a.fl s).base):=by rw[m' z.ks.blk,<-H.bs s V];exact z.ks.ag s V
 obtain⟨aK,aL⟩:∃v,v=(a.fl s).base+(a.fl s).kept.length:=⟨_,rfl⟩;rw[<-aL]at aq aE;have bk:=fun u I=>t' (aq u I);have bQ:min (q:Int) (aK:Int)=(r:Int):=by omega
 have aM:r<=1000000000:=by have:=ah s V;omega
 have bl:=fun u=>t' (gj' r aM b ad u);obtain⟨bits,av⟩:∃l,l=Mod.bitsOf r b[0].toNat 3:=⟨_,rfl⟩;have bR:bits.length<=3:=by rw[av];exact cN' _ _ _
 rw[<-av]at hd bl;obtain⟨ep,aN⟩:∃ep,ep=a.epoch:=⟨_,rfl⟩;have aO:st.opening=ep:=by rw[aN];exact H.ep
 rw[aO]at aC;have bS:((e:Int) != (ep:Int))=false:=by simp;omega
 obtain⟨aP,aQ⟩:∃aP,aP=a.deliver 4 e s q b:=⟨_,rfl⟩;rw[<-aQ]at hd;obtain⟨a1,aR⟩:∃a1,a1=a.drop n:=⟨_,rfl⟩;rw[<-aR]at hd;have bT:=t' hd;have aS:=t' (cA' w #[.int .i64 4, .int .i64 e, .int .i64 s, .int .i64 q, .string b]);obtain⟨bs,ax⟩:∃v,v=(a.fl s).base:=⟨_,rfl⟩;rw[<-ax]at au ac ak;have bm:=t' ak;have bn:=t' aa;have aT: #[Value.int .i64 (G 0), .int .i64 (G 1), .int .i64 (G 2)]=(#[Value.int .i64 (a.fl 0).base, .int .i64 (a.fl 1).base, .int .i64 (a.fl 2).base]:Array Value).setIfInBounds s (.int .i64 r):=by
  rw[ao];obtain rfl|rfl|rfl:s=0\/s=1\/s=2:=by omega
  all_goals simp
 have aU:=t' aT;have bU:=t' ax;have bV:=t' (bM' z hs H);have bW:(0:Int)<=(s:Int):=by omega
 have bX:(s:Int) < 3:=by omega
 generalize (a.fl 0).base=g0 at *;generalize (a.fl 1).base=g1 at *;generalize (a.fl 2).base=g2 at *;obtain⟨bo,aV⟩:∃x,x=G 0:=⟨_,rfl⟩;obtain⟨bp,aW⟩:∃x,x=G 1:=⟨_,rfl⟩;obtain⟨bq,aX⟩:∃x,x=G 2:=⟨_,rfl⟩;rw[<-aV,<-aW,<-aX]at ac aU;have br:=t' ac;have bY:=t' (fun h=>absurd (z.lt _ h) (by omega):¬PaU p c w.heap.size);clear ak z H hs aB aa Y hd aF aj ao aq aO aN aQ aR bg ab ah ai aE aL av ax aT aV aW aX ac ad aM;unfold y' at *;go_enter Tryz.func105,Tryz.ntmps105;go_upto_region 1 with fail;refine C' (aZ' w #[.int .i64 4, .int .i64 e, .int .i64 s, .int .i64 q, .string b]) (i' aS) ?_;clear aS;intro x f;have aY:=m' (i:=1) f.box;simp at aY;have bt:=(f.bel.cell (p:=⟨p,24,none⟩) X).trans aD;have aZ:=fun n=>t' (i' (aC (x.drewN n) (f.drewN n).bel));have D:=t' f;clear f aD;go_quiet (first|(go_at_call 66;exact Calls.quiet_of_same (i' (aZ _))));go_upto_region 3 with fail;refine C' (aZ' w #[.int .i64 4, .int .i64 e, .int .i64 s, .int .i64 q, .string b]) ((i' D).drewN _) ?_;clear D aY aZ bt;intro x f;have F:=m' (i:=2) f.box;have ay:=m' (i:=3) f.box;simp at F ay;have Z:=f.lt;have D:=t' f;clear f;refine cp' (by kernel_rfl)
  [fun v _=>v= .pointer (some ⟨w.heap.size,3,none⟩),fun v _=>v= .int .i64 q,fun v _=>v= .pointer (some ⟨p,0,none⟩),fun v _=>v= .pointer (some ⟨w.heap.size,2,none⟩),fun v _=>v= .int .i64 s,fun v _=>v= .int .i64 aK,fun v _=>v= .int .i64 r,fun v _=>v= .int .i64 r]
  [[(3,none)],[(23,some 0)],[(0,none)],[(3,none)],[(26,some 3)],[(25,some 2),(27,some 4)],[(24,some 1),(28,some 5)],[(29,some 6)]] [some 23,some 24,some 25,some 26,some 27,some 28,some 29,some 5] [false,false,false,false,false,true,false,false,false,false,false,false,false,false,false,false,false,false,false,false,false,false,false,true,true,true,true,true,true,true,false,false,false,false,false,false,false,false,false,false,false,false,false,false,false,false,false,false,false,false,false,false,false,false,false,false,false,false,false,false,false,false,false,false,false,false,false,false,false,false,false,false,false,false,false,false]
  (by kernel_rfl) (by kernel_rfl) (by kernel_rfl) (by kernel_rfl) ?_ ?_ ?_
 ·repeat' (first|exact J' _|exact trivial|apply And.intro)
 ·refine⟨?_,?_,?_,?_,?_,?_,?_,?_,trivial⟩;all_goals
   intro a' u O ba;have bb:=(O.cell (p:=⟨w.heap.size,2,none⟩) Z).trans F;have bZ:=(O.cell (p:=⟨w.heap.size,3,none⟩) Z).trans ay;have bc:=t' (i' (bk u ((i' D).bel.trans (O.mono (i' D).bel.size))));clear O;simp only[I',List.getD_cons_zero,List.getD_cons_succ,Array.getD_eq_getD_getElem?]at ba;try simp at ba
   go_simp;try exact Below.refl _ _
  all_goals first
   |exact⟨rfl,Below.refl _ _⟩
   |exact⟨_,rfl,Below.refl _ _,rfl⟩
   |(refine(i' bc).mono ?_;rintro U bu ⟨rfl,k,rfl⟩;exact⟨rfl,below_drewN (Below.refl _ _) k⟩)
   |(refine(i' bc).mono ?_;rintro U bu ⟨rfl,k,rfl⟩;exact⟨_,rfl,below_drewN (Below.refl _ _) k,rfl⟩)
   |skip
 ·intro Q u O az;simp only[ae']at az;have bw:=az.2.2.2.2.2.2.2.1;clear az;have bd:=t' ((i' D).below O);clear O;simp only[R',bw];generalize Q 23=ca;generalize Q 24=cb;generalize Q 25=cc;generalize Q 26=cd;generalize Q 27=ce;generalize Q 28=cf;generalize Q 29=cg;go_upto_region 4 with fail;refine C' (aZ' w #[.int .i64 4, .int .i64 e, .int .i64 s, .int .i64 q, .string b]) (i' bd) ?_;clear bd D F ay Z;intro x f;have F:=m' (i:=2) f.box;simp at F;have ds:=(f.bel.cell (p:=⟨p,1+s,none⟩) X).trans au;have D:=t' f;clear f au;by_cases ap:r < bs
  ·exact absurd ((i' bm) ap) (by have:=i' bn;omega)
  ·have ch:¬ (r:Int) < (bs:Int):=by omega
   go_quiet (fail)
   go_upto_region 6 with fail
   refine C' (aZ' w #[.int .i64 4, .int .i64 e, .int .i64 s, .int .i64 q, .string b]) ((i' D).drewN _) ?_;clear D F ds;intro x f;have F:=m' (i:=2) f.box;simp at F;have bz:=(f.bel.cell (p:=⟨p,1,none⟩) X).trans aH;have bA:=(f.bel.cell (p:=⟨p,2,none⟩) X).trans aI;have bB:=(f.bel.cell (p:=⟨p,3,none⟩) X).trans aJ;have Z:=f.lt;have D:=t' f;obtain⟨M,aA⟩:∃M,M=x.heap.size:=⟨_,rfl⟩;have be:=t' aA;have bC:w.heap.size < M:=by omega
   clear f aH aI aJ;go_upto_region 7 with fail;rw[<-aA];clear aA;refine C' (fun y=>y.heap[M]? =some (.cells #[.int .i64 g0, .int .i64 g1, .int .i64 g2] 136 (0,0))/\aZ' w #[.int .i64 4, .int .i64 e, .int .i64 s, .int .i64 q, .string b] y) ?_ ?_
   ·rw[i' be];exact⟨heap_alloc_new _ _,(i' D).below ((Below.refl _ _).alloc (Nat.le_refl _) _)⟩
   clear D be F bz bA bB Z;rintro y ⟨J,f⟩;have F:=m' (i:=2) f.box;simp at F;have bD:=D' (i:=s) J;obtain⟨ci,bE⟩:∃v:Nat,y.cell? ⟨M,s,none⟩=some (.int .i64 v):=by
    rw[m' J];obtain rfl|rfl|rfl:s=0\/s=1\/s=2:=by omega
    ·exact⟨g0,rfl⟩
    ·exact⟨g1,rfl⟩
    ·exact⟨g2,rfl⟩
   have bf:=t' (And.intro J f);clear J f;go_upto_region 8 with fail;refine C' (fun y=>y.heap[M]? =some (.cells #[.int .i64 bo, .int .i64 bp, .int .i64 bq] 136 (0,0))/\aZ' w #[.int .i64 4, .int .i64 e, .int .i64 s, .int .i64 q, .string b] y) ?_ ?_
   ·obtain⟨J,f⟩:=i' bf;have bF:=O' y M s (.int .i64 r);refine⟨?_,⟨bF.blk f.box (by omega),f.bel.setCell (p:=⟨M,s,none⟩) (Nat.le_of_lt bC) _⟩⟩;rw[i' aU];exact af' J
   clear bf F bD bE;rintro y ⟨J,f⟩;have bG:=m' (i:=0) J;have bH:=m' (i:=1) J;have bb:=m' (i:=2) J;have F:=m' (i:=2) f.box;simp at bG bH bb F;have bI:=t' (i' ((i' br) ap y f.bel));have D:=t' f;clear J f;go_wp2_with (go_at_call 152;refine(i' bI).mono ?_;rintro U u ⟨rfl,bJ⟩);go_ret;obtain⟨bK,bL,bM,bN,bO,bP⟩:=bJ;exact⟨rfl,bK,bL,bM,bN,bO.behind (i' D).bel,bP⟩
end
end Go.Proofs.YtamafdcnbcoegaaGreat
