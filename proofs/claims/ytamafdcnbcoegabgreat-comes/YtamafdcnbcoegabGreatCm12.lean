/-
  Part 12 of a proof: LB2.
-/
import Derived.Test.YtamafdcnbcoegabGreatCm11
set_option maxRecDepth 100000
set_option maxHeartbeats 40000000
namespace Go.Proofs.YtamafdcnbcoegabGreat
open Go.RowKit
section
variable {w:World} {p:Nat} {g:Nat->Nat} {free:List Nat} {sh:Nat->List (Nat×Value)} {st:Mod.Stv} {c:Av} {a:Mod.Ag} {pl:Nat->List Nat} {op:Nat×Nat}
theorem js' (M:aC' w p g a.ticks a.welcome a.fenced free sh st c) (hs:cv' op st a free pl) (V:aQ' a st.opening g free sh pl) (e:Nat) (s q:Int) (b:ByteArray) (aV:op.2≠1\/(a.says 2 e s q b 0+a.says 2 e s q b 1+a.says 2 e s q b 2)=0) (cr:e=a.epoch) (bq:b.size=12) (aW:∀i,i < 3->(a.fl i).base+(a.fl i).kept.length<=1000000000):
  Calls Tryz.prog 76 #[A' p, .agg #[.int .i64 2, .int .i64 e, .int .i64 s, .int .i64 q, .string b]] w fun O r=>O= .returned (.int .i64 0)/\bO' (eh' op (a.says 2 e s q b 0+a.says 2 e s q b 1+a.says 2 e s q b 2)) w r p (a.deliver 2 e s q b) c:=by
 have aX:=lt_of_block M.ks.blk;have br:=fun r (J:Below w.heap.size w r)=>y' (bq' (M.below J));obtain⟨n,ah⟩:∃n,n=a.says 2 e s q b:=⟨_,rfl⟩;rw[<-ah]at aV ⊢;have hd:a.deliver 2 e s q b={a.drop n with welcome:=true,fl:=Mod.fresh (a.drop n).fl 3}:=by unfold Mod.Ag.deliver;rw[if_neg (by omega),if_neg (by omega),if_neg (by omega),if_pos rfl,ah]
 have aY:∀i,i < 3->n i<=(a.fl i).kept.length:=fun i _=>by rw[ah];exact gs' _ _ _ _ _ _ _
 have bt:∀i,n i=min (Wire.numAt b.data.toList (4 * i) - (a.fl i).base).toNat (a.fl i).kept.length:=fun i=>by rw[ah];unfold Mod.Ag.says;rw[if_neg (by omega),if_pos rfl];rfl
 obtain⟨Z,aH⟩:∃Z:Nat->Nat,Z=fun i=>(a.fl i).base+n i:=⟨_,rfl⟩;have aI:∀i,max ((a.fl i).base:Int) (min (Wire.numAt b.data.toList (4 * i)) (((a.fl i).base+(a.fl i).kept.length:Nat):Int))=(Z i:Int):=fun i=>by rw[ta',aH];show _=(((a.fl i).base+n i:Nat):Int);rw[bt i]
 have bu:=fun r (J:Below w.heap.size w r)=>ly' (M.below J) hs (fun i hi=>by have:=aW i hi;omega) V n Z aV aY (fun i _=>by rw[aH]) (fun i hi=>by have:=aW i hi;have:=aY i hi;rw[aH];show(a.fl i).base+n i < _;omega);have bw:=fun r=>et' b r bq;have aJ:=fun i (hi:i < 3) r (J:Below w.heap.size w r)=>cZ' (M.below J) V hi (V.bs i hi);have aZ:w.cell? ⟨p,1,none⟩=some (.int .i64 (a.fl 0).base):=by rw[t' M.ks.blk,<-V.bs 0 (by omega)];exact M.ks.ag 0 (by omega)
 have ba:w.cell? ⟨p,2,none⟩=some (.int .i64 (a.fl 1).base):=by rw[t' M.ks.blk,<-V.bs 1 (by omega)];exact M.ks.ag 1 (by omega)
 have bb:w.cell? ⟨p,3,none⟩=some (.int .i64 (a.fl 2).base):=by rw[t' M.ks.blk,<-V.bs 2 (by omega)];exact M.ks.ag 2 (by omega)
 have aK:=fun r J=>y' (aJ 0 (by omega) r J);have aL:=fun r J=>y' (aJ 1 (by omega) r J);have aM:=fun r J=>y' (aJ 2 (by omega) r J);have ai:=aI 0;have aj:=aI 1;have ak:=aI 2;simp only[Nat.mul_zero,Nat.mul_one,show 4 * 2=8 from rfl]at ai aj ak;have cs:=fun r=>y' (bw r);generalize Wire.numAt b.data.toList 0=aa at *;generalize Wire.numAt b.data.toList 4=ab at *;generalize Wire.numAt b.data.toList 8=ac at *;have aN:=fun r J=>y' (bu r J);obtain⟨bc,be⟩:∃x,x=Z 0:=⟨_,rfl⟩;obtain⟨bf,bg⟩:∃x,x=Z 1:=⟨_,rfl⟩;obtain⟨bh,bi⟩:∃x,x=Z 2:=⟨_,rfl⟩;rw[<-be]at ai;rw[<-bg]at aj;rw[<-bi]at ak;rw[<-be,<-bg,<-bi]at aN;obtain⟨bz,bA⟩:∃v,v=(a.fl 0).base+(a.fl 0).kept.length:=⟨_,rfl⟩;obtain⟨bB,bC⟩:∃v,v=(a.fl 1).base+(a.fl 1).kept.length:=⟨_,rfl⟩;obtain⟨bD,bE⟩:∃v,v=(a.fl 2).base+(a.fl 2).kept.length:=⟨_,rfl⟩;rw[<-bA]at ai aK;rw[<-bC]at aj aL;rw[<-bE]at ak aM;obtain⟨g0,bF⟩:∃v,v=(a.fl 0).base:=⟨_,rfl⟩;obtain⟨g1,bG⟩:∃v,v=(a.fl 1).base:=⟨_,rfl⟩;obtain⟨g2,bH⟩:∃v,v=(a.fl 2).base:=⟨_,rfl⟩;rw[<-bF]at ai aZ;rw[<-bG]at aj ba;rw[<-bH]at ak bb;simp only[show((0:Nat):Int)=0 from rfl,show((1:Nat):Int)=1 from rfl,show((2:Nat):Int)=2 from rfl]at aK aL aM;obtain⟨ep,bI⟩:∃ep,ep=a.epoch:=⟨_,rfl⟩;have bJ:st.opening=ep:=by rw[bI];exact V.ep
 rw[bJ]at br;have cC:((e:Int) != (ep:Int))=false:=by simp;omega
 obtain⟨bK,bL⟩:∃bK,bK=a.deliver 2 e s q b:=⟨_,rfl⟩;rw[<-bL]at hd ⊢;obtain⟨a1,bM⟩:∃a1,a1=a.drop n:=⟨_,rfl⟩;rw[<-bM]at hd aN;have cu:=y' hd;have bN:=y' (cK' w #[.int .i64 2, .int .i64 e, .int .i64 s, .int .i64 q, .string b]);have i0:∀w:World,(Instr.index 35 (.agg #[.int .i64 aa, .int .i64 ab, .int .i64 ac]) (.int .i64 0)).run Tryz.prog w= .ok (.int .i64 aa) w:=fun _=>by kernel_rfl
 have cv:∀w:World,(Instr.index 35 (.agg #[.int .i64 aa, .int .i64 ab, .int .i64 ac]) (.int .i64 1)).run Tryz.prog w= .ok (.int .i64 ab) w:=fun _=>by kernel_rfl
 have i2:∀w:World,(Instr.index 35 (.agg #[.int .i64 aa, .int .i64 ab, .int .i64 ac]) (.int .i64 2)).run Tryz.prog w= .ok (.int .i64 ac) w:=fun _=>by kernel_rfl
 clear M V hs aV ah hd aY bt aH aI bu bw aJ be bg bi bA bC bE bF bG bH bJ bI bL bM cr bq aW;unfold A' at *;go_enter Tryz.func76,Tryz.ntmps76;go_upto_region 1 with fail;refine H' (bg' w #[.int .i64 2, .int .i64 e, .int .i64 s, .int .i64 q, .string b]) (i' bN) ?_;clear bN;intro x D;have bO:=t' (i:=1) D.box;simp at bO;have bP:=fun n=>y' (i' (br (x.drewN n) (D.drewN n).bel));have ad:=y' D;clear D;go_quiet (first|(go_at_call 52;exact Calls.quiet_of_same (i' (bP _))));go_upto_region 3 with fail;refine H' (bg' w #[.int .i64 2, .int .i64 e, .int .i64 s, .int .i64 q, .string b]) ((i' ad).drewN _) ?_;clear ad bO bP;intro x D;have ao:=t' (i:=4) D.box;simp at ao;have bj:=(D.bel.cell (p:=⟨p,1,none⟩) aX).trans aZ;have bk:=(D.bel.cell (p:=⟨p,2,none⟩) aX).trans ba;have bl:=(D.bel.cell (p:=⟨p,3,none⟩) aX).trans bb;have cw:=D.lt;have ad:=y' D;clear D aZ ba bb;go_upto_region 4 with fail;obtain⟨z,bm⟩:∃z,z=x.heap.size:=⟨_,rfl⟩;have bQ:=y' bm;have bn:w.heap.size<=z:=by have:=(i' ad).bel.size;omega
 rw[<-bm];have cD:¬w.heap.size=z:=by omega
 clear bm;refine H' (fun y=>y.heap[z]? =some (.cells #[.int .i64 g0, .int .i64 g1, .int .i64 g2] 100 (0,0))/\bg' w #[.int .i64 2, .int .i64 e, .int .i64 s, .int .i64 q, .string b] y) ?_ ?_
 ·rw[i' bQ];exact⟨heap_alloc_new _ _,(i' ad).below ((Below.refl _ _).alloc (Nat.le_refl _) _)⟩
 clear ad bQ ao bj bk bl cw;rintro y ⟨h5,D⟩;have ao:=t' (i:=4) D.box;simp at ao;have ap:=y' (And.intro h5 D);clear h5 D;go_upto_region 5 with (go_at_call 116;refine(i' (cs _)).mono ?_;rintro O r ⟨rfl,F⟩);have bR:=(F.block _ (lt_of_block (i' ap).1)).trans (i' ap).1;have bS:=(i' ap).2.bel.trans (F.mono (i' ap).2.bel.size);have bT:=y' (And.intro bR bS);clear F bR bS ap ao;go_loopw[6,7,22] (fun _ _ i wr=>∃j:Nat,j<=3/\i= .int .i64 j/\wr.heap[z]? =some (.cells #[.int .i64 (if 0 < j then bc else g0:Nat), .int .i64 (if 1 < j then bf else g1:Nat), .int .i64 (if 2 < j then bh else g2:Nat)] 100 (0,0))/\Below w.heap.size w wr) (fun _ _ i _=>3 - (intOf i).toNat)
 case atStart=>obtain⟨h1,h2⟩:=i' bT;exact⟨0,by omega,rfl,by simpa using h1,h2⟩
 case round=>
  obtain⟨j,hj,rfl,h5,bU⟩:=hrel;clear bT;have aq:=t' (i:=0) h5;have au:=t' (i:=1) h5;have av:=t' (i:=2) h5;have U:=lt_of_block h5;have aO:=y' h5;have G:=y' bU;clear h5 bU;rcases(show j=0\/j=1\/j=2\/j=3 by omega)with rfl|rfl|rfl|rfl
  ·simp at aq;go_wp2_with fail;refine ag' (by kernel_rfl)
    [fun v _=>v= .int .i64 0,fun v _=>v= .int .i64 0,fun v _=>v= .pointer (some ⟨z,0,none⟩),fun v _=>v= .int .i64 g0,fun v _=>v= .int .i64 aa,fun v _=>v= .pointer (some ⟨p,0,none⟩),fun v _=>v= .int .i64 0,fun v _=>v= .int .i64 bz,fun v _=>v= .int .i64 (min aa (bz:Int)),fun v _=>v= .int .i64 bc,fun v _=>v= .pointer (some ⟨z,0,none⟩),fun _ _=>True]
    [[(6,none)],[(6,none)],[(5,none),(27,some 1)],[(28,some 2)],[(7,none)],[(0,none)],[(6,none)],[(31,some 5),(32,some 6)],[(30,some 4),(33,some 7)],[(29,some 3),(34,some 8)],[(5,none),(26,some 0)],[(36,some 10),(35,some 9)]] [some 26,some 27,some 28,some 29,some 30,some 31,some 32,some 33,some 34,some 35,some 36,none] [false,false,false,false,false,false,false,false,false,false,false,false,false,false,false,false,false,false,false,false,false,false,false,false,false,false,true,true,true,true,true,true,true,true,true,true,true,false,false,false,false,false,false,false,false,false,false,false,false,false,false,false,false,false,false,false,false,false,false,false,false,false,false,false,false]
    11 _ rfl rfl (by kernel_rfl) (by kernel_rfl) (by kernel_rfl) (by kernel_rfl) (by kernel_rfl) (by kernel_rfl) ?_ ?_ ?_
   ·repeat' (first|exact O' _|exact X'|exact trivial|apply And.intro)
   ·refine⟨?_,?_,?_,?_,?_,?_,?_,?_,?_,?_,?_,trivial⟩;all_goals
     intro a' r F X;have bj:=(F.cell (p:=⟨z,0,none⟩) U).trans aq;have Y:=y' (i' (aK r ((i' G).trans (F.mono (i' G).size))));clear F;simp only[M',List.getD_cons_zero,List.getD_cons_succ,Array.getD_eq_getD_getElem?]at X;try simp at X
     go_simp;try exact⟨_,rfl,Below.refl _ _,rfl⟩
     try exact Below.refl _ _
    all_goals first
     |(refine(i' Y).mono ?_;rintro O ax ⟨rfl,q,rfl⟩;exact⟨rfl,below_drewN (Below.refl _ _) q⟩)
     |(refine(i' Y).mono ?_;rintro O ax ⟨rfl,q,rfl⟩;exact⟨_,rfl,below_drewN (Below.refl _ _) q,rfl⟩)
     |skip
   ·intro f r H I;simp only[af',List.take]at I;have ay:=I.2.2.2.2.2.2.2.2.2.1;have az:=I.2.2.2.2.2.2.2.2.2.2.1;clear I;have z5:=(H.block _ U).trans (i' aO);have bj:=(H.cell (p:=⟨z,0,none⟩) U).trans aq;have cE:=I' (i:=0) z5;have aA:=y' z5;have aB:=y' ((i' G).trans (H.mono (i' G).size));clear H z5;simp only[Y',ay,az];generalize f 26=bV;generalize f 27=bW;generalize f 28=bX;generalize f 29=bY;generalize f 30=bZ;generalize f 31=ca;generalize f 32=cb;generalize f 33=cc;generalize f 34=cd;go_simp;go_wp2;refine⟨⟨1,by omega,by go_num,?_,?_⟩,by simp[intOf]⟩
    ·have:=ah' (j:=0) (v:= .int .i64 bc) (i' aA);simpa using this
    ·exact(i' aB).setCell (p:=⟨z,0,none⟩) bn _
  ·simp at au;go_wp2_with fail;refine ag' (by kernel_rfl)
    [fun v _=>v= .int .i64 1,fun v _=>v= .int .i64 1,fun v _=>v= .pointer (some ⟨z,1,none⟩),fun v _=>v= .int .i64 g1,fun v _=>v= .int .i64 ab,fun v _=>v= .pointer (some ⟨p,0,none⟩),fun v _=>v= .int .i64 1,fun v _=>v= .int .i64 bB,fun v _=>v= .int .i64 (min ab (bB:Int)),fun v _=>v= .int .i64 bf,fun v _=>v= .pointer (some ⟨z,1,none⟩),fun _ _=>True]
    [[(6,none)],[(6,none)],[(5,none),(27,some 1)],[(28,some 2)],[(7,none)],[(0,none)],[(6,none)],[(31,some 5),(32,some 6)],[(30,some 4),(33,some 7)],[(29,some 3),(34,some 8)],[(5,none),(26,some 0)],[(36,some 10),(35,some 9)]] [some 26,some 27,some 28,some 29,some 30,some 31,some 32,some 33,some 34,some 35,some 36,none] [false,false,false,false,false,false,false,false,false,false,false,false,false,false,false,false,false,false,false,false,false,false,false,false,false,false,true,true,true,true,true,true,true,true,true,true,true,false,false,false,false,false,false,false,false,false,false,false,false,false,false,false,false,false,false,false,false,false,false,false,false,false,false,false,false]
    11 _ rfl rfl (by kernel_rfl) (by kernel_rfl) (by kernel_rfl) (by kernel_rfl) (by kernel_rfl) (by kernel_rfl) ?_ ?_ ?_
   ·repeat' (first|exact O' _|exact X'|exact trivial|apply And.intro)
   ·refine⟨?_,?_,?_,?_,?_,?_,?_,?_,?_,?_,?_,trivial⟩;all_goals
     intro a' r F X;have bk:=(F.cell (p:=⟨z,1,none⟩) U).trans au;have Y:=y' (i' (aL r ((i' G).trans (F.mono (i' G).size))));clear F;simp only[M',List.getD_cons_zero,List.getD_cons_succ,Array.getD_eq_getD_getElem?]at X;try simp at X
     go_simp;try exact⟨_,rfl,Below.refl _ _,rfl⟩
     try exact Below.refl _ _
    all_goals first
     |(refine(i' Y).mono ?_;rintro O ax ⟨rfl,q,rfl⟩;exact⟨rfl,below_drewN (Below.refl _ _) q⟩)
     |(refine(i' Y).mono ?_;rintro O ax ⟨rfl,q,rfl⟩;exact⟨_,rfl,below_drewN (Below.refl _ _) q,rfl⟩)
     |skip
   ·intro f r H I;simp only[af',List.take]at I;have ay:=I.2.2.2.2.2.2.2.2.2.1;have az:=I.2.2.2.2.2.2.2.2.2.2.1;clear I;have z5:=(H.block _ U).trans (i' aO);have bk:=(H.cell (p:=⟨z,1,none⟩) U).trans au;have cF:=I' (i:=1) z5;have aA:=y' z5;have aB:=y' ((i' G).trans (H.mono (i' G).size));clear H z5;simp only[Y',ay,az];generalize f 26=bV;generalize f 27=bW;generalize f 28=bX;generalize f 29=bY;generalize f 30=bZ;generalize f 31=ca;generalize f 32=cb;generalize f 33=cc;generalize f 34=cd;go_simp;go_wp2;refine⟨⟨2,by omega,by go_num,?_,?_⟩,by simp[intOf]⟩
    ·have:=ah' (j:=1) (v:= .int .i64 bf) (i' aA);simpa using this
    ·exact(i' aB).setCell (p:=⟨z,1,none⟩) bn _
  ·simp at av;go_wp2_with fail;refine ag' (by kernel_rfl)
    [fun v _=>v= .int .i64 2,fun v _=>v= .int .i64 2,fun v _=>v= .pointer (some ⟨z,2,none⟩),fun v _=>v= .int .i64 g2,fun v _=>v= .int .i64 ac,fun v _=>v= .pointer (some ⟨p,0,none⟩),fun v _=>v= .int .i64 2,fun v _=>v= .int .i64 bD,fun v _=>v= .int .i64 (min ac (bD:Int)),fun v _=>v= .int .i64 bh,fun v _=>v= .pointer (some ⟨z,2,none⟩),fun _ _=>True]
    [[(6,none)],[(6,none)],[(5,none),(27,some 1)],[(28,some 2)],[(7,none)],[(0,none)],[(6,none)],[(31,some 5),(32,some 6)],[(30,some 4),(33,some 7)],[(29,some 3),(34,some 8)],[(5,none),(26,some 0)],[(36,some 10),(35,some 9)]] [some 26,some 27,some 28,some 29,some 30,some 31,some 32,some 33,some 34,some 35,some 36,none] [false,false,false,false,false,false,false,false,false,false,false,false,false,false,false,false,false,false,false,false,false,false,false,false,false,false,true,true,true,true,true,true,true,true,true,true,true,false,false,false,false,false,false,false,false,false,false,false,false,false,false,false,false,false,false,false,false,false,false,false,false,false,false,false,false]
    11 _ rfl rfl (by kernel_rfl) (by kernel_rfl) (by kernel_rfl) (by kernel_rfl) (by kernel_rfl) (by kernel_rfl) ?_ ?_ ?_
   ·repeat' (first|exact O' _|exact X'|exact trivial|apply And.intro)
   ·refine⟨?_,?_,?_,?_,?_,?_,?_,?_,?_,?_,?_,trivial⟩;all_goals
     intro a' r F X;have bl:=(F.cell (p:=⟨z,2,none⟩) U).trans av;have Y:=y' (i' (aM r ((i' G).trans (F.mono (i' G).size))));clear F;simp only[M',List.getD_cons_zero,List.getD_cons_succ,Array.getD_eq_getD_getElem?]at X;try simp at X
     go_simp;try exact⟨_,rfl,Below.refl _ _,rfl⟩
     try exact Below.refl _ _
    all_goals first
     |(refine(i' Y).mono ?_;rintro O ax ⟨rfl,q,rfl⟩;exact⟨rfl,below_drewN (Below.refl _ _) q⟩)
     |(refine(i' Y).mono ?_;rintro O ax ⟨rfl,q,rfl⟩;exact⟨_,rfl,below_drewN (Below.refl _ _) q,rfl⟩)
     |skip
   ·intro f r H I;simp only[af',List.take]at I;have ay:=I.2.2.2.2.2.2.2.2.2.1;have az:=I.2.2.2.2.2.2.2.2.2.2.1;clear I;have z5:=(H.block _ U).trans (i' aO);have bl:=(H.cell (p:=⟨z,2,none⟩) U).trans av;have cG:=I' (i:=2) z5;have aA:=y' z5;have aB:=y' ((i' G).trans (H.mono (i' G).size));clear H z5;simp only[Y',ay,az];generalize f 26=bV;generalize f 27=bW;generalize f 28=bX;generalize f 29=bY;generalize f 30=bZ;generalize f 31=ca;generalize f 32=cb;generalize f 33=cc;generalize f 34=cd;go_simp;go_wp2;refine⟨⟨3,by omega,by go_num,?_,?_⟩,by simp[intOf]⟩
    ·have:=ah' (j:=2) (v:= .int .i64 bh) (i' aA);simpa using this
    ·exact(i' aB).setCell (p:=⟨z,2,none⟩) bn _
  ·simp at aq au av;have ce:=y' (i' (aN wr (i' G)));clear aN aK aL aM i0 cv i2 ai aj ak;go_upto_region 12 with (go_at_call 117;refine(i' ce).mono ?_;rintro O y ⟨rfl,cx⟩);obtain⟨cf,cg,ch,cy,ci,cj,ck,cl⟩:=cx;have cm:=y' (cj.behind (i' G));have cn:=y' (And.intro ck cl);clear cj ck cl ce aq au av aO;go_wp2;go_loopw[9,44] (fun _ i wr=>∃j:Nat,j<=3/\i= .int .i64 j/\aA' w wr p cf a1.ticks a1.welcome a1.fenced cg (clr ch j) ci c) (fun _ i _=>3 - (intOf i).toNat)
   case atStart=>exact⟨0,by omega,rfl,by rw[vj'];exact i' cm⟩
   case round=>
    obtain⟨j,hj,rfl,aP⟩:=hrel;clear cm;by_cases cH:j < 3
    ·obtain⟨c1,Q,aC,aD,aE,aF⟩:=aP;have bo:=rC' (Q.shAt (i:=j * 3+1) (by omega));rw[show 4+(j * 3+1) * 2=4+j * 6+2 by omega]at bo;have co:=y' bo;have cp:=y' (And.intro Q (And.intro aC (And.intro aD (And.intro aE aF))));have cI:(0:Int)<=(j:Int):=by omega
     have cJ:(j:Int) < 3:=by omega
     clear Q aC aD aE aF bo;go_upto_region 16 with (go_at_call 118;refine(i' co).mono ?_;rintro O y ⟨rfl,aQ⟩);obtain⟨Q,aC,aD,aE,aF⟩:=i' cp;have aR:cd' wr y p (4+(j * 3+1) * 2) 116 c1.arr (c1.nv (j * 3+1)) (c1.mv (j * 3+1)) []:=by rw[show 4+(j * 3+1) * 2=4+j * 6+2 by omega];exact aQ
     obtain⟨c2,aG,aS,aT,s1,aU⟩:=eq' aC aD aE aF (cJ' Q (i:=j * 3+1) (by omega) aR);have bp:=la' (aG.shAt (i:=j * 3+2) (by omega));rw[show 4+(j * 3+2) * 2=4+j * 6+4 by omega]at bp;have cz:=y' bp;have cA:=y' (And.intro aG (And.intro aS (And.intro aT (And.intro s1 aU))));clear Q aC aD aE aF aG aS aT s1 aU bp aQ aR cp co;go_wp2_with (go_at_call 119;refine(i' cz).mono ?_;rintro O r ⟨rfl,aQ⟩);obtain⟨aG,aS,aT,s1,aU⟩:=i' cA;have aR:cd' y r p (4+(j * 3+2) * 2) 116 c2.arr (c2.nv (j * 3+2)) (c2.mv (j * 3+2)) []:=by rw[show 4+(j * 3+2) * 2=4+j * 6+4 by omega];exact aQ
     have cq:=eq' aS aT s1 aU (cJ' aG (i:=j * 3+2) (by omega) aR);rw[vk']at cq;exact⟨⟨j+1,by omega,by go_num,cq⟩,by simp[intOf];omega⟩
    ·obtain rfl:j=3:=by omega
     obtain⟨c1,Q,_⟩:=id aP;have cK:=I' (i:=24) Q.ks.blk;have cL:wr.cell? ⟨p,24,none⟩=some (.bool a1.welcome):=by rw[t' Q.ks.blk,Q.ks.aw]
     have cB:=y' (aP.trans (fun cM h=>lj' h true));clear aP Q;go_wp2;go_ret;refine⟨rfl,?_⟩;rw[i' cu];exact⟨cf,cg,clr ch 3,cy,ci,i' cB,(i' cn).1.same (fun i _=>sf' _ i),rS' (i' cn).2⟩
theorem jt' (M:aC' w p g a.ticks a.welcome a.fenced free sh st c) (hs:cv' op st a free pl) (O:aQ' a st.opening g free sh pl) (e:Nat) (s q:Int) (b:ByteArray) (aZ:op.2=1) (aH:0 < (a.says 2 e s q b 0+a.says 2 e s q b 1+a.says 2 e s q b 2)) (bR:e=a.epoch) (ba:b.size=12) (bb:∀i,i < 3->(a.fl i).base+(a.fl i).kept.length<=1000000000):
  Calls Tryz.prog 76 #[A' p, .agg #[.int .i64 2, .int .i64 e, .int .i64 s, .int .i64 q, .string b]] w fun Q r=>Q= .returned (.int .i64 4)/\fp' op.1 w r p a c:=by
 have aI:=lt_of_block M.ks.blk;have bc:=fun r (J:Below w.heap.size w r)=>y' (bq' (M.below J));obtain⟨n,ad⟩:∃n,n=a.says 2 e s q b:=⟨_,rfl⟩;rw[<-ad]at aH;have hd:a.deliver 2 e s q b={a.drop n with welcome:=true,fl:=Mod.fresh (a.drop n).fl 3}:=by unfold Mod.Ag.deliver;rw[if_neg (by omega),if_neg (by omega),if_neg (by omega),if_pos rfl,ad]
 have be:∀i,i < 3->n i<=(a.fl i).kept.length:=fun i _=>by rw[ad];exact gs' _ _ _ _ _ _ _
 have bf:∀i,n i=min (Wire.numAt b.data.toList (4 * i) - (a.fl i).base).toNat (a.fl i).kept.length:=fun i=>by rw[ad];unfold Mod.Ag.says;rw[if_neg (by omega),if_pos rfl];rfl
 obtain⟨Y,ay⟩:∃Y:Nat->Nat,Y=fun i=>(a.fl i).base+n i:=⟨_,rfl⟩;have az:∀i,max ((a.fl i).base:Int) (min (Wire.numAt b.data.toList (4 * i)) (((a.fl i).base+(a.fl i).kept.length:Nat):Int))=(Y i:Int):=fun i=>by rw[ta',ay];show _=(((a.fl i).base+n i:Nat):Int);rw[bf i]
 have bg:=fun r (J:Below w.heap.size w r)=>lx' (M.below J) hs aZ O Y (fun i hi=>by have:=bb i hi;have:=be i hi;rw[ay];show(a.fl i).base+n i < _;omega) (te' O (fun i _=>by rw[ay]) aH);have bh:=fun r=>et' b r ba;have aA:=fun i (hi:i < 3) r (J:Below w.heap.size w r)=>cZ' (M.below J) O hi (O.bs i hi);have aJ:w.cell? ⟨p,1,none⟩=some (.int .i64 (a.fl 0).base):=by rw[t' M.ks.blk,<-O.bs 0 (by omega)];exact M.ks.ag 0 (by omega)
 have aK:w.cell? ⟨p,2,none⟩=some (.int .i64 (a.fl 1).base):=by rw[t' M.ks.blk,<-O.bs 1 (by omega)];exact M.ks.ag 1 (by omega)
 have aL:w.cell? ⟨p,3,none⟩=some (.int .i64 (a.fl 2).base):=by rw[t' M.ks.blk,<-O.bs 2 (by omega)];exact M.ks.ag 2 (by omega)
 have aB:=fun r J=>y' (aA 0 (by omega) r J);have aC:=fun r J=>y' (aA 1 (by omega) r J);have aD:=fun r J=>y' (aA 2 (by omega) r J);have ah:=az 0;have ai:=az 1;have aj:=az 2;simp only[Nat.mul_zero,Nat.mul_one,show 4 * 2=8 from rfl]at ah ai aj;have bS:=fun r=>y' (bh r);generalize Wire.numAt b.data.toList 0=Z at *;generalize Wire.numAt b.data.toList 4=aa at *;generalize Wire.numAt b.data.toList 8=ab at *;have aM:=fun r J=>y' (bg r J);obtain⟨aN,aO⟩:∃x,x=Y 0:=⟨_,rfl⟩;obtain⟨aP,aQ⟩:∃x,x=Y 1:=⟨_,rfl⟩;obtain⟨aR,aS⟩:∃x,x=Y 2:=⟨_,rfl⟩;rw[<-aO]at ah;rw[<-aQ]at ai;rw[<-aS]at aj;rw[<-aO,<-aQ,<-aS]at aM;obtain⟨bi,bj⟩:∃v,v=(a.fl 0).base+(a.fl 0).kept.length:=⟨_,rfl⟩;obtain⟨bk,bl⟩:∃v,v=(a.fl 1).base+(a.fl 1).kept.length:=⟨_,rfl⟩;obtain⟨bm,bn⟩:∃v,v=(a.fl 2).base+(a.fl 2).kept.length:=⟨_,rfl⟩;rw[<-bj]at ah aB;rw[<-bl]at ai aC;rw[<-bn]at aj aD;obtain⟨g0,bo⟩:∃v,v=(a.fl 0).base:=⟨_,rfl⟩;obtain⟨g1,bp⟩:∃v,v=(a.fl 1).base:=⟨_,rfl⟩;obtain⟨g2,bq⟩:∃v,v=(a.fl 2).base:=⟨_,rfl⟩;rw[<-bo]at ah aJ;rw[<-bp]at ai aK;rw[<-bq]at aj aL;simp only[show((0:Nat):Int)=0 from rfl,show((1:Nat):Int)=1 from rfl,show((2:Nat):Int)=2 from rfl]at aB aC aD;obtain⟨ep,br⟩:∃ep,ep=a.epoch:=⟨_,rfl⟩;have bt:st.opening=ep:=by rw[br];exact O.ep
 rw[bt]at bc;have cd:((e:Int) != (ep:Int))=false:=by simp;omega
 obtain⟨bu,bw⟩:∃bu,bu=a.deliver 2 e s q b:=⟨_,rfl⟩;rw[<-bw]at hd;obtain⟨a1,bz⟩:∃a1,a1=a.drop n:=⟨_,rfl⟩;rw[<-bz]at hd;have ce:=y' hd;have bA:=y' (cK' w #[.int .i64 2, .int .i64 e, .int .i64 s, .int .i64 q, .string b]);have i0:∀w:World,(Instr.index 35 (.agg #[.int .i64 Z, .int .i64 aa, .int .i64 ab]) (.int .i64 0)).run Tryz.prog w= .ok (.int .i64 Z) w:=fun _=>by kernel_rfl
 have bT:∀w:World,(Instr.index 35 (.agg #[.int .i64 Z, .int .i64 aa, .int .i64 ab]) (.int .i64 1)).run Tryz.prog w= .ok (.int .i64 aa) w:=fun _=>by kernel_rfl
 have i2:∀w:World,(Instr.index 35 (.agg #[.int .i64 Z, .int .i64 aa, .int .i64 ab]) (.int .i64 2)).run Tryz.prog w= .ok (.int .i64 ab) w:=fun _=>by kernel_rfl
 clear M O hs aZ aH ad hd be bf ay az bg bh aA aO aQ aS bj bl bn bo bp bq bt br bw bz bR ba bb;unfold A' at *;go_enter Tryz.func76,Tryz.ntmps76;go_upto_region 1 with fail;refine H' (bg' w #[.int .i64 2, .int .i64 e, .int .i64 s, .int .i64 q, .string b]) (i' bA) ?_;clear bA;intro x D;have bB:=t' (i:=1) D.box;simp at bB;have bC:=fun n=>y' (i' (bc (x.drewN n) (D.drewN n).bel));have ac:=y' D;clear D;go_quiet (first|(go_at_call 52;exact Calls.quiet_of_same (i' (bC _))));go_upto_region 3 with fail;refine H' (bg' w #[.int .i64 2, .int .i64 e, .int .i64 s, .int .i64 q, .string b]) ((i' ac).drewN _) ?_;clear ac bB bC;intro x D;have ak:=t' (i:=4) D.box;simp at ak;have aT:=(D.bel.cell (p:=⟨p,1,none⟩) aI).trans aJ;have aU:=(D.bel.cell (p:=⟨p,2,none⟩) aI).trans aK;have aV:=(D.bel.cell (p:=⟨p,3,none⟩) aI).trans aL;have bU:=D.lt;have ac:=y' D;clear D aJ aK aL;go_upto_region 4 with fail;obtain⟨z,aW⟩:∃z,z=x.heap.size:=⟨_,rfl⟩;have bD:=y' aW;have aX:w.heap.size<=z:=by have:=(i' ac).bel.size;omega
 rw[<-aW];have cf:¬w.heap.size=z:=by omega
 clear aW;refine H' (fun y=>y.heap[z]? =some (.cells #[.int .i64 g0, .int .i64 g1, .int .i64 g2] 100 (0,0))/\bg' w #[.int .i64 2, .int .i64 e, .int .i64 s, .int .i64 q, .string b] y) ?_ ?_
 ·rw[i' bD];exact⟨heap_alloc_new _ _,(i' ac).below ((Below.refl _ _).alloc (Nat.le_refl _) _)⟩
 clear ac bD ak aT aU aV bU;rintro y ⟨h5,D⟩;have ak:=t' (i:=4) D.box;simp at ak;have ao:=y' (And.intro h5 D);clear h5 D;go_upto_region 5 with (go_at_call 116;refine(i' (bS _)).mono ?_;rintro Q r ⟨rfl,F⟩);have bE:=(F.block _ (lt_of_block (i' ao).1)).trans (i' ao).1;have bF:=(i' ao).2.bel.trans (F.mono (i' ao).2.bel.size);have bG:=y' (And.intro bE bF);clear F bE bF ao ak;go_loopw[6,7,22] (fun _ _ i wr=>∃j:Nat,j<=3/\i= .int .i64 j/\wr.heap[z]? =some (.cells #[.int .i64 (if 0 < j then aN else g0:Nat), .int .i64 (if 1 < j then aP else g1:Nat), .int .i64 (if 2 < j then aR else g2:Nat)] 100 (0,0))/\Below w.heap.size w wr) (fun _ _ i _=>3 - (intOf i).toNat)
 case atStart=>obtain⟨h1,h2⟩:=i' bG;exact⟨0,by omega,rfl,by simpa using h1,h2⟩
 case round=>
  obtain⟨j,hj,rfl,h5,bH⟩:=hrel;clear bG;have aE:=t' (i:=0) h5;have aF:=t' (i:=1) h5;have aG:=t' (i:=2) h5;have U:=lt_of_block h5;have aY:=y' h5;have G:=y' bH;clear h5 bH;rcases(show j=0\/j=1\/j=2\/j=3 by omega)with rfl|rfl|rfl|rfl
  ·simp at aE;go_wp2_with fail;refine ag' (by kernel_rfl)
    [fun v _=>v= .int .i64 0,fun v _=>v= .int .i64 0,fun v _=>v= .pointer (some ⟨z,0,none⟩),fun v _=>v= .int .i64 g0,fun v _=>v= .int .i64 Z,fun v _=>v= .pointer (some ⟨p,0,none⟩),fun v _=>v= .int .i64 0,fun v _=>v= .int .i64 bi,fun v _=>v= .int .i64 (min Z (bi:Int)),fun v _=>v= .int .i64 aN,fun v _=>v= .pointer (some ⟨z,0,none⟩),fun _ _=>True]
    [[(6,none)],[(6,none)],[(5,none),(27,some 1)],[(28,some 2)],[(7,none)],[(0,none)],[(6,none)],[(31,some 5),(32,some 6)],[(30,some 4),(33,some 7)],[(29,some 3),(34,some 8)],[(5,none),(26,some 0)],[(36,some 10),(35,some 9)]] [some 26,some 27,some 28,some 29,some 30,some 31,some 32,some 33,some 34,some 35,some 36,none] [false,false,false,false,false,false,false,false,false,false,false,false,false,false,false,false,false,false,false,false,false,false,false,false,false,false,true,true,true,true,true,true,true,true,true,true,true,false,false,false,false,false,false,false,false,false,false,false,false,false,false,false,false,false,false,false,false,false,false,false,false,false,false,false,false]
    11 _ rfl rfl (by kernel_rfl) (by kernel_rfl) (by kernel_rfl) (by kernel_rfl) (by kernel_rfl) (by kernel_rfl) ?_ ?_ ?_
   ·repeat' (first|exact O' _|exact X'|exact trivial|apply And.intro)
   ·refine⟨?_,?_,?_,?_,?_,?_,?_,?_,?_,?_,?_,trivial⟩;all_goals
     intro a' r F V;have aT:=(F.cell (p:=⟨z,0,none⟩) U).trans aE;have X:=y' (i' (aB r ((i' G).trans (F.mono (i' G).size))));clear F;simp only[M',List.getD_cons_zero,List.getD_cons_succ,Array.getD_eq_getD_getElem?]at V;try simp at V
     go_simp;try exact⟨_,rfl,Below.refl _ _,rfl⟩
     try exact Below.refl _ _
    all_goals first
     |(refine(i' X).mono ?_;rintro Q ap ⟨rfl,q,rfl⟩;exact⟨rfl,below_drewN (Below.refl _ _) q⟩)
     |(refine(i' X).mono ?_;rintro Q ap ⟨rfl,q,rfl⟩;exact⟨_,rfl,below_drewN (Below.refl _ _) q,rfl⟩)
     |skip
   ·intro f r H I;simp only[af',List.take]at I;have aq:=I.2.2.2.2.2.2.2.2.2.1;have au:=I.2.2.2.2.2.2.2.2.2.2.1;clear I;have z5:=(H.block _ U).trans (i' aY);have aT:=(H.cell (p:=⟨z,0,none⟩) U).trans aE;have cg:=I' (i:=0) z5;have av:=y' z5;have ax:=y' ((i' G).trans (H.mono (i' G).size));clear H z5;simp only[Y',aq,au];generalize f 26=bI;generalize f 27=bJ;generalize f 28=bK;generalize f 29=bL;generalize f 30=bM;generalize f 31=bN;generalize f 32=bO;generalize f 33=bP;generalize f 34=bQ;go_simp;go_wp2;refine⟨⟨1,by omega,by go_num,?_,?_⟩,by simp[intOf]⟩
    ·have:=ah' (j:=0) (v:= .int .i64 aN) (i' av);simpa using this
    ·exact(i' ax).setCell (p:=⟨z,0,none⟩) aX _
  ·simp at aF;go_wp2_with fail;refine ag' (by kernel_rfl)
    [fun v _=>v= .int .i64 1,fun v _=>v= .int .i64 1,fun v _=>v= .pointer (some ⟨z,1,none⟩),fun v _=>v= .int .i64 g1,fun v _=>v= .int .i64 aa,fun v _=>v= .pointer (some ⟨p,0,none⟩),fun v _=>v= .int .i64 1,fun v _=>v= .int .i64 bk,fun v _=>v= .int .i64 (min aa (bk:Int)),fun v _=>v= .int .i64 aP,fun v _=>v= .pointer (some ⟨z,1,none⟩),fun _ _=>True]
    [[(6,none)],[(6,none)],[(5,none),(27,some 1)],[(28,some 2)],[(7,none)],[(0,none)],[(6,none)],[(31,some 5),(32,some 6)],[(30,some 4),(33,some 7)],[(29,some 3),(34,some 8)],[(5,none),(26,some 0)],[(36,some 10),(35,some 9)]] [some 26,some 27,some 28,some 29,some 30,some 31,some 32,some 33,some 34,some 35,some 36,none] [false,false,false,false,false,false,false,false,false,false,false,false,false,false,false,false,false,false,false,false,false,false,false,false,false,false,true,true,true,true,true,true,true,true,true,true,true,false,false,false,false,false,false,false,false,false,false,false,false,false,false,false,false,false,false,false,false,false,false,false,false,false,false,false,false]
    11 _ rfl rfl (by kernel_rfl) (by kernel_rfl) (by kernel_rfl) (by kernel_rfl) (by kernel_rfl) (by kernel_rfl) ?_ ?_ ?_
   ·repeat' (first|exact O' _|exact X'|exact trivial|apply And.intro)
   ·refine⟨?_,?_,?_,?_,?_,?_,?_,?_,?_,?_,?_,trivial⟩;all_goals
     intro a' r F V;have aU:=(F.cell (p:=⟨z,1,none⟩) U).trans aF;have X:=y' (i' (aC r ((i' G).trans (F.mono (i' G).size))));clear F;simp only[M',List.getD_cons_zero,List.getD_cons_succ,Array.getD_eq_getD_getElem?]at V;try simp at V
     go_simp;try exact⟨_,rfl,Below.refl _ _,rfl⟩
     try exact Below.refl _ _
    all_goals first
     |(refine(i' X).mono ?_;rintro Q ap ⟨rfl,q,rfl⟩;exact⟨rfl,below_drewN (Below.refl _ _) q⟩)
     |(refine(i' X).mono ?_;rintro Q ap ⟨rfl,q,rfl⟩;exact⟨_,rfl,below_drewN (Below.refl _ _) q,rfl⟩)
     |skip
   ·intro f r H I;simp only[af',List.take]at I;have aq:=I.2.2.2.2.2.2.2.2.2.1;have au:=I.2.2.2.2.2.2.2.2.2.2.1;clear I;have z5:=(H.block _ U).trans (i' aY);have aU:=(H.cell (p:=⟨z,1,none⟩) U).trans aF;have ch:=I' (i:=1) z5;have av:=y' z5;have ax:=y' ((i' G).trans (H.mono (i' G).size));clear H z5;simp only[Y',aq,au];generalize f 26=bI;generalize f 27=bJ;generalize f 28=bK;generalize f 29=bL;generalize f 30=bM;generalize f 31=bN;generalize f 32=bO;generalize f 33=bP;generalize f 34=bQ;go_simp;go_wp2;refine⟨⟨2,by omega,by go_num,?_,?_⟩,by simp[intOf]⟩
    ·have:=ah' (j:=1) (v:= .int .i64 aP) (i' av);simpa using this
    ·exact(i' ax).setCell (p:=⟨z,1,none⟩) aX _
  ·simp at aG;go_wp2_with fail;refine ag' (by kernel_rfl)
    [fun v _=>v= .int .i64 2,fun v _=>v= .int .i64 2,fun v _=>v= .pointer (some ⟨z,2,none⟩),fun v _=>v= .int .i64 g2,fun v _=>v= .int .i64 ab,fun v _=>v= .pointer (some ⟨p,0,none⟩),fun v _=>v= .int .i64 2,fun v _=>v= .int .i64 bm,fun v _=>v= .int .i64 (min ab (bm:Int)),fun v _=>v= .int .i64 aR,fun v _=>v= .pointer (some ⟨z,2,none⟩),fun _ _=>True]
    [[(6,none)],[(6,none)],[(5,none),(27,some 1)],[(28,some 2)],[(7,none)],[(0,none)],[(6,none)],[(31,some 5),(32,some 6)],[(30,some 4),(33,some 7)],[(29,some 3),(34,some 8)],[(5,none),(26,some 0)],[(36,some 10),(35,some 9)]] [some 26,some 27,some 28,some 29,some 30,some 31,some 32,some 33,some 34,some 35,some 36,none] [false,false,false,false,false,false,false,false,false,false,false,false,false,false,false,false,false,false,false,false,false,false,false,false,false,false,true,true,true,true,true,true,true,true,true,true,true,false,false,false,false,false,false,false,false,false,false,false,false,false,false,false,false,false,false,false,false,false,false,false,false,false,false,false,false]
    11 _ rfl rfl (by kernel_rfl) (by kernel_rfl) (by kernel_rfl) (by kernel_rfl) (by kernel_rfl) (by kernel_rfl) ?_ ?_ ?_
   ·repeat' (first|exact O' _|exact X'|exact trivial|apply And.intro)
   ·refine⟨?_,?_,?_,?_,?_,?_,?_,?_,?_,?_,?_,trivial⟩;all_goals
     intro a' r F V;have aV:=(F.cell (p:=⟨z,2,none⟩) U).trans aG;have X:=y' (i' (aD r ((i' G).trans (F.mono (i' G).size))));clear F;simp only[M',List.getD_cons_zero,List.getD_cons_succ,Array.getD_eq_getD_getElem?]at V;try simp at V
     go_simp;try exact⟨_,rfl,Below.refl _ _,rfl⟩
     try exact Below.refl _ _
    all_goals first
     |(refine(i' X).mono ?_;rintro Q ap ⟨rfl,q,rfl⟩;exact⟨rfl,below_drewN (Below.refl _ _) q⟩)
     |(refine(i' X).mono ?_;rintro Q ap ⟨rfl,q,rfl⟩;exact⟨_,rfl,below_drewN (Below.refl _ _) q,rfl⟩)
     |skip
   ·intro f r H I;simp only[af',List.take]at I;have aq:=I.2.2.2.2.2.2.2.2.2.1;have au:=I.2.2.2.2.2.2.2.2.2.2.1;clear I;have z5:=(H.block _ U).trans (i' aY);have aV:=(H.cell (p:=⟨z,2,none⟩) U).trans aG;have ci:=I' (i:=2) z5;have av:=y' z5;have ax:=y' ((i' G).trans (H.mono (i' G).size));clear H z5;simp only[Y',aq,au];generalize f 26=bI;generalize f 27=bJ;generalize f 28=bK;generalize f 29=bL;generalize f 30=bM;generalize f 31=bN;generalize f 32=bO;generalize f 33=bP;generalize f 34=bQ;go_simp;go_wp2;refine⟨⟨3,by omega,by go_num,?_,?_⟩,by simp[intOf]⟩
    ·have:=ah' (j:=2) (v:= .int .i64 aR) (i' av);simpa using this
    ·exact(i' ax).setCell (p:=⟨z,2,none⟩) aX _
  ·simp at aE aF aG;have bV:=y' (i' (aM wr (i' G)));clear aM aB aC aD i0 bT i2 ah ai aj;go_wp2_with (go_at_call 117;refine(i' bV).mono ?_;rintro Q y ⟨rfl,bW⟩);go_ret;obtain⟨bX,bY,bZ,ca,cb,cc⟩:=bW;exact⟨rfl,bX,bY,bZ,ca,cb.behind (i' G),cc⟩
theorem qn' (G:aC' w p g a.ticks a.welcome a.fenced free sh st c) (hs:cv' op st a free pl) (Q:aQ' a st.opening g free sh pl) (e:Nat) (s q:Nat) (b:ByteArray) (ac:op.2≠1\/(a.says 4 e s q b 0+a.says 4 e s q b 1+a.says 4 e s q b 2)=0) (cn:e=a.epoch) (aI:a.welcome=true) (ap:s < 3) (aQ:0 < b.size) (aJ:∀i,i < 3->(a.fl i).base+(a.fl i).kept.length<=1000000000):
  Calls Tryz.prog 77 #[A' p, .agg #[.int .i64 4, .int .i64 e, .int .i64 s, .int .i64 q, .string b]] w fun Y D=>Y= .returned (.int .i64 0)/\bO' (eh' op (a.says 4 e s q b 0+a.says 4 e s q b 1+a.says 4 e s q b 2)) w D p (a.deliver 4 e s q b) c:=by
 have ay:=lt_of_block G.ks.blk;have bo:=fun D (J:Below w.heap.size w D)=>y' (bq' (G.below J));have bp:w.cell? ⟨p,24,none⟩=some (.bool true):=by rw[t' G.ks.blk,G.ks.aw,aI]
 obtain⟨z,aR⟩:∃z,z=a.ackSeq s q:=⟨_,rfl⟩;have bq:z=min q ((a.fl s).base+(a.fl s).kept.length):=by rw[aR];rfl
 obtain⟨n,az⟩:∃n,n=a.says 4 e s q b:=⟨_,rfl⟩;rw[<-az]at ac ⊢;have hd:a.deliver 4 e s q b=if z < (a.fl s).base then a else {a.drop n with fl:=Mod.upd (a.drop n).fl s {(a.drop n).fl s with held:=Mod.bitsOf z b[0].toNat 3}}:=by
  unfold Mod.Ag.deliver;rw[if_neg (by omega),if_neg (by omega),if_neg (by omega),if_neg (by omega),if_pos rfl,az,xc' aQ];have U:((s:Nat):Int).toNat=s:=rfl;rw[U,<-aR,aI];by_cases h:z < (a.fl s).base
  ·rw[if_pos (.inr h),if_pos h]
  ·rw[if_neg (by simp;omega),if_neg h]
 have aS:∀i,i < 3->n i<=(a.fl i).kept.length:=fun i _=>by rw[az];exact gs' _ _ _ _ _ _ _
 have aT:∀i,n i=if i=s then min (q - (a.fl s).base) (a.fl s).kept.length else 0:=fun i=>by
  rw[az];unfold Mod.Ag.says;rw[if_neg (by omega),if_neg (by omega)];by_cases h:i=s
  ·subst h;rw[if_pos ⟨rfl,rfl,aI⟩,if_pos rfl];unfold Mod.Ag.gone;congr 1;omega
  ·rw[if_neg (fun co=>h (by have:=co.2.1;omega)),if_neg h]
 have aU:z < (a.fl s).base->n 0+n 1+n 2=0:=fun h=>by
  have J:∀i,n i=0:=fun i=>by
   rw[aT i];split
   ·omega
   ·rfl
  rw[J 0,J 1,J 2]
 obtain⟨I,aV⟩:∃I:Nat->Nat,I=fun i=>if i=s then z else(a.fl i).base:=⟨_,rfl⟩
 have aA:¬z < (a.fl s).base->∀D,Below w.heap.size w D->Hid (Calls Tryz.prog 117 #[A' p, .agg #[.int .i64 (I 0), .int .i64 (I 1), .int .i64 (I 2)]] D fun Y cp=>Y= .returned (.int .i64 0)/\bO' (eh' op (n 0+n 1+n 2)) D cp p (a.drop n) c):=fun aB D J=>by
  have br:∀i,i < 3->I i=(a.fl i).base+n i:=fun i hi=>by
   rw[aV,aT i];show(if i=s then z else(a.fl i).base)= _;by_cases h:i=s
   ·subst h;rw[if_pos rfl,if_pos rfl];omega
   ·rw[if_neg h,if_neg h];rfl
  refine y' (ly' (G.below J) hs (fun i hi=>by have:=aJ i hi;omega) Q n I ac aS br (fun i hi=>?_));have:=aJ i hi;have:=aS i hi;rw[br i hi];omega
 have aW:=fun D (J:Below w.heap.size w D)=>cZ' (G.below J) Q ap (Q.bs s ap);have bt:w.cell? ⟨p,1,none⟩=some (.int .i64 (a.fl 0).base):=by rw[t' G.ks.blk,<-Q.bs 0 (by omega)];exact G.ks.ag 0 (by omega)
 have bu:w.cell? ⟨p,2,none⟩=some (.int .i64 (a.fl 1).base):=by rw[t' G.ks.blk,<-Q.bs 1 (by omega)];exact G.ks.ag 1 (by omega)
 have bw:w.cell? ⟨p,3,none⟩=some (.int .i64 (a.fl 2).base):=by rw[t' G.ks.blk,<-Q.bs 2 (by omega)];exact G.ks.ag 2 (by omega)
 have aX:w.cell? ⟨p,1+s,none⟩=some (.int .i64 (a.fl s).base):=by rw[t' G.ks.blk,<-Q.bs s ap];exact G.ks.ag s ap
 obtain⟨bz,ak⟩:∃v,v=(a.fl s).base+(a.fl s).kept.length:=⟨_,rfl⟩;rw[<-ak]at aW bq;have cq:=fun D J=>y' (aW D J);have cV:min (q:Int) (bz:Int)=(z:Int):=by omega
 have bA:z<=1000000000:=by have:=aJ s ap;omega
 have aY:=fun D=>y' (gE' z bA b aQ D);obtain⟨bits,aZ⟩:∃l,l=Mod.bitsOf z b[0].toNat 3:=⟨_,rfl⟩;have bB:bits.length<=3:=by rw[aZ];exact cY' _ _ _
 rw[<-aZ]at hd aY;obtain⟨ep,bC⟩:∃ep,ep=a.epoch:=⟨_,rfl⟩;have bD:st.opening=ep:=by rw[bC];exact Q.ep
 rw[bD]at bo;have cW:((e:Int) != (ep:Int))=false:=by simp;omega
 obtain⟨bE,bF⟩:∃bE,bE=a.deliver 4 e s q b:=⟨_,rfl⟩;rw[<-bF]at hd ⊢;obtain⟨a1,bG⟩:∃a1,a1=a.drop n:=⟨_,rfl⟩;rw[<-bG]at hd aA;have bH:=y' hd;have bI:=y' (cK' w #[.int .i64 4, .int .i64 e, .int .i64 s, .int .i64 q, .string b]);obtain⟨bs,ba⟩:∃v,v=(a.fl s).base:=⟨_,rfl⟩;rw[<-ba]at aX aA aU;have cr:=y' aU;have bJ: #[Value.int .i64 (I 0), .int .i64 (I 1), .int .i64 (I 2)]=(#[Value.int .i64 (a.fl 0).base, .int .i64 (a.fl 1).base, .int .i64 (a.fl 2).base]:Array Value).setIfInBounds s (.int .i64 z):=by
  rw[aV];obtain rfl|rfl|rfl:s=0\/s=1\/s=2:=by omega
  all_goals simp
 have bK:=y' bJ;have bL:=y' ba;have cs:=y' (bU' G hs Q);have cX:(0:Int)<=(s:Int):=by omega
 have cY:(s:Int) < 3:=by omega
 generalize (a.fl 0).base=g0 at *;generalize (a.fl 1).base=g1 at *;generalize (a.fl 2).base=g2 at *;obtain⟨cu,bM⟩:∃x,x=I 0:=⟨_,rfl⟩;obtain⟨cv,bN⟩:∃x,x=I 1:=⟨_,rfl⟩;obtain⟨cw,bO⟩:∃x,x=I 2:=⟨_,rfl⟩;rw[<-bM,<-bN,<-bO]at aA bK;have cx:=y' aA;have cy:=y' (fun h=>absurd (G.lt _ h) (by omega):¬PaU p c w.heap.size);clear aU G Q hs ac az hd aS aT aV aW bD bC bF bG cn aI aJ aR bq ak aZ ba bJ bM bN bO aA aQ bA;unfold A' at *;go_enter Tryz.func77,Tryz.ntmps77;go_upto_region 1 with fail;refine H' (bg' w #[.int .i64 4, .int .i64 e, .int .i64 s, .int .i64 q, .string b]) (i' bI) ?_;clear bI;intro x r;have bP:=t' (i:=1) r.box;simp at bP;have cz:=(r.bel.cell (p:=⟨p,24,none⟩) ay).trans bp;have bQ:=fun n=>y' (i' (bo (x.drewN n) (r.drewN n).bel));have F:=y' r;clear r bp;go_quiet (first|(go_at_call 52;exact Calls.quiet_of_same (i' (bQ _))));go_upto_region 3 with fail;refine H' (bg' w #[.int .i64 4, .int .i64 e, .int .i64 s, .int .i64 q, .string b]) ((i' F).drewN _) ?_;clear F bP bQ cz;intro x r;have H:=t' (i:=2) r.box;have bb:=t' (i:=3) r.box;simp at H bb;have aC:=r.lt;have F:=y' r;clear r;refine cz' (by kernel_rfl)
  [fun v _=>v= .pointer (some ⟨w.heap.size,3,none⟩),fun v _=>v= .int .i64 q,fun v _=>v= .pointer (some ⟨p,0,none⟩),fun v _=>v= .pointer (some ⟨w.heap.size,2,none⟩),fun v _=>v= .int .i64 s,fun v _=>v= .int .i64 bz,fun v _=>v= .int .i64 z,fun v _=>v= .int .i64 z]
  [[(3,none)],[(23,some 0)],[(0,none)],[(3,none)],[(26,some 3)],[(25,some 2),(27,some 4)],[(24,some 1),(28,some 5)],[(29,some 6)]] [some 23,some 24,some 25,some 26,some 27,some 28,some 29,some 5] [false,false,false,false,false,true,false,false,false,false,false,false,false,false,false,false,false,false,false,false,false,false,false,true,true,true,true,true,true,true,false,false,false,false,false,false,false,false,false,false,false,false,false,false,false,false,false,false,false,false,false,false,false,false,false,false,false,false,false,false,false,false,false,false,false,false,false,false,false,false,false,false,false,false,false,false]
  (by kernel_rfl) (by kernel_rfl) (by kernel_rfl) (by kernel_rfl) ?_ ?_ ?_
 ·repeat' (first|exact O' _|exact trivial|apply And.intro)
 ·refine⟨?_,?_,?_,?_,?_,?_,?_,?_,trivial⟩;all_goals
   intro a' D M bR;have bc:=(M.cell (p:=⟨w.heap.size,2,none⟩) aC).trans H;have cZ:=(M.cell (p:=⟨w.heap.size,3,none⟩) aC).trans bb;have bS:=y' (i' (cq D ((i' F).bel.trans (M.mono (i' F).bel.size))));clear M;simp only[M',List.getD_cons_zero,List.getD_cons_succ,Array.getD_eq_getD_getElem?]at bR;try simp at bR
   go_simp;try exact Below.refl _ _
  all_goals first
   |exact⟨rfl,Below.refl _ _⟩
   |exact⟨_,rfl,Below.refl _ _,rfl⟩
   |(refine(i' bS).mono ?_;rintro Y be ⟨rfl,k,rfl⟩;exact⟨rfl,below_drewN (Below.refl _ _) k⟩)
   |(refine(i' bS).mono ?_;rintro Y be ⟨rfl,k,rfl⟩;exact⟨_,rfl,below_drewN (Below.refl _ _) k,rfl⟩)
   |skip
 ·intro f D M bf;simp only[af']at bf;have cA:=bf.2.2.2.2.2.2.2.1;clear bf;have aq:=y' ((i' F).below M);clear M;simp only[Y',cA];generalize f 23=db;generalize f 24=dc;generalize f 25=dd;generalize f 26=de;generalize f 27=df;generalize f 28=dg;generalize f 29=dh;go_upto_region 4 with fail;refine H' (bg' w #[.int .i64 4, .int .i64 e, .int .i64 s, .int .i64 q, .string b]) (i' aq) ?_;clear aq F H bb aC;intro x r;have H:=t' (i:=2) r.box;simp at H;have ds:=(r.bel.cell (p:=⟨p,1+s,none⟩) ay).trans aX;have F:=y' r;clear r aX;by_cases aB:z < bs
  ·have cB:(z:Int) < (bs:Int):=by omega
   go_quiet (fail)
   go_wp2;go_ret;refine⟨rfl,?_⟩;rw[i' bH,<-i' bL,if_pos aB];rw[(i' cr) aB,dc'];exact(i' cs).below (((i' F).drewN _).bel)
  ·have cB:¬ (z:Int) < (bs:Int):=by omega
   go_quiet (fail)
   go_upto_region 6 with fail
   refine H' (bg' w #[.int .i64 4, .int .i64 e, .int .i64 s, .int .i64 q, .string b]) ((i' F).drewN _) ?_;clear F H ds;intro x r;have H:=t' (i:=2) r.box;simp at H;have cC:=(r.bel.cell (p:=⟨p,1,none⟩) ay).trans bt;have cD:=(r.bel.cell (p:=⟨p,2,none⟩) ay).trans bu;have cE:=(r.bel.cell (p:=⟨p,3,none⟩) ay).trans bw;have aC:=r.lt;have F:=y' r;obtain⟨ad,bg⟩:∃ad,ad=x.heap.size:=⟨_,rfl⟩;have bT:=y' bg;have cF:w.heap.size < ad:=by omega
   clear r bt bu bw;go_upto_region 7 with fail;rw[<-bg];clear bg;refine H' (fun y=>y.heap[ad]? =some (.cells #[.int .i64 g0, .int .i64 g1, .int .i64 g2] 100 (0,0))/\bg' w #[.int .i64 4, .int .i64 e, .int .i64 s, .int .i64 q, .string b] y) ?_ ?_
   ·rw[i' bT];exact⟨heap_alloc_new _ _,(i' F).below ((Below.refl _ _).alloc (Nat.le_refl _) _)⟩
   clear F bT H cC cD cE aC;rintro y ⟨O,r⟩;have H:=t' (i:=2) r.box;simp at H;have cG:=I' (i:=s) O;obtain⟨di,cH⟩:∃v:Nat,y.cell? ⟨ad,s,none⟩=some (.int .i64 v):=by
    rw[t' O];obtain rfl|rfl|rfl:s=0\/s=1\/s=2:=by omega
    ·exact⟨g0,rfl⟩
    ·exact⟨g1,rfl⟩
    ·exact⟨g2,rfl⟩
   have bU:=y' (And.intro O r);clear O r;go_upto_region 8 with fail;refine H' (fun y=>y.heap[ad]? =some (.cells #[.int .i64 cu, .int .i64 cv, .int .i64 cw] 100 (0,0))/\bg' w #[.int .i64 4, .int .i64 e, .int .i64 s, .int .i64 q, .string b] y) ?_ ?_
   ·obtain⟨O,r⟩:=i' bU;have cI:=S' y ad s (.int .i64 z);refine⟨?_,⟨cI.blk r.box (by omega),r.bel.setCell (p:=⟨ad,s,none⟩) (Nat.le_of_lt cF) _⟩⟩;rw[i' bK];exact ah' O
   clear bU H cG cH;rintro y ⟨O,r⟩;have bV:=t' (i:=0) O;have bW:=t' (i:=1) O;have bc:=t' (i:=2) O;have H:=t' (i:=2) r.box;simp at bV bW bc H;have bX:=y' (i' ((i' cx) aB y r.bel));have F:=y' r;clear O r;go_upto_region 11 with (go_at_call 117;refine(i' bX).mono ?_;rintro Y D ⟨rfl,cJ⟩);obtain⟨aK,aL,aD,cK,aM,⟨c1,V,Z,ah,ai,aj⟩,bY,bZ⟩:=cJ;have M:=Z.blk (i' F).box (i' cy);have ca:=aA'.behind (w:=w) (⟨c1,V,Z,ah,ai,aj⟩:aA' y D p aK a1.ticks a1.welcome a1.fenced aL aD aM c) (i' F).bel;have H:=t' (i:=2) M;simp at H;have aq:=y' (And.intro M ca);have cb:=y' (And.intro bY bZ);clear V Z ah ai aj bY bZ M ca F bX bV bW bc;go_quiet (fail);go_upto_region 12 with fail;refine H' (fun y=>y.heap[w.heap.size]? =some (.cells #[.int .i64 4, .int .i64 e, .int .i64 s, .int .i64 q, .string b] 63 (0,0))/\aA' w y p aK a1.ticks a1.welcome a1.fenced aL aD aM c) ?_ ?_
   ·exact⟨(i' aq).1,(i' aq).2.below (below_drewN (Below.refl _ _) _)⟩
   clear aq H;rintro x ⟨au,c1,V,Z,ah,ai,aj⟩;have bh:=y' (la' (V.shAt (i:=s * 3+2) (by omega)));rw[show 4+(s * 3+2) * 2=4+s * 6+4 by omega]at bh;have cc:=y' (And.intro au (And.intro V (And.intro Z (And.intro ah (And.intro ai aj)))));clear au V Z ah ai aj;go_upto_region 13 with (go_at_call 119;refine(i' bh).mono ?_;rintro Y be ⟨rfl,U⟩);rw[show 4+s * 6+4=4+(s * 3+2) * 2 by omega]at U;obtain⟨au,V,Z,ah,ai,aj⟩:=i' cc;have cd:=cR' V au (by decide) (by decide) (by decide) (by decide) (by decide) (by decide) (by decide);have ce:=U.2.blk au (fun h=>cd (.inl (h.elim .inl (fun h=> .inr (.inr ⟨s * 3+2,by omega,h⟩)))));have cL:=eq' Z ah ai aj (cJ' V (by omega) U);have cM:=t' (i:=4) ce;simp at cM;clear au V Z ah ai aj cd U cc bh ce;obtain⟨c2,aE,aN,aO,s1,aP⟩:=cL;have cN:=y' (And.intro aE (And.intro aN (And.intro aO (And.intro s1 aP))));clear aE aN aO s1 aP;have cf:=y' (i' (aY be));clear aY;obtain⟨m,bi⟩:∃m,m=bits.length:=⟨_,rfl⟩;rw[<-bi]at cf bB;have bj:=y' bi;clear bi;go_wp2_with (go_at_call 120;refine(i' cf).mono ?_;rintro Y z3 ⟨v,rfl,aF,ak⟩;obtain⟨cg,cap,rfl,_⟩:=(aq' aF).shape;replace aF:=y' aF;replace ak:=y' ak);go_loopw[10,67] (fun _ i wr=>∃t:Nat,t<=m/\i= .int .i64 t/\as' wr 3 1 (.slice cg m cap) m (J' bits)/\∃aG,aC' wr p aK a1.ticks a1.welcome a1.fenced aL (fun j=>if j=s * 3+2 then(bits.take t).foldl (fun l n=>bb' l n cQ') []else aD j) aM aG/\Far (PaU p c) w wr/\(∀k,PaU p aG k->PaU p c k\/w.heap.size<=k)/\aG.s=c.s/\aG.rv=c.rv/\(∀g,(Value.slice cg m cap).ownBlock=some g->¬PaU p aG g)) (fun _ i _=>m - (intOf i).toNat)
   case atStart=>obtain⟨aE,aN,aO,s1,aP⟩:=i' cN;refine⟨0,by omega,rfl,aq' (i' aF),c2,aE.below (i' ak),aN.trans (C' (E:=PaU p c) (i' ak)) (fun _ _ h=>h),aO,s1,aP,fun g av hu=>?_⟩;have h1:=(World.ownsRow.lt (i' aF) g av).1;have h2:=aE.lt g hu;omega
   case round=>
    obtain⟨t,dj,rfl,ao,c3,X,aa,ab,u1,u2,ax⟩:=hrel;by_cases ch:t < m
    ·obtain⟨dl,dm,bk,_,_,ci⟩:=ao.shape;injection bk with bk _ cO;subst bk cO;obtain⟨dq,dr,rfl,cj⟩:=ci (by omega);obtain⟨aH,bl⟩:∃aH,bits[t]? =some aH:=⟨bits[t]'(by have:=i' bj;omega),List.getElem?_eq_getElem _⟩
     have r0:=(cj t (by omega));rw[show(J' bits)[t]? =some (.int .i64 aH) by simp[J',bl]]at r0;have ck:bits.take (t+1)=bits.take t++[aH]:=by rw[List.take_add_one,bl];rfl
     have cl:((bits.take t).foldl (fun l n=>bb' l n cQ') []).length < 1000:=by have:=no' (bits.take t);have:=List.length_take_le t bits;omega
     have bm:=y' (vb' (X.shAt (i:=s * 3+2) (by omega)) (by rw[if_pos rfl];exact cl) aH);rw[if_pos rfl,<-ff',<-ck]at bm;rw[show 4+(s * 3+2) * 2=4+s * 6+4 by omega]at bm;have dt:(0:Int)<=(t:Int):=by omega
     have du:(t:Int) < (m:Int):=by omega
     have bn:=y' (And.intro ao (And.intro X (And.intro aa (And.intro ab (And.intro u1 (And.intro u2 ax))))));clear ao X aa ab u1 u2 ax ci cj ck cl bl;go_wp2_with (go_at_call 121;refine(i' bm).mono ?_;rintro Y z4 ⟨rfl,U⟩);rw[show 4+s * 6+4=4+(s * 3+2) * 2 by omega]at U;obtain⟨ao,X,aa,ab,u1,u2,ax⟩:=i' bn;obtain⟨c4,cP,cQ,cm,cR,cS⟩:=cJ' X (by omega) U;have cT:∀k,(k=p\/ShU (c3.nv (s * 3+2)) (c3.mv (s * 3+2)) k)->PaU p c3 k:=fun k ac=>ac.elim (fun h=> .inl (.inl h)) (fun h=> .inl (.inr (.inr ⟨s * 3+2,by omega,h⟩)));refine⟨⟨t+1,by omega,rfl,ao.far U.2 (fun g av h=>ax g av (cT g h)),c4,?_,aa.trans cQ (fun k ac hu=>(ab k hu).elim id (fun h=>by omega)),fun k ac=>?_,cR.trans u1,cS.trans u2,fun g av hu=>?_⟩,?_⟩
     ·rw[show(fun j=>if j=s * 3+2 then(bits.take (t+1)).foldl (fun l n=>bb' l n cQ') []else aD j)=(fun j=>if j=s * 3+2 then(bits.take (t+1)).foldl (fun l n=>bb' l n cQ') []else if j=s * 3+2 then(bits.take t).foldl (fun l n=>bb' l n cQ') []else aD j) by
       funext j;by_cases h:j=s * 3+2
       ·rw[if_pos h,if_pos h]
       ·rw[if_neg h,if_neg h,if_neg h]]
      exact cP
     ·rcases cm k ac with h|h
      ·exact ab k h
      ·exact .inr (Nat.le_trans aa.size h)
     ·rcases cm g hu with h|h
      ·exact ax g av h
      ·have:=ao.lt g av;omega
     ·simp[intOf];omega
    ·have e:t=m:=by omega
     have dv:¬ (t:Int) < (m:Int):=by omega
     have bn:=y' (And.intro X (And.intro aa (And.intro ab (And.intro u1 u2))));have cU:=y' (And.intro e ch);clear ao X aa ab u1 u2 ax e ch;go_wp2;go_ret;refine⟨rfl,?_⟩;rw[i' bH,<-i' bL,if_neg aB];obtain⟨X,aa,ab,u1,u2⟩:=i' bn;rw[show bits.take t=bits by rw[(i' cU).1,i' bj];exact List.take_length]at X;exact⟨aK,aL,_,cK,aM,⟨c3,X,aa,ab,u1,u2⟩,(i' cb).1.same (fun i _=>qm' _ _ _ i),tY' (i' cb).2 ap bits (by rw[<-i' bj];exact bB)⟩
theorem oA' (F:aC' w p g a.ticks a.welcome a.fenced free sh st c) (hs:cv' op st a free pl) (J:aQ' a st.opening g free sh pl) (e:Nat) (s q:Nat) (b:ByteArray) (aC:op.2=1) (ab:0 < (a.says 4 e s q b 0+a.says 4 e s q b 1+a.says 4 e s q b 2)) (bi:e=a.epoch) (ac:a.welcome=true) (X:s < 3) (ah:0 < b.size) (ai:∀i,i < 3->(a.fl i).base+(a.fl i).kept.length<=1000000000):
  Calls Tryz.prog 77 #[A' p, .agg #[.int .i64 4, .int .i64 e, .int .i64 s, .int .i64 q, .string b]] w fun V D=>V= .returned (.int .i64 4)/\fp' op.1 w D p a c:=by
 have Y:=lt_of_block F.ks.blk;have aD:=fun D (M:Below w.heap.size w D)=>y' (bq' (F.below M));have aE:w.cell? ⟨p,24,none⟩=some (.bool true):=by rw[t' F.ks.blk,F.ks.aw,ac]
 obtain⟨z,aj⟩:∃z,z=a.ackSeq s q:=⟨_,rfl⟩;have aF:z=min q ((a.fl s).base+(a.fl s).kept.length):=by rw[aj];rfl
 obtain⟨n,Z⟩:∃n,n=a.says 4 e s q b:=⟨_,rfl⟩;rw[<-Z]at ab;have hd:a.deliver 4 e s q b=if z < (a.fl s).base then a else {a.drop n with fl:=Mod.upd (a.drop n).fl s {(a.drop n).fl s with held:=Mod.bitsOf z b[0].toNat 3}}:=by
  unfold Mod.Ag.deliver;rw[if_neg (by omega),if_neg (by omega),if_neg (by omega),if_neg (by omega),if_pos rfl,Z,xc' ah];have bj:((s:Nat):Int).toNat=s:=rfl;rw[bj,<-aj,ac];by_cases h:z < (a.fl s).base
  ·rw[if_pos (.inr h),if_pos h]
  ·rw[if_neg (by simp;omega),if_neg h]
 have aG:∀i,i < 3->n i<=(a.fl i).kept.length:=fun i _=>by rw[Z];exact gs' _ _ _ _ _ _ _
 have ak:∀i,n i=if i=s then min (q - (a.fl s).base) (a.fl s).kept.length else 0:=fun i=>by
  rw[Z];unfold Mod.Ag.says;rw[if_neg (by omega),if_neg (by omega)];by_cases h:i=s
  ·subst h;rw[if_pos ⟨rfl,rfl,ac⟩,if_pos rfl];unfold Mod.Ag.gone;congr 1;omega
  ·rw[if_neg (fun bk=>h (by have:=bk.2.1;omega)),if_neg h]
 have ao:z < (a.fl s).base->n 0+n 1+n 2=0:=fun h=>by
  have M:∀i,n i=0:=fun i=>by
   rw[ak i];split
   ·omega
   ·rfl
  rw[M 0,M 1,M 2]
 obtain⟨I,ap⟩:∃I:Nat->Nat,I=fun i=>if i=s then z else(a.fl i).base:=⟨_,rfl⟩
 have ad:¬z < (a.fl s).base->∀D,Below w.heap.size w D->Hid (Calls Tryz.prog 117 #[A' p, .agg #[.int .i64 (I 0), .int .i64 (I 1), .int .i64 (I 2)]] D fun V bl=>V= .returned (.int .i64 4)/\fp' op.1 D bl p a c):=fun aq D M=>by
  have aH:∀i,i < 3->I i=(a.fl i).base+n i:=fun i hi=>by
   rw[ap,ak i];show(if i=s then z else(a.fl i).base)= _;by_cases h:i=s
   ·subst h;rw[if_pos rfl,if_pos rfl];omega
   ·rw[if_neg h,if_neg h];rfl
  refine y' (lx' (F.below M) hs aC J I (fun i hi=>?_) (te' J aH ab));have:=ai i hi;have:=aG i hi;rw[aH i hi];omega
 have au:=fun D (M:Below w.heap.size w D)=>cZ' (F.below M) J X (J.bs s X);have aI:w.cell? ⟨p,1,none⟩=some (.int .i64 (a.fl 0).base):=by rw[t' F.ks.blk,<-J.bs 0 (by omega)];exact F.ks.ag 0 (by omega)
 have aJ:w.cell? ⟨p,2,none⟩=some (.int .i64 (a.fl 1).base):=by rw[t' F.ks.blk,<-J.bs 1 (by omega)];exact F.ks.ag 1 (by omega)
 have aK:w.cell? ⟨p,3,none⟩=some (.int .i64 (a.fl 2).base):=by rw[t' F.ks.blk,<-J.bs 2 (by omega)];exact F.ks.ag 2 (by omega)
 have av:w.cell? ⟨p,1+s,none⟩=some (.int .i64 (a.fl s).base):=by rw[t' F.ks.blk,<-J.bs s X];exact F.ks.ag s X
 obtain⟨aL,aM⟩:∃v,v=(a.fl s).base+(a.fl s).kept.length:=⟨_,rfl⟩;rw[<-aM]at au aF;have bm:=fun D M=>y' (au D M);have bS:min (q:Int) (aL:Int)=(z:Int):=by omega
 have aN:z<=1000000000:=by have:=ai s X;omega
 have bn:=fun D=>y' (gE' z aN b ah D);obtain⟨bits,ax⟩:∃l,l=Mod.bitsOf z b[0].toNat 3:=⟨_,rfl⟩;have bT:bits.length<=3:=by rw[ax];exact cY' _ _ _
 rw[<-ax]at hd bn;obtain⟨ep,aO⟩:∃ep,ep=a.epoch:=⟨_,rfl⟩;have aP:st.opening=ep:=by rw[aO];exact J.ep
 rw[aP]at aD;have bU:((e:Int) != (ep:Int))=false:=by simp;omega
 obtain⟨aQ,aR⟩:∃aQ,aQ=a.deliver 4 e s q b:=⟨_,rfl⟩;rw[<-aR]at hd;obtain⟨a1,aS⟩:∃a1,a1=a.drop n:=⟨_,rfl⟩;rw[<-aS]at hd;have bV:=y' hd;have aT:=y' (cK' w #[.int .i64 4, .int .i64 e, .int .i64 s, .int .i64 q, .string b]);obtain⟨bs,ay⟩:∃v,v=(a.fl s).base:=⟨_,rfl⟩;rw[<-ay]at av ad ao;have bo:=y' ao;have bp:=y' ab;have aU: #[Value.int .i64 (I 0), .int .i64 (I 1), .int .i64 (I 2)]=(#[Value.int .i64 (a.fl 0).base, .int .i64 (a.fl 1).base, .int .i64 (a.fl 2).base]:Array Value).setIfInBounds s (.int .i64 z):=by
  rw[ap];obtain rfl|rfl|rfl:s=0\/s=1\/s=2:=by omega
  all_goals simp
 have aV:=y' aU;have bW:=y' ay;have bX:=y' (bU' F hs J);have bY:(0:Int)<=(s:Int):=by omega
 have bZ:(s:Int) < 3:=by omega
 generalize (a.fl 0).base=g0 at *;generalize (a.fl 1).base=g1 at *;generalize (a.fl 2).base=g2 at *;obtain⟨bq,aW⟩:∃x,x=I 0:=⟨_,rfl⟩;obtain⟨br,aX⟩:∃x,x=I 1:=⟨_,rfl⟩;obtain⟨bt,aY⟩:∃x,x=I 2:=⟨_,rfl⟩;rw[<-aW,<-aX,<-aY]at ad aV;have bu:=y' ad;have ca:=y' (fun h=>absurd (F.lt _ h) (by omega):¬PaU p c w.heap.size);clear ao F J hs aC ab Z hd aG ak ap au aP aO aR aS bi ac ai aj aF aM ax ay aU aW aX aY ad ah aN;unfold A' at *;go_enter Tryz.func77,Tryz.ntmps77;go_upto_region 1 with fail;refine H' (bg' w #[.int .i64 4, .int .i64 e, .int .i64 s, .int .i64 q, .string b]) (i' aT) ?_;clear aT;intro x r;have aZ:=t' (i:=1) r.box;simp at aZ;have bw:=(r.bel.cell (p:=⟨p,24,none⟩) Y).trans aE;have ba:=fun n=>y' (i' (aD (x.drewN n) (r.drewN n).bel));have G:=y' r;clear r aE;go_quiet (first|(go_at_call 52;exact Calls.quiet_of_same (i' (ba _))));go_upto_region 3 with fail;refine H' (bg' w #[.int .i64 4, .int .i64 e, .int .i64 s, .int .i64 q, .string b]) ((i' G).drewN _) ?_;clear G aZ ba bw;intro x r;have H:=t' (i:=2) r.box;have az:=t' (i:=3) r.box;simp at H az;have aa:=r.lt;have G:=y' r;clear r;refine cz' (by kernel_rfl)
  [fun v _=>v= .pointer (some ⟨w.heap.size,3,none⟩),fun v _=>v= .int .i64 q,fun v _=>v= .pointer (some ⟨p,0,none⟩),fun v _=>v= .pointer (some ⟨w.heap.size,2,none⟩),fun v _=>v= .int .i64 s,fun v _=>v= .int .i64 aL,fun v _=>v= .int .i64 z,fun v _=>v= .int .i64 z]
  [[(3,none)],[(23,some 0)],[(0,none)],[(3,none)],[(26,some 3)],[(25,some 2),(27,some 4)],[(24,some 1),(28,some 5)],[(29,some 6)]] [some 23,some 24,some 25,some 26,some 27,some 28,some 29,some 5] [false,false,false,false,false,true,false,false,false,false,false,false,false,false,false,false,false,false,false,false,false,false,false,true,true,true,true,true,true,true,false,false,false,false,false,false,false,false,false,false,false,false,false,false,false,false,false,false,false,false,false,false,false,false,false,false,false,false,false,false,false,false,false,false,false,false,false,false,false,false,false,false,false,false,false,false]
  (by kernel_rfl) (by kernel_rfl) (by kernel_rfl) (by kernel_rfl) ?_ ?_ ?_
 ·repeat' (first|exact O' _|exact trivial|apply And.intro)
 ·refine⟨?_,?_,?_,?_,?_,?_,?_,?_,trivial⟩;all_goals
   intro a' D U bb;have bc:=(U.cell (p:=⟨w.heap.size,2,none⟩) aa).trans H;have cb:=(U.cell (p:=⟨w.heap.size,3,none⟩) aa).trans az;have be:=y' (i' (bm D ((i' G).bel.trans (U.mono (i' G).bel.size))));clear U;simp only[M',List.getD_cons_zero,List.getD_cons_succ,Array.getD_eq_getD_getElem?]at bb;try simp at bb
   go_simp;try exact Below.refl _ _
  all_goals first
   |exact⟨rfl,Below.refl _ _⟩
   |exact⟨_,rfl,Below.refl _ _,rfl⟩
   |(refine(i' be).mono ?_;rintro V bz ⟨rfl,k,rfl⟩;exact⟨rfl,below_drewN (Below.refl _ _) k⟩)
   |(refine(i' be).mono ?_;rintro V bz ⟨rfl,k,rfl⟩;exact⟨_,rfl,below_drewN (Below.refl _ _) k,rfl⟩)
   |skip
 ·intro f D U aA;simp only[af']at aA;have bA:=aA.2.2.2.2.2.2.2.1;clear aA;have bf:=y' ((i' G).below U);clear U;simp only[Y',bA];generalize f 23=cc;generalize f 24=cd;generalize f 25=ce;generalize f 26=cf;generalize f 27=cg;generalize f 28=ch;generalize f 29=ci;go_upto_region 4 with fail;refine H' (bg' w #[.int .i64 4, .int .i64 e, .int .i64 s, .int .i64 q, .string b]) (i' bf) ?_;clear bf G H az aa;intro x r;have H:=t' (i:=2) r.box;simp at H;have ds:=(r.bel.cell (p:=⟨p,1+s,none⟩) Y).trans av;have G:=y' r;clear r av;by_cases aq:z < bs
  ·exact absurd ((i' bo) aq) (by have:=i' bp;omega)
  ·have cj:¬ (z:Int) < (bs:Int):=by omega
   go_quiet (fail)
   go_upto_region 6 with fail
   refine H' (bg' w #[.int .i64 4, .int .i64 e, .int .i64 s, .int .i64 q, .string b]) ((i' G).drewN _) ?_;clear G H ds;intro x r;have H:=t' (i:=2) r.box;simp at H;have bB:=(r.bel.cell (p:=⟨p,1,none⟩) Y).trans aI;have bC:=(r.bel.cell (p:=⟨p,2,none⟩) Y).trans aJ;have bD:=(r.bel.cell (p:=⟨p,3,none⟩) Y).trans aK;have aa:=r.lt;have G:=y' r;obtain⟨Q,aB⟩:∃Q,Q=x.heap.size:=⟨_,rfl⟩;have bg:=y' aB;have bE:w.heap.size < Q:=by omega
   clear r aI aJ aK;go_upto_region 7 with fail;rw[<-aB];clear aB;refine H' (fun y=>y.heap[Q]? =some (.cells #[.int .i64 g0, .int .i64 g1, .int .i64 g2] 100 (0,0))/\bg' w #[.int .i64 4, .int .i64 e, .int .i64 s, .int .i64 q, .string b] y) ?_ ?_
   ·rw[i' bg];exact⟨heap_alloc_new _ _,(i' G).below ((Below.refl _ _).alloc (Nat.le_refl _) _)⟩
   clear G bg H bB bC bD aa;rintro y ⟨O,r⟩;have H:=t' (i:=2) r.box;simp at H;have bF:=I' (i:=s) O;obtain⟨ck,bG⟩:∃v:Nat,y.cell? ⟨Q,s,none⟩=some (.int .i64 v):=by
    rw[t' O];obtain rfl|rfl|rfl:s=0\/s=1\/s=2:=by omega
    ·exact⟨g0,rfl⟩
    ·exact⟨g1,rfl⟩
    ·exact⟨g2,rfl⟩
   have bh:=y' (And.intro O r);clear O r;go_upto_region 8 with fail;refine H' (fun y=>y.heap[Q]? =some (.cells #[.int .i64 bq, .int .i64 br, .int .i64 bt] 100 (0,0))/\bg' w #[.int .i64 4, .int .i64 e, .int .i64 s, .int .i64 q, .string b] y) ?_ ?_
   ·obtain⟨O,r⟩:=i' bh;have bH:=S' y Q s (.int .i64 z);refine⟨?_,⟨bH.blk r.box (by omega),r.bel.setCell (p:=⟨Q,s,none⟩) (Nat.le_of_lt bE) _⟩⟩;rw[i' aV];exact ah' O
   clear bh H bF bG;rintro y ⟨O,r⟩;have bI:=t' (i:=0) O;have bJ:=t' (i:=1) O;have bc:=t' (i:=2) O;have H:=t' (i:=2) r.box;simp at bI bJ bc H;have bK:=y' (i' ((i' bu) aq y r.bel));have G:=y' r;clear O r;go_wp2_with (go_at_call 117;refine(i' bK).mono ?_;rintro V D ⟨rfl,bL⟩);go_ret;obtain⟨bM,bN,bO,bP,bQ,bR⟩:=bL;exact⟨rfl,bM,bN,bO,bP,bQ.behind (i' G).bel,bR⟩
end
end Go.Proofs.YtamafdcnbcoegabGreat
