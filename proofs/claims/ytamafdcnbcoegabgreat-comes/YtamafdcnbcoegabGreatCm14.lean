/-
  Part 14 of a proof: D20, D21, D22.
-/
import Derived.Test.YtamafdcnbcoegabGreatCm13
set_option maxRecDepth 100000
set_option maxHeartbeats 40000000
namespace Go.Proofs.YtamafdcnbcoegabGreat
open Go.RowKit
theorem iw' (S:List UInt8) (F:S.length=64) (w:World):Calls Tryz.prog 159 #[.agg (bv S).toArray] w fun r w'=>
  ∃h:Mod.Hd,r= .returned (.tuple #[gI' h, .bool (Mod.headOk S)])/\(Mod.headOk S=true->h=Mod.headIs S)/\Below w.heap.size w w':=by
 by_cases z:S=aS'
 ·subst z;refine(my' w).mono ?_;rintro r y ⟨rfl,D⟩;have:=Mod.headOk_nought;rw[bV']at this;exact⟨Mod.hd0,by rw[this.1];rfl,fun _=>this.2.symm,D⟩
 ·refine(mK' S F z w).mono ?_;rintro r y ⟨h,rfl,h2,D⟩;refine⟨h,rfl,fun G=>?_,D⟩;rw[h2 G];unfold Mod.headIs;rw[bV',if_neg z]
theorem ix':(Tryz.prog.info? 150).map (·.size)=some 3:=by kernel_rfl
def vx' (r:Mod.Rc):Value:= .agg #[.int .i64 r.s, .int .i64 r.q, .string r.b]
theorem kv' (S:List UInt8) (ad:S.length=64) (aO:S≠aS') (last:Nat) (w:World):Calls Tryz.prog 162 #[.agg (bv S).toArray, .int .u32 last] w fun ah w'=>
  ∃h:Mod.Rc,ah= .returned (.tuple #[vx' h, .bool (Mod.recOk S last)])/\(Mod.recOk S last=true->h=Mod.rcOf S)/\Below w.heap.size w w':=by
 have bX:=fun y=>iY' (S:=S) (T:=aS') ad az' y;rw[decide_eq_false aO]at bX;have aI:Mod.recOk S last=((decide (Mod.lenOf S<=20) && (decide ((S.getD 12 0).toNat < 3) && (decide (1<=(Wire.numAt S 14).toNat) &&decide ((Wire.numAt S 14).toNat<=2147483647)))) && (Mod.isStamp (Mod.opOf S) && (decide (Mod.opOf S<=last) &&decide (Mod.sealR (Mod.opOf S) (Mod.ctOf S) (Mod.rcOf S)=S)))):=by unfold Mod.recOk;rw[bV',decide_eq_false aO,Bool.false_or];rfl
 have aJ:=fun(y:World) (h:y.heap[w.heap.size]? =some (.cells (bv S).toArray 214 (0,0)))=>y' (dY' S ad w.heap.size _ y h 14 50 50 (by omega) (by omega));rw[<-dd' S 14]at aJ;have be:=fun y=>y' (jY' S ad y);have bf:=Mod.opOf_lt S;have bg:=Mod.ctOf_lt S;have bY:=Wire.numAt_range S 14;have ai:=fun y=>y' (jZ' (Mod.opOf S) (Mod.ctOf S) y);have bh:(S.getD 13 0).toNat=Mod.lenOf S:=rfl;have aK:∀ (y:World) (j:Nat),j < 64->y.heap[w.heap.size]? =some (.cells (bv S).toArray 214 (0,0))->y.cell? ⟨w.heap.size,j,none⟩=some (.int .u8 (S.getD j 0).toNat):=fun y j hj h=>by rw[t' h,sT' (by omega)]
 have aP:=fun y h=>y' (aK y 12 (by omega) h);have aL:=fun y h=>y' (aK y 13 (by omega) h);rw[bh]at aL;have bi:Mod.rcOf S=⟨(S.getD 12 0).toNat,(Wire.numAt S 14).toNat,⟨((S.drop 18).take (Mod.lenOf S)).toArray⟩⟩:=rfl;have aQ:Mod.lenOf S<=20->(⟨((S.drop 18).take (Mod.lenOf S)).toArray⟩:ByteArray).size<=20:=fun h=>by simp[ByteArray.size];omega
 have aR:Mod.lenOf S<=20->∀ (y:World) (n cap:Nat),n=Mod.lenOf S->y.heap[w.heap.size]? =some (.cells (bv S).toArray 214 (0,0))->(convert 48 9 (.slice (some ⟨w.heap.size,18,none⟩) n cap)).run Tryz.prog y= .ok (.string ⟨((S.drop 18).take (Mod.lenOf S)).toArray⟩) y:=by intro hl y n cap bZ h;subst bZ;refine fv' (by simp;omega) (fun i hi=>?_);rw[aK y (18+i) (by omega) h];simp[List.getD_eq_getElem?_getD,hi,List.getElem?_drop]
 have aE:=fun(h3:(S.getD 12 0).toNat < 3) (hl:Mod.lenOf S<=20) (y:World)=>y' (fy' (Mod.opOf S) (Mod.ctOf S) (S.getD 12 0).toNat (Wire.numAt S 14).toNat ⟨((S.drop 18).take (Mod.lenOf S)).toArray⟩ y bf bg (by omega) (by omega) (aQ hl));have bj:Mod.sealR (Mod.opOf S) (Mod.ctOf S) (Mod.rcOf S)=Mod.sealB (Mod.opOf S) (Mod.ctOf S) (Mod.recIn (S.getD 12 0).toNat (Wire.numAt S 14).toNat (⟨((S.drop 18).take (Mod.lenOf S)).toArray⟩:ByteArray).data.toList):=rfl;have bk:Mod.lenOf S<=20->(Mod.sealR (Mod.opOf S) (Mod.ctOf S) (Mod.rcOf S)).length=64:=fun hl=>Mod.length_sealR (aQ hl);have aS:=fun(hl:Mod.lenOf S<=20) y=>iY' (S:=Mod.sealR (Mod.opOf S) (Mod.ctOf S) (Mod.rcOf S)) (T:=S) (bk hl) ad y;have cj:=(S.getD 12 0).toNat_lt;have ck:Mod.lenOf S < 256:=(S.getD 13 0).toNat_lt;rw[bi];rw[<-bj]at aE;clear bj bk aQ aK bh bi aO;obtain⟨b,r⟩:∃b:ByteArray,b=⟨((S.drop 18).take (Mod.lenOf S)).toArray⟩:=⟨_,rfl⟩;rw[<-r]at aR aE ⊢;clear r;obtain⟨T,bl⟩:∃T,T=Mod.sealR (Mod.opOf S) (Mod.ctOf S) (Mod.rcOf S):=⟨_,rfl⟩;rw[<-bl]at aE aS aI;clear bl;obtain⟨ok,bm⟩:∃ok,ok=Mod.recOk S last:=⟨_,rfl⟩;rw[<-bm]at aI ⊢;clear bm;have cl:(Wire.numAt S 14).toNat < 4294967296:=by omega
 clear bY;generalize (Wire.numAt S 14).toNat=q at *;generalize (S.getD 12 0).toNat=sm at *;generalize Mod.opOf S=o at *;generalize Mod.ctOf S=c at *;generalize Mod.lenOf S=G at *;have ca:IntKind.i64.wrap (G:Int)=(G:Int):=by rw[IntKind.wrap_i64];omega
 have aj:=y' aI;have aa:=y' aR;have ak:=y' aE;have ao:=y' aS;clear aI bf bg aR aE aS;go_enter Tryz.func162,Tryz.ntmps162;go_upto_region 1 with fail;refine H' (fun x=>x.heap[w.heap.size]? =some (.cells (bv S).toArray 214 (0,0))/\x.heap[w.heap.size+1]? =some (.cells #[.int .i64 0, .int .i64 0, .string ⟨#[]⟩] 150 (0,0))/\Below w.heap.size w x) (ca' _ _ _) ?_;rintro x ⟨h0,h1,bn⟩;have aM:=y' h0;have bo:=y' h1;have aT:=y' bn;have bp:=lt_of_block h1;clear h0 h1 bn;go_upto_region 3 with (first
  |(refine bW' rfl (.tmp 2) rfl w.heap.size rfl 214 S ad (i' aM) ?_)
  |(refine cb' rfl rfl ?_;go_simp))
 refine ag' (by kernel_rfl)
  [fun v _=>v= .pointer (some ⟨w.heap.size,13,none⟩),fun v _=>v= .int .u8 G,fun v _=>v= .int .i64 G,fun v _=>v= .slice (some ⟨w.heap.size,14,none⟩) 50 50,fun v _=>v= .int .u32 q,fun v _=>v= .agg (bv S).toArray,fun v _=>v= .agg #[.int .u32 o, .int .u64 c],
   fun v Z=>∃g,v= .pointer (some ⟨g,0,none⟩)/\w.heap.size+1 < g/\Z.heap[g]? =some (.cells #[.int .u32 0, .int .u64 0] 188 (0,0)),fun v _=>v= .int .i64 G,fun v _=>v= .int .u32 q,fun _ _=>True]
  [[(2,none)],[(14,some 0)],[(15,some 1)],[(2,none)],[(17,some 3)],[(2,none)],[(19,some 5)],[],[(16,some 2)],[(18,some 4)],[(8,some 7),(20,some 6)]] [some 14,some 15,some 16,some 17,some 18,some 19,some 20,some 8,some 6,some 7,none] [false,false,false,false,false,false,true,true,true,false,false,false,false,false,true,true,true,true,true,true,true,false,false,false,false,false,false,false,false,false,false,false,false,false,false,false,false,false,false,false,false,false,false,false,false,false,false,false,false,false,false,false,false,false,false,false,false,false,false,false,false,false,false]
  10 _ rfl rfl (by kernel_rfl) (by kernel_rfl) (by kernel_rfl) (by kernel_rfl) (by kernel_rfl) (by kernel_rfl) ?_ ?_ ?_
 ·repeat' (first|exact O' _|exact X'|exact(fun _ y Z h r=>h.imp fun g h=>⟨h.1,h.2.1,(r.block _ (lt_of_block h.2.2)).trans h.2.2⟩)|exact trivial|apply And.intro)
 ·refine⟨?_,?_,?_,?_,?_,?_,?_,?_,?_,?_,trivial⟩;all_goals
   intro a' y r z;have H:=(r.block _ (by omega:w.heap.size < x.heap.size)).trans (i' aM);have cb:=r.size;have cm:=i' (aL y H);have cc:=aJ y H;have ap:=y' H;clear r H aJ aP aL;simp only[M',List.getD_cons_zero,List.getD_cons_succ,Array.getD_eq_getD_getElem?]at z;try simp at z
  ·go_simp;first|exact Below.refl _ _|exact⟨_,rfl,Below.refl _ _,rfl⟩
  ·go_simp;first|exact Below.refl _ _|exact⟨_,rfl,Below.refl _ _,rfl⟩
  ·go_simp;first|exact Below.refl _ _|exact⟨_,rfl,Below.refl _ _,rfl⟩
  ·go_simp;first|exact Below.refl _ _|exact⟨_,rfl,Below.refl _ _,rfl⟩
  ·go_simp;refine(i' cc).mono ?_;rintro ah aq ⟨rfl,M⟩;first|exact M|exact⟨rfl,M⟩|exact⟨_,rfl,M,rfl⟩
  ·rw[if_pos (by rfl)];exact cw' (.tmp 2) rfl w.heap.size (by simp[Act.eval,z]) 214 S ad (i' ap) ⟨_,rfl,Below.refl _ _,rfl⟩
  ·go_simp;refine(i' (be y)).mono ?_;rintro ah aq ⟨rfl,M⟩;first|exact M|exact⟨rfl,M⟩|exact⟨_,rfl,M,rfl⟩
  ·go_simp;exact⟨_,rfl,(Below.refl _ _).alloc (Nat.le_refl _) _,_,rfl,by omega,heap_alloc_new _ _⟩
  ·go_simp;first|exact Below.refl _ _|exact⟨_,rfl,Below.refl _ _,rfl⟩
  ·go_simp;first|exact Below.refl _ _|exact⟨_,rfl,Below.refl _ _,rfl⟩
 ·intro f y Y F;simp only[af',List.take]at F;have bq:=F.2.2.2.2.2.2.1;obtain⟨O,br,cn,aU⟩:=F.2.2.2.2.2.2.2.1;have bt:=F.2.2.2.2.2.2.2.2.1;have aF:=F.2.2.2.2.2.2.2.2.2.1;have H:=(Y.block _ (by omega:w.heap.size < x.heap.size)).trans (i' aM);have Q:=(Y.block _ bp).trans (i' bo);have au:=y' ((i' aT).trans (Y.mono (i' aT).size));clear F Y;simp only[Y',bq,br,bt,aF];refine wp_store_row 188 (.tmp 8) (.tmp 20) rfl O #[.int .u32 o, .int .u64 c] (by simp[Act.eval]) (by simp[Act.eval]) 188 _ aU (by rw[lD'];rfl) (by simp) (by rw[Array.all_eq_true_iff_forall_mem];intro u hu;simp at hu;rcases hu with rfl|rfl <;> rfl) ?_;have bu:=setRow_heap y O _ #[.int .u32 o, .int .u64 c] 188 (0,0) aU;have hF:=aU' y O #[.int .u32 o, .int .u64 c];generalize f 14=co;generalize f 15=cp;generalize f 16=cq;generalize f 17=cr;generalize f 18=cs;generalize f 19=cu;generalize y.setRow O #[.int .u32 o, .int .u64 c]=Z at *;have z0:=hF.blk H (by omega);have ay:=hF.blk Q (by omega);have bw:=(i' au).trans (hF.below (i' au).size (fun k aN e=>by omega));clear hF H Q au aU bq br bt aF aM bo aT bp be aJ aL;have aV:=i' (aP Z z0);clear aP;have av:=y' z0;have ax:=y' bu;have ab:=y' bw;have az:=t' (i:=0) ay;have aA:=t' (i:=1) ay;have aB:=t' (i:=2) ay;simp at az aA aB;have cd:∀i,Z.frozen? ⟨w.heap.size+1,i,none⟩=false:=fun i=>I' ay;have aW:=y' ay;clear z0 bu bw ay;go_simp;go_upto_region 4 with fail;by_cases c1:(20:Int) < (G:Int)
  ·clear aa ak ao ai av ax;go_wp2;have I:ok=false:=by rw[i' aj,decide_eq_false (show ¬G<=20 by omega)];simp
   refine bodyPost_ret (v:= .tuple #[.agg #[.int .i64 0, .int .i64 0, .string ⟨#[]⟩], .bool false]) (by simp[results,Tryz.results162,go_sem,az,aA,aB]) rfl ⟨⟨0,0,⟨#[]⟩⟩,(by rw[I];rfl),(fun h=>(by rw[I]at h;cases h)),?_⟩;exact(((i' ab).setCell (p:=⟨w.heap.size+1,0,none⟩) (by simp) _).setCell (p:=⟨w.heap.size+1,1,none⟩) (by simp) _).setCell (p:=⟨w.heap.size+1,2,none⟩) (by simp) _
  ·by_cases c2:(3:Int)<=(sm:Int)
   ·clear aa ak ao ai av ax;go_wp2;have I:ok=false:=by rw[i' aj,decide_eq_false (show ¬sm < 3 by omega)];simp
    refine bodyPost_ret (v:= .tuple #[.agg #[.int .i64 0, .int .i64 0, .string ⟨#[]⟩], .bool false]) (by simp[results,Tryz.results162,go_sem,az,aA,aB]) rfl ⟨⟨0,0,⟨#[]⟩⟩,(by rw[I];rfl),(fun h=>(by rw[I]at h;cases h)),?_⟩;exact(((i' ab).setCell (p:=⟨w.heap.size+1,0,none⟩) (by simp) _).setCell (p:=⟨w.heap.size+1,1,none⟩) (by simp) _).setCell (p:=⟨w.heap.size+1,2,none⟩) (by simp) _
   ·by_cases c3:(q:Int) < 1
    ·clear aa ak ao ai av ax;go_wp2;have I:ok=false:=by rw[i' aj,decide_eq_false (show ¬1<=q by omega)];simp
     refine bodyPost_ret (v:= .tuple #[.agg #[.int .i64 0, .int .i64 0, .string ⟨#[]⟩], .bool false]) (by simp[results,Tryz.results162,go_sem,az,aA,aB]) rfl ⟨⟨0,0,⟨#[]⟩⟩,(by rw[I];rfl),(fun h=>(by rw[I]at h;cases h)),?_⟩;exact(((i' ab).setCell (p:=⟨w.heap.size+1,0,none⟩) (by simp) _).setCell (p:=⟨w.heap.size+1,1,none⟩) (by simp) _).setCell (p:=⟨w.heap.size+1,2,none⟩) (by simp) _
    ·by_cases c4:(2147483647:Int) < (q:Int)
     ·clear aa ak ao ai av ax;go_wp2;have I:ok=false:=by rw[i' aj,decide_eq_false (show ¬q<=2147483647 by omega)];simp
      refine bodyPost_ret (v:= .tuple #[.agg #[.int .i64 0, .int .i64 0, .string ⟨#[]⟩], .bool false]) (by simp[results,Tryz.results162,go_sem,az,aA,aB]) rfl ⟨⟨0,0,⟨#[]⟩⟩,(by rw[I];rfl),(fun h=>(by rw[I]at h;cases h)),?_⟩;exact(((i' ab).setCell (p:=⟨w.heap.size+1,0,none⟩) (by simp) _).setCell (p:=⟨w.heap.size+1,1,none⟩) (by simp) _).setCell (p:=⟨w.heap.size+1,2,none⟩) (by simp) _
     ·have aX:G<=20:=by omega
      have aa:=y' ((i' aa) aX);have ak:=y' ((i' ak) (by omega) aX);have ao:=y' ((i' ao) aX);go_upto_region 6 with fail;have ce:=lt_of_block (i' ax);have cf:=lt_of_block (i' aW);have aq:IntKind.i64.wrap (18+(G:Int))=18+(G:Int):=by rw[IntKind.wrap_i64];omega
      have cg:IntKind.i64.wrap (sm:Int)=(sm:Int):=by rw[IntKind.wrap_i64];omega
      have ch:IntKind.i64.wrap (q:Int)=(q:Int):=by rw[IntKind.wrap_i64];omega
      have ci:(18:Int)<=18+(G:Int):=by omega
      have i2:18+(G:Int)<=64:=by omega
      have i3:(0:Int)<=18+(G:Int):=by omega
      have i4:(18+(G:Int)).toNat=18+G:=by omega
      refine ag' (by kernel_rfl)
       [fun v _=>v= .pointer (some ⟨w.heap.size,12,none⟩),fun v _=>v= .int .u8 sm,fun v _=>v= .int .i64 sm,fun v _=>v= .int .u32 q,fun v _=>v= .int .i64 q,fun v _=>v= .int .i64 G,fun v _=>v= .int .i64 (18+(G:Int)),fun v _=>v= .slice (some ⟨w.heap.size,18,none⟩) G 46,fun v _=>v= .string b,fun v _=>v= .agg #[.int .i64 sm, .int .i64 q, .string b],
        fun v y=>∃g,v= .pointer (some ⟨g,0,none⟩)/\Z.heap.size<=g/\y.heap[g]? =some (.cells #[.int .i64 0, .int .i64 0, .string ⟨#[]⟩] 150 (0,0)),fun _ _=>True]
       [[(2,none)],[(37,some 0)],[(38,some 1)],[(7,none)],[(40,some 3)],[(6,none)],[(42,some 5)],[(2,none),(43,some 6)],[(44,some 7)],[(39,some 2),(41,some 4),(45,some 8)],[],[(9,some 10),(46,some 9)]] [some 37,some 38,some 39,some 40,some 41,some 42,some 43,some 44,some 45,some 46,some 9,none] [false,false,false,false,false,false,false,false,false,true,false,false,false,false,false,false,false,false,false,false,false,false,false,false,false,false,false,false,false,false,false,false,false,false,false,false,false,true,true,true,true,true,true,true,true,true,true,false,false,false,false,false,false,false,false,false,false,false,false,false,false,false,false]
       11 _ rfl rfl (by kernel_rfl) (by kernel_rfl) (by kernel_rfl) (by kernel_rfl) (by kernel_rfl) (by kernel_rfl) ?_ ?_ ?_
      ·repeat' (first|exact O' _|exact X'|exact(fun _ y Z h r=>h.imp fun g h=>⟨h.1,h.2.1,(r.block _ (lt_of_block h.2.2)).trans h.2.2⟩)|exact(fun _ _ _ h _=>h)|exact trivial|apply And.intro)
      ·refine⟨?_,?_,?_,?_,?_,?_,?_,?_,?_,?_,?_,trivial⟩;all_goals
        intro a' y r z;have H:=(r.block _ (by omega:w.heap.size < Z.heap.size)).trans (i' av);have aV:=(r.cell (p:=⟨w.heap.size,12,none⟩) (by show w.heap.size < _;omega)).trans aV;have cb:=r.size;have ap:=y' H;clear r H;simp only[M',List.getD_cons_zero,List.getD_cons_succ,Array.getD_eq_getD_getElem?]at z;try simp at z
       iterate 7
        ·go_simp;first|exact Below.refl _ _|exact⟨_,rfl,Below.refl _ _,rfl⟩
       ·go_simp;first|exact Below.refl _ _|exact⟨_,rfl,Below.refl _ _,rfl⟩
       ·have cv:=(i' aa) y G 46 rfl (i' ap);go_simp;first|exact Below.refl _ _|exact⟨_,rfl,Below.refl _ _,rfl⟩
       ·go_simp;first|exact Below.refl _ _|exact⟨_,rfl,Below.refl _ _,rfl⟩
       ·go_simp;exact⟨_,rfl,(Below.refl _ _).alloc (Nat.le_refl _) _,_,rfl,by omega,heap_alloc_new _ _⟩
      ·intro f y Y F;simp only[af',List.take]at F;have aF:=F.2.2.2.2.2.2.2.2.2.1;obtain⟨J,bz,cw,aY⟩:=F.2.2.2.2.2.2.2.2.2.2.1;have H:=(Y.block _ (by omega:w.heap.size < Z.heap.size)).trans (i' av);have Q:=(Y.block _ cf).trans (i' aW);have U:=(Y.block _ ce).trans (i' ax);have au:=y' ((i' ab).trans (Y.mono (i' ab).size));have cx:=(i' ab).size;clear F Y;simp only[Y',aF,bz];refine wp_store_row 150 (.tmp 9) (.tmp 46) rfl J #[.int .i64 sm, .int .i64 q, .string b] (by simp[Act.eval]) (by simp[Act.eval]) 150 _ aY (by rw[ix'];rfl) (by simp) (by rw[Array.all_eq_true_iff_forall_mem];intro u hu;simp at hu;rcases hu with rfl|rfl|rfl <;> rfl) ?_;have bA:=setRow_heap y J _ #[.int .i64 sm, .int .i64 q, .string b] 150 (0,0) aY;have hF:=aU' y J #[.int .i64 sm, .int .i64 q, .string b];generalize f 37=cy;generalize f 38=cz;generalize f 39=cA;generalize f 40=cB;generalize f 41=cC;generalize f 42=cD;generalize f 43=cE;generalize f 44=cF;generalize f 45=cG;generalize y.setRow J #[.int .i64 sm, .int .i64 q, .string b]=u at *;have u0:=hF.blk H (by omega);have u1:=hF.blk Q (by omega);have u8:=hF.blk U (by omega);have bB:=(i' au).trans (hF.below (i' au).size (fun k aN e=>by omega));clear hF H Q U au aY aF bz av aW ax ab aV az aA aB cd aa ci i2 i3 i4 aq cg ch ca;have aZ:=y' u0;have ba:=y' u1;have bb:=y' u8;have bc:=y' bA;have aC:=y' bB;clear u0 u1 u8 bA bB;go_simp;go_upto_region 7 with fail;cases aD:Mod.isStamp o with
       |false=>
        refine Z' (by kernel_rfl)
         [fun v _=>v= .agg #[.int .i64 sm, .int .i64 q, .string b],fun v _=>v= .agg #[.int .u32 o, .int .u64 c],fun v _=>v= .bool false,fun v _=>v= .bool false,fun _ _=>True,fun _ _=>True,fun _ _=>True,fun _ _=>True,fun v _=>v= .bool false,fun v _=>v= .bool false,fun _ _=>True,fun _ _=>True,fun _ _=>True,fun _ _=>True,fun _ _=>True,fun v _=>v= .bool (false),fun _ y=>y.heap[w.heap.size+1]? =some (.cells #[.int .i64 sm, .int .i64 q, .string b] 150 (0,0)),fun v _=>v= .bool (false)]
         [[(9,none)],[(8,none)],[(48,some 1)],[(49,some 2)],[(8,none),(50,some 3)],[(51,some 4),(50,some 3)],[(1,none),(50,some 3)],[(52,some 5),(53,some 6),(50,some 3)],[(50,some 3),(54,some 7)],[(55,some 8)],[(8,none),(56,some 9)],[(9,none),(56,some 9)],[(57,some 10),(58,some 11),(56,some 9)],[(2,none),(56,some 9)],[(59,some 12),(60,some 13),(56,some 9)],[(56,some 9),(61,some 14)],[(4,none),(47,some 0)],[(62,some 15)]] [some 47,some 48,some 49,some 50,some 51,some 52,some 53,some 54,some 55,some 56,some 57,some 58,some 59,some 60,some 61,some 62,none,some 5] [false,false,false,false,false,true,false,false,false,false,false,false,false,false,false,false,false,false,false,false,false,false,false,false,false,false,false,false,false,false,false,false,false,false,false,false,false,false,false,false,false,false,false,false,false,false,false,true,true,true,true,true,true,true,true,true,true,true,true,true,true,true,true]
         [(16,fun k=>k=w.heap.size+1)]
         (by kernel_rfl) (by kernel_rfl) (by kernel_rfl) (by kernel_rfl) (by kernel_rfl) ?_ ?_ ?_ ?_
        ·repeat' (first|exact O' _|exact X'|exact bh' _ _|exact trivial|apply And.intro)
        ·repeat' (first|exact trivial|exact .inl rfl|exact .inr (.inr (an' _ _))|exact .inr (.inr (fun _ _ _ _ _=>trivial))|apply And.intro)
        ·refine⟨?_,?_,?_,?_,?_,?_,?_,?_,?_,?_,?_,?_,?_,?_,?_,?_,?_,?_,trivial⟩;all_goals
          intro a' y r z;have H:=r.blk (i' aZ) (ae' (by intro q D;simp at D;subst D;intro (e:w.heap.size=w.heap.size+1);omega));have U:=r.blk (i' bb) (ae' (by intro q D;simp at D;subst D;intro (e:O=w.heap.size+1);omega));have V:=r.blk (i' bc) (ae' (by intro q D;simp at D;subst D;intro (e:J=w.heap.size+1);omega));have bC:y.cell? ⟨O,0,none⟩=some (.int .u32 o):=t' (i:=0) U;have bD:y.cell? ⟨O,1,none⟩=some (.int .u64 c):=t' (i:=1) U;have r0:y.cell? ⟨J,0,none⟩=some (.int .i64 sm):=t' (i:=0) V;have bE:y.cell? ⟨J,1,none⟩=some (.int .i64 q):=t' (i:=1) V;have bF:y.cell? ⟨J,2,none⟩=some (.string b):=t' (i:=2) V;have ap:=y' H;clear H U V;simp only[M',List.getD_cons_zero,List.getD_cons_succ,Array.getD_eq_getD_getElem?]at z;try simp at z
         iterate 2
          ·clear r;go_simp;first|exact Far.refl _ _|exact⟨_,rfl,Far.refl _ _,rfl⟩
         ·clear r;go_simp;refine(i' (ai y)).mono ?_;rintro ah aq ⟨rfl,M⟩;exact⟨_,rfl,C' M,(by rw[aD];rfl)⟩
         ·clear r;go_simp;first|exact Far.refl _ _|exact⟨_,rfl,Far.refl _ _,rfl⟩
         iterate 4
          ·clear r;have ac:a'.tmps[50]? =some (.bool false):=eL' (by first|exact z|exact z.2|exact z.2.2);go_simp;try trivial
         iterate 2
          ·clear r;go_simp;first|exact Far.refl _ _|exact⟨_,rfl,Far.refl _ _,rfl⟩
         iterate 5
          ·clear r;have ac:a'.tmps[56]? =some (.bool false):=eL' (by first|exact z|exact z.2|exact z.2.2);go_simp;try trivial
         ·clear r;go_simp;first|exact Far.refl _ _|exact⟨_,rfl,Far.refl _ _,rfl⟩
         ·have Q:=r.blk (i' ba) (by rintro⟨q,D,g1,g2,bG⟩;simp at D;subst D;exact g1 rfl);clear r;rw[if_pos (by rfl)];refine wp_store_row 150 (.tmp 4) (.tmp 47) rfl (w.heap.size+1) #[.int .i64 sm, .int .i64 q, .string b] (by simp[Act.eval,z]) (by simp[Act.eval,z]) 150 _ Q (by rw[ix'];rfl) (by simp) (by rw[Array.all_eq_true_iff_forall_mem];intro u hu;simp at hu;rcases hu with rfl|rfl|rfl <;> rfl) ?_;exact⟨_,rfl,aj' (.head _) (aU' _ _ _),setRow_heap _ _ _ _ _ _ Q⟩
         ·clear r;go_simp;first|exact Far.refl _ _|exact⟨_,rfl,Far.refl _ _,rfl⟩
        ·intro f y hF F;have X:=F.2.2.2.2.2.2.2.2.2.2.2.2.2.2.2.2.1;have aG:=F.2.2.2.2.2.2.2.2.2.2.2.2.2.2.2.2.2.1;have k0:y.cell? ⟨w.heap.size+1,0,none⟩=some (.int .i64 sm):=t' (i:=0) X;have k1:y.cell? ⟨w.heap.size+1,1,none⟩=some (.int .i64 q):=t' (i:=1) X;have k2:y.cell? ⟨w.heap.size+1,2,none⟩=some (.string b):=t' (i:=2) X;have aH:=y' ((i' aC).trans (hF.below (i' aC).size (fun k aN h=>by obtain⟨q,D,h⟩:=h;simp at D;subst D;have h:k=w.heap.size+1:=h;omega)));clear F hF X;simp only[Y',aG];generalize f 47=bH;generalize f 48=bI;generalize f 49=bJ;generalize f 50=bK;generalize f 51=bL;generalize f 52=bM;generalize f 53=bN;generalize f 54=bO;generalize f 55=bP;generalize f 56=bQ;generalize f 57=bR;generalize f 58=bS;generalize f 59=bT;generalize f 60=bU;generalize f 61=bV;generalize f 62=bW;go_simp;go_wp2;have I:ok=false:=by rw[i' aj,decide_eq_true (show G<=20 by omega),decide_eq_true (show sm < 3 by omega),decide_eq_true (show 1<=q by omega),decide_eq_true (show q<=2147483647 by omega),aD];rfl
         refine bodyPost_ret (v:= .tuple #[.agg #[.int .i64 sm, .int .i64 q, .string b], .bool (false)]) (by simp[results,Tryz.results162,go_sem,k0,k1,k2]) rfl ⟨⟨sm,q,b⟩,(by rw[I];rfl),(fun _=>rfl),i' aH⟩
       |true=>
        by_cases cH:(o:Int)<=(last:Int)
        ·refine Z' (by kernel_rfl)
          [fun v _=>v= .agg #[.int .i64 sm, .int .i64 q, .string b],fun v _=>v= .agg #[.int .u32 o, .int .u64 c],fun v _=>v= .bool true,fun v _=>v= .bool true,fun v _=>v= .pointer (some ⟨O,0,none⟩),fun v _=>v= .int .u32 o,fun v _=>v= .int .u32 last,fun v _=>v= .bool true,fun v _=>v= .bool true,fun v _=>v= .bool true,fun v _=>v= .agg #[.int .u32 o, .int .u64 c],fun v _=>v= .agg #[.int .i64 sm, .int .i64 q, .string b],fun v _=>v= .agg (bv T).toArray,fun v _=>v= .agg (bv S).toArray,fun v _=>v= .bool (decide (T=S)),fun v _=>v= .bool (decide (T=S)),fun _ y=>y.heap[w.heap.size+1]? =some (.cells #[.int .i64 sm, .int .i64 q, .string b] 150 (0,0)),fun v _=>v= .bool (decide (T=S))]
          [[(9,none)],[(8,none)],[(48,some 1)],[(49,some 2)],[(8,none),(50,some 3)],[(51,some 4),(50,some 3)],[(1,none),(50,some 3)],[(52,some 5),(53,some 6),(50,some 3)],[(50,some 3),(54,some 7)],[(55,some 8)],[(8,none),(56,some 9)],[(9,none),(56,some 9)],[(57,some 10),(58,some 11),(56,some 9)],[(2,none),(56,some 9)],[(59,some 12),(60,some 13),(56,some 9)],[(56,some 9),(61,some 14)],[(4,none),(47,some 0)],[(62,some 15)]] [some 47,some 48,some 49,some 50,some 51,some 52,some 53,some 54,some 55,some 56,some 57,some 58,some 59,some 60,some 61,some 62,none,some 5] [false,false,false,false,false,true,false,false,false,false,false,false,false,false,false,false,false,false,false,false,false,false,false,false,false,false,false,false,false,false,false,false,false,false,false,false,false,false,false,false,false,false,false,false,false,false,false,true,true,true,true,true,true,true,true,true,true,true,true,true,true,true,true]
          [(16,fun k=>k=w.heap.size+1)]
          (by kernel_rfl) (by kernel_rfl) (by kernel_rfl) (by kernel_rfl) (by kernel_rfl) ?_ ?_ ?_ ?_
         ·repeat' (first|exact O' _|exact X'|exact bh' _ _|exact trivial|apply And.intro)
         ·repeat' (first|exact trivial|exact .inl rfl|exact .inr (.inr (an' _ _))|exact .inr (.inr (fun _ _ _ _ _=>trivial))|apply And.intro)
         ·refine⟨?_,?_,?_,?_,?_,?_,?_,?_,?_,?_,?_,?_,?_,?_,?_,?_,?_,?_,trivial⟩;all_goals
           intro a' y r z;have H:=r.blk (i' aZ) (ae' (by intro q D;simp at D;subst D;intro (e:w.heap.size=w.heap.size+1);omega));have U:=r.blk (i' bb) (ae' (by intro q D;simp at D;subst D;intro (e:O=w.heap.size+1);omega));have V:=r.blk (i' bc) (ae' (by intro q D;simp at D;subst D;intro (e:J=w.heap.size+1);omega));have bC:y.cell? ⟨O,0,none⟩=some (.int .u32 o):=t' (i:=0) U;have bD:y.cell? ⟨O,1,none⟩=some (.int .u64 c):=t' (i:=1) U;have r0:y.cell? ⟨J,0,none⟩=some (.int .i64 sm):=t' (i:=0) V;have bE:y.cell? ⟨J,1,none⟩=some (.int .i64 q):=t' (i:=1) V;have bF:y.cell? ⟨J,2,none⟩=some (.string b):=t' (i:=2) V;have ap:=y' H;clear H U V;simp only[M',List.getD_cons_zero,List.getD_cons_succ,Array.getD_eq_getD_getElem?]at z;try simp at z
          iterate 2
           ·clear r;go_simp;first|exact Far.refl _ _|exact⟨_,rfl,Far.refl _ _,rfl⟩
          ·clear r;go_simp;refine(i' (ai y)).mono ?_;rintro ah aq ⟨rfl,M⟩;exact⟨_,rfl,C' M,(by rw[aD];rfl)⟩
          ·clear r;go_simp;first|exact Far.refl _ _|exact⟨_,rfl,Far.refl _ _,rfl⟩
          iterate 4
           ·clear r;have ac:a'.tmps[50]? =some (.bool true):=eL' (by first|exact z|exact z.2|exact z.2.2);go_simp;first|exact Far.refl _ _|exact⟨_,rfl,Far.refl _ _,rfl⟩
          iterate 2
           ·clear r;go_simp;first|exact Far.refl _ _|exact⟨_,rfl,Far.refl _ _,rfl⟩
          iterate 2
           ·clear r;have ac:a'.tmps[56]? =some (.bool true):=eL' (by first|exact z|exact z.2|exact z.2.2);go_simp;first|exact Far.refl _ _|exact⟨_,rfl,Far.refl _ _,rfl⟩
          ·clear r;have ac:a'.tmps[56]? =some (.bool true):=eL' (by first|exact z|exact z.2|exact z.2.2);go_simp;refine(i' ((i' ak) y)).mono ?_;rintro ah aq ⟨rfl,M⟩;exact⟨_,rfl,C' M,rfl⟩
          ·clear r;have ac:a'.tmps[56]? =some (.bool true):=eL' (by first|exact z|exact z.2|exact z.2.2);rw[if_pos (by go_simp)];exact cw' (.tmp 2) rfl w.heap.size (by simp[Act.eval,z]) 214 S ad (i' ap) ⟨_,rfl,Far.refl _ _,rfl⟩
          ·clear r;have ac:a'.tmps[56]? =some (.bool true):=eL' (by first|exact z|exact z.2|exact z.2.2);have cI:=(i' ao) y;go_simp;first|exact Far.refl _ _|exact⟨_,rfl,Far.refl _ _,rfl⟩
          ·clear r;go_simp;first|exact Far.refl _ _|exact⟨_,rfl,Far.refl _ _,rfl⟩
          ·have Q:=r.blk (i' ba) (by rintro⟨q,D,g1,g2,bG⟩;simp at D;subst D;exact g1 rfl);clear r;rw[if_pos (by rfl)];refine wp_store_row 150 (.tmp 4) (.tmp 47) rfl (w.heap.size+1) #[.int .i64 sm, .int .i64 q, .string b] (by simp[Act.eval,z]) (by simp[Act.eval,z]) 150 _ Q (by rw[ix'];rfl) (by simp) (by rw[Array.all_eq_true_iff_forall_mem];intro u hu;simp at hu;rcases hu with rfl|rfl|rfl <;> rfl) ?_;exact⟨_,rfl,aj' (.head _) (aU' _ _ _),setRow_heap _ _ _ _ _ _ Q⟩
          ·clear r;go_simp;first|exact Far.refl _ _|exact⟨_,rfl,Far.refl _ _,rfl⟩
         ·intro f y hF F;have X:=F.2.2.2.2.2.2.2.2.2.2.2.2.2.2.2.2.1;have aG:=F.2.2.2.2.2.2.2.2.2.2.2.2.2.2.2.2.2.1;have k0:y.cell? ⟨w.heap.size+1,0,none⟩=some (.int .i64 sm):=t' (i:=0) X;have k1:y.cell? ⟨w.heap.size+1,1,none⟩=some (.int .i64 q):=t' (i:=1) X;have k2:y.cell? ⟨w.heap.size+1,2,none⟩=some (.string b):=t' (i:=2) X;have aH:=y' ((i' aC).trans (hF.below (i' aC).size (fun k aN h=>by obtain⟨q,D,h⟩:=h;simp at D;subst D;have h:k=w.heap.size+1:=h;omega)));clear F hF X;simp only[Y',aG];generalize f 47=bH;generalize f 48=bI;generalize f 49=bJ;generalize f 50=bK;generalize f 51=bL;generalize f 52=bM;generalize f 53=bN;generalize f 54=bO;generalize f 55=bP;generalize f 56=bQ;generalize f 57=bR;generalize f 58=bS;generalize f 59=bT;generalize f 60=bU;generalize f 61=bV;generalize f 62=bW;go_simp;go_wp2;have I:ok=decide (T=S):=by rw[i' aj,decide_eq_true (show G<=20 by omega),decide_eq_true (show sm < 3 by omega),decide_eq_true (show 1<=q by omega),decide_eq_true (show q<=2147483647 by omega),aD,decide_eq_true (show o<=last by omega)];rfl
          refine bodyPost_ret (v:= .tuple #[.agg #[.int .i64 sm, .int .i64 q, .string b], .bool (decide (T=S))]) (by simp[results,Tryz.results162,go_sem,k0,k1,k2]) rfl ⟨⟨sm,q,b⟩,(by rw[I];rfl),(fun _=>rfl),i' aH⟩
        ·refine Z' (by kernel_rfl)
          [fun v _=>v= .agg #[.int .i64 sm, .int .i64 q, .string b],fun v _=>v= .agg #[.int .u32 o, .int .u64 c],fun v _=>v= .bool true,fun v _=>v= .bool true,fun v _=>v= .pointer (some ⟨O,0,none⟩),fun v _=>v= .int .u32 o,fun v _=>v= .int .u32 last,fun v _=>v= .bool false,fun v _=>v= .bool false,fun v _=>v= .bool false,fun _ _=>True,fun _ _=>True,fun _ _=>True,fun _ _=>True,fun _ _=>True,fun v _=>v= .bool (false),fun _ y=>y.heap[w.heap.size+1]? =some (.cells #[.int .i64 sm, .int .i64 q, .string b] 150 (0,0)),fun v _=>v= .bool (false)]
          [[(9,none)],[(8,none)],[(48,some 1)],[(49,some 2)],[(8,none),(50,some 3)],[(51,some 4),(50,some 3)],[(1,none),(50,some 3)],[(52,some 5),(53,some 6),(50,some 3)],[(50,some 3),(54,some 7)],[(55,some 8)],[(8,none),(56,some 9)],[(9,none),(56,some 9)],[(57,some 10),(58,some 11),(56,some 9)],[(2,none),(56,some 9)],[(59,some 12),(60,some 13),(56,some 9)],[(56,some 9),(61,some 14)],[(4,none),(47,some 0)],[(62,some 15)]] [some 47,some 48,some 49,some 50,some 51,some 52,some 53,some 54,some 55,some 56,some 57,some 58,some 59,some 60,some 61,some 62,none,some 5] [false,false,false,false,false,true,false,false,false,false,false,false,false,false,false,false,false,false,false,false,false,false,false,false,false,false,false,false,false,false,false,false,false,false,false,false,false,false,false,false,false,false,false,false,false,false,false,true,true,true,true,true,true,true,true,true,true,true,true,true,true,true,true]
          [(16,fun k=>k=w.heap.size+1)]
          (by kernel_rfl) (by kernel_rfl) (by kernel_rfl) (by kernel_rfl) (by kernel_rfl) ?_ ?_ ?_ ?_
         ·repeat' (first|exact O' _|exact X'|exact bh' _ _|exact trivial|apply And.intro)
         ·repeat' (first|exact trivial|exact .inl rfl|exact .inr (.inr (an' _ _))|exact .inr (.inr (fun _ _ _ _ _=>trivial))|apply And.intro)
         ·refine⟨?_,?_,?_,?_,?_,?_,?_,?_,?_,?_,?_,?_,?_,?_,?_,?_,?_,?_,trivial⟩;all_goals
           intro a' y r z;have H:=r.blk (i' aZ) (ae' (by intro q D;simp at D;subst D;intro (e:w.heap.size=w.heap.size+1);omega));have U:=r.blk (i' bb) (ae' (by intro q D;simp at D;subst D;intro (e:O=w.heap.size+1);omega));have V:=r.blk (i' bc) (ae' (by intro q D;simp at D;subst D;intro (e:J=w.heap.size+1);omega));have bC:y.cell? ⟨O,0,none⟩=some (.int .u32 o):=t' (i:=0) U;have bD:y.cell? ⟨O,1,none⟩=some (.int .u64 c):=t' (i:=1) U;have r0:y.cell? ⟨J,0,none⟩=some (.int .i64 sm):=t' (i:=0) V;have bE:y.cell? ⟨J,1,none⟩=some (.int .i64 q):=t' (i:=1) V;have bF:y.cell? ⟨J,2,none⟩=some (.string b):=t' (i:=2) V;have ap:=y' H;clear H U V;simp only[M',List.getD_cons_zero,List.getD_cons_succ,Array.getD_eq_getD_getElem?]at z;try simp at z
          iterate 2
           ·clear r;go_simp;first|exact Far.refl _ _|exact⟨_,rfl,Far.refl _ _,rfl⟩
          ·clear r;go_simp;refine(i' (ai y)).mono ?_;rintro ah aq ⟨rfl,M⟩;exact⟨_,rfl,C' M,(by rw[aD];rfl)⟩
          ·clear r;go_simp;first|exact Far.refl _ _|exact⟨_,rfl,Far.refl _ _,rfl⟩
          iterate 4
           ·clear r;have ac:a'.tmps[50]? =some (.bool true):=eL' (by first|exact z|exact z.2|exact z.2.2);go_simp;first|exact Far.refl _ _|exact⟨_,rfl,Far.refl _ _,rfl⟩
          iterate 2
           ·clear r;go_simp;first|exact Far.refl _ _|exact⟨_,rfl,Far.refl _ _,rfl⟩
          iterate 5
           ·clear r;have ac:a'.tmps[56]? =some (.bool false):=eL' (by first|exact z|exact z.2|exact z.2.2);go_simp;try trivial
          ·clear r;go_simp;first|exact Far.refl _ _|exact⟨_,rfl,Far.refl _ _,rfl⟩
          ·have Q:=r.blk (i' ba) (by rintro⟨q,D,g1,g2,bG⟩;simp at D;subst D;exact g1 rfl);clear r;rw[if_pos (by rfl)];refine wp_store_row 150 (.tmp 4) (.tmp 47) rfl (w.heap.size+1) #[.int .i64 sm, .int .i64 q, .string b] (by simp[Act.eval,z]) (by simp[Act.eval,z]) 150 _ Q (by rw[ix'];rfl) (by simp) (by rw[Array.all_eq_true_iff_forall_mem];intro u hu;simp at hu;rcases hu with rfl|rfl|rfl <;> rfl) ?_;exact⟨_,rfl,aj' (.head _) (aU' _ _ _),setRow_heap _ _ _ _ _ _ Q⟩
          ·clear r;go_simp;first|exact Far.refl _ _|exact⟨_,rfl,Far.refl _ _,rfl⟩
         ·intro f y hF F;have X:=F.2.2.2.2.2.2.2.2.2.2.2.2.2.2.2.2.1;have aG:=F.2.2.2.2.2.2.2.2.2.2.2.2.2.2.2.2.2.1;have k0:y.cell? ⟨w.heap.size+1,0,none⟩=some (.int .i64 sm):=t' (i:=0) X;have k1:y.cell? ⟨w.heap.size+1,1,none⟩=some (.int .i64 q):=t' (i:=1) X;have k2:y.cell? ⟨w.heap.size+1,2,none⟩=some (.string b):=t' (i:=2) X;have aH:=y' ((i' aC).trans (hF.below (i' aC).size (fun k aN h=>by obtain⟨q,D,h⟩:=h;simp at D;subst D;have h:k=w.heap.size+1:=h;omega)));clear F hF X;simp only[Y',aG];generalize f 47=bH;generalize f 48=bI;generalize f 49=bJ;generalize f 50=bK;generalize f 51=bL;generalize f 52=bM;generalize f 53=bN;generalize f 54=bO;generalize f 55=bP;generalize f 56=bQ;generalize f 57=bR;generalize f 58=bS;generalize f 59=bT;generalize f 60=bU;generalize f 61=bV;generalize f 62=bW;go_simp;go_wp2;have I:ok=false:=by rw[i' aj,decide_eq_true (show G<=20 by omega),decide_eq_true (show sm < 3 by omega),decide_eq_true (show 1<=q by omega),decide_eq_true (show q<=2147483647 by omega),aD,decide_eq_false (show ¬o<=last by omega)];rfl
          refine bodyPost_ret (v:= .tuple #[.agg #[.int .i64 sm, .int .i64 q, .string b], .bool (false)]) (by simp[results,Tryz.results162,go_sem,k0,k1,k2]) rfl ⟨⟨sm,q,b⟩,(by rw[I];rfl),(fun _=>rfl),i' aH⟩
theorem si' (o c a b d:Nat) (z:o≠0) (w:World):(Op.equalIn 10000 199 (.agg #[.int .u32 o, .int .u64 c, .int .i64 a, .int .i64 b, .int .i64 d]) (.agg #[.int .u32 0, .int .u64 0, .int .i64 0, .int .i64 0, .int .i64 0])).run Tryz.prog w= .ok false w:=by
 have r:((o:Int) ==0)=false:=by simp;omega
 rw[run_equalIn_struct w 9999 199 _ _ (by kernel_rfl) (by kernel_rfl)];simp[go_sem,r]
theorem uf' (h g:Mod.Hd):Mod.newer h.o h.c g.o g.c=Mod.newer2 h g:=rfl
def vy' (L:List UInt8) (w:World) (z:Ending) (w':World):Prop:=
 ∃ (h:Mod.Hd) (k:Nat),z= .returned (.tuple #[gI' h, .int .i64 k, .bool (Mod.newest L).isSome])/\(∀r k',Mod.newest L=some (r,k')->h=r/\k=k')/\Below w.heap.size w w'
theorem lE' {L:List UInt8} {w y:World} (h:Mod.newest L=none) (h2:Mod.Hd) (k:Nat) (r:Below w.heap.size w y):vy' L w (.returned (.tuple #[gI' h2, .int .i64 k, .bool false])) y:=
 ⟨h2,k,(by rw[h];rfl),(fun z k' e=>(by rw[h]at e;cases e)),r⟩
theorem ju' {L:List UInt8} {w y:World} {h2:Mod.Hd} {k:Nat} (h:Mod.newest L=some (h2,k)) (r:Below w.heap.size w y):vy' L w (.returned (.tuple #[gI' h2, .int .i64 k, .bool true])) y:=
 ⟨h2,k,(by rw[h];rfl),(fun z k' e=>(by rw[h]at e;cases e;exact⟨rfl,rfl⟩)),r⟩
theorem fk' {w z:World} {g:Nat} (D:Below w.heap.size w z) (r:w.heap.size<=g) (a b c d e:Value):Below w.heap.size w (((((z.setCell ⟨g,0,none⟩ a).setCell ⟨g,1,none⟩ b).setCell ⟨g,2,none⟩ c).setCell ⟨g,3,none⟩ d).setCell ⟨g,4,none⟩ e):=
 ((((D.setCell (p:=⟨g,0,none⟩) r _).setCell (p:=⟨g,1,none⟩) r _).setCell (p:=⟨g,2,none⟩) r _).setCell (p:=⟨g,3,none⟩) r _).setCell (p:=⟨g,4,none⟩) r _
theorem lF' (w:World) (v:Value) (L:List UInt8) (bw:ab' w v L) (ch:128<=L.length) (bH:L.length<=10000):
  Calls Tryz.prog 111 #[v] w (vy' L w):=by
 have bb:=fun(k:Nat) (bc:64 * k+64<=L.length) y (r:Below w.heap.size w y)=>y' (ig' y v L k (bw.below r) bc bH);have be:=bb 0 (by omega);have bf:=bb 1 (by omega);have bg:=fun y=>y' (iw' (Mod.sec L 0) (Mod.length_sec (by omega)) y);have bh:=fun y=>y' (iw' (Mod.sec L 1) (Mod.length_sec (by omega)) y);have aS:Mod.newest L=if Mod.headOk (Mod.sec L 0)=true/\Mod.headOk (Mod.sec L 1)=true then
  if Mod.newer2 (Mod.headIs (Mod.sec L 1)) (Mod.headIs (Mod.sec L 0))=true then some (Mod.headIs (Mod.sec L 1),1)
  else if Mod.newer2 (Mod.headIs (Mod.sec L 0)) (Mod.headIs (Mod.sec L 1))=true then some (Mod.headIs (Mod.sec L 0),0)
  else if(Mod.headIs (Mod.sec L 0)).o=0/\(Mod.headIs (Mod.sec L 1)).o=0 then some (Mod.hd0,0)else none
 else none:=rfl
 have bi:Mod.headOk (Mod.sec L 0)=true->(Mod.headIs (Mod.sec L 0)).o=0->Mod.headIs (Mod.sec L 0)=Mod.hd0:=fun h e=>by
  rcases Mod.headOk_some h with ⟨_,ai⟩|⟨ai,_⟩
  ·exact ai
  ·rw[e]at ai;cases ai
 have aH:Mod.headOk (Mod.sec L 1)=true->(Mod.headIs (Mod.sec L 1)).o=0->Mod.headIs (Mod.sec L 1)=Mod.hd0:=fun h e=>by
  rcases Mod.headOk_some h with ⟨_,ai⟩|⟨ai,_⟩
  ·exact ai
  ·rw[e]at ai;cases ai
 obtain⟨aJ,aT⟩:∃aJ,aJ=Mod.sec L 0:=⟨_,rfl⟩;obtain⟨aK,aU⟩:∃aK,aK=Mod.sec L 1:=⟨_,rfl⟩;unfold Mod.sec at aT aU;rw[<-aT]at be;rw[<-aU]at bf;have aV:Mod.sec L 0=aJ:=aT.symm;have aW:Mod.sec L 1=aK:=aU.symm;rw[aV]at bg aS bi;rw[aW]at bh aS aH;clear bb aT aU aV aW bw;generalize Mod.headOk aJ=k0 at *;generalize Mod.headOk aK=k1 at *;generalize Mod.headIs aJ=bI at *;generalize Mod.headIs aK=bJ at *;have ax:=y' aS;have ay:=y' bi;have aE:=y' aH;clear aS bi aH;go_enter Tryz.func111,Tryz.ntmps111;go_upto_region 2 with (first
  |(go_at_call 160;refine(i' (be _ ((Below.refl _ _).alloc (Nat.le_refl _) _))).mono ?_;rintro az y ⟨rfl,aX⟩)
  |(go_at_call 159;refine(i' (bg _)).mono ?_;rintro az bj ⟨f,rfl,bz,aY⟩;unfold gI'))
 have aL:=y' bz;clear bz;have aH:=aX.size;have bK:=aY.size;simp only[World.size_alloc]at aH;have bA:bj.heap[w.heap.size]? =some (.cells #[.int .u32 0, .int .u64 0, .int .i64 0, .int .i64 0, .int .i64 0] 199 (0,0)):=(aY.block _ (by omega)).trans ((aX.block _ (by simp)).trans (heap_alloc_new w _));have bB:Below w.heap.size w bj:=(((Below.refl _ _).alloc (Nat.le_refl _) _).trans (aX.mono (by simp))).trans (aY.mono (by omega));obtain⟨D,bk⟩:∃g,g=bj.heap.size:=⟨_,rfl⟩;rw[<-bk];refine H' (fun x=>x.heap[w.heap.size]? =some (.cells #[.int .u32 0, .int .u64 0, .int .i64 0, .int .i64 0, .int .i64 0] 199 (0,0))/\x.heap[D]? =some (.cells #[.int .u32 f.o, .int .u64 f.c, .int .i64 f.a, .int .i64 f.b, .int .i64 f.d] 199 (0,0))/\Below w.heap.size w x) ?_ ?_
 ·exact⟨(hao _ _ (by omega)).trans bA,by rw[bk];exact heap_alloc_new _ _,bB.alloc (by omega) _⟩
 have ci:w.heap.size < D:=by omega
 clear bA bB aH bK aX aY bk;rintro x ⟨h0,h5,aM⟩;have aj:=y' h0;have Q:=y' h5;have J:=y' aM;have bL:=lt_of_block h5;clear h0 h5 aM;go_upto_region 3 with (first
  |(go_at_call 160;refine(i' (bf x (i' J))).mono ?_;rintro az cj ⟨rfl,bl⟩)
  |(go_at_call 159;refine(i' (bh _)).mono ?_;rintro az bC ⟨s,rfl,bD,bm⟩;unfold gI'))
 have aN:=y' bD;have bE:=bl.size;have bM:=bm.size;obtain⟨F,bn⟩:∃g,g=bC.heap.size:=⟨_,rfl⟩;rw[<-bn];refine H' (fun x=>x.heap[w.heap.size]? =some (.cells #[.int .u32 0, .int .u64 0, .int .i64 0, .int .i64 0, .int .i64 0] 199 (0,0))/\x.heap[D]? =some (.cells #[.int .u32 f.o, .int .u64 f.c, .int .i64 f.a, .int .i64 f.b, .int .i64 f.d] 199 (0,0))/\x.heap[F]? =some (.cells #[.int .u32 s.o, .int .u64 s.c, .int .i64 s.a, .int .i64 s.b, .int .i64 s.d] 199 (0,0))/\Below w.heap.size w x) ?_ ?_
 ·have r:Below x.heap.size x bC:=bl.trans (bm.mono bE);exact⟨(hao _ _ (by omega)).trans ((r.block _ (by omega)).trans (i' aj)),(hao _ _ (by omega)).trans ((r.block _ (by omega)).trans (i' Q)),by rw[bn];exact heap_alloc_new _ _,((i' J).trans (r.mono (by omega))).alloc (by omega) _⟩
 have ck:D < F:=by omega
 clear aj Q J bl bm bE bM bn bL bD be bf bg bh;rintro U ⟨h0,h5,aO,aM⟩;have X:U.cell? ⟨w.heap.size,0,none⟩=some (.int .u32 0):=t' (i:=0) h0;have Y:U.cell? ⟨w.heap.size,1,none⟩=some (.int .u64 0):=t' (i:=1) h0;have Z:U.cell? ⟨w.heap.size,2,none⟩=some (.int .i64 0):=t' (i:=2) h0;have aa:U.cell? ⟨w.heap.size,3,none⟩=some (.int .i64 0):=t' (i:=3) h0;have ab:U.cell? ⟨w.heap.size,4,none⟩=some (.int .i64 0):=t' (i:=4) h0;have aP:∀i,U.frozen? ⟨w.heap.size,i,none⟩=false:=fun i=>I' h0;have ak:U.cell? ⟨D,0,none⟩=some (.int .u32 f.o):=t' (i:=0) h5;have ao:U.cell? ⟨D,1,none⟩=some (.int .u64 f.c):=t' (i:=1) h5;have ap:U.cell? ⟨F,0,none⟩=some (.int .u32 s.o):=t' (i:=0) aO;have aq:U.cell? ⟨F,1,none⟩=some (.int .u64 s.c):=t' (i:=1) aO;have aj:=y' h0;have Q:=y' h5;have au:=y' aO;have J:=y' aM;have cl:=lt_of_block aO;clear h0 h5 aO aM;cases k0 with
 |false=>clear aL aN ay aE ak ao ap aq Q au;go_wp2;refine bodyPost_ret (v:= .tuple #[.agg #[.int .u32 0, .int .u64 0, .int .i64 0, .int .i64 0, .int .i64 0], .int .i64 0, .bool false]) (by simp[results,Tryz.results111,go_sem,X,Y,Z,aa,ab]) rfl ?_;exact lE' (by rw[i' ax];simp) Mod.hd0 0 (fk' (i' J) (Nat.le_refl _) _ _ _ _ _)
 |true=>
  obtain rfl:f=bI:=(i' aL) rfl;cases k1 with
  |false=>clear aL aN ay aE ak ao ap aq Q au;go_wp2;refine bodyPost_ret (v:= .tuple #[.agg #[.int .u32 0, .int .u64 0, .int .i64 0, .int .i64 0, .int .i64 0], .int .i64 0, .bool false]) (by simp[results,Tryz.results111,go_sem,X,Y,Z,aa,ab]) rfl ?_;exact lE' (by rw[i' ax];simp) Mod.hd0 0 (fk' (i' J) (Nat.le_refl _) _ _ _ _ _)
  |true=>
   obtain rfl:s=bJ:=(i' aN) rfl;have aF:=fun y=>y' (jO' s.o s.c f.o f.c y);have aI:=fun y=>y' (jO' f.o f.c s.o s.c y);rw[uf']at aF aI;cases I:Mod.newer2 s f with
   |true=>
    go_upto_region 6 with (go_at_call 161;refine(i' (aF _)).mono ?_;rw[I];rintro az ac ⟨rfl,H⟩)
    have bF:=H.size;have M:=(H.block _ (by omega)).trans (i' aj);have aA:=(H.block _ (by omega)).trans (i' Q);have aB:=(H.block _ (by omega)).trans (i' au);have aC:=y' ((i' J).trans (H.mono (i' J).size));clear H ak ao ap aq X Y Z aa ab aP aF aI ay aE;have aV:ac.cell? ⟨F,0,none⟩=some (.int .u32 s.o):=t' (i:=0) aB;have aW:ac.cell? ⟨F,1,none⟩=some (.int .u64 s.c):=t' (i:=1) aB;have ai:ac.cell? ⟨F,2,none⟩=some (.int .i64 s.a):=t' (i:=2) aB;have bN:ac.cell? ⟨F,3,none⟩=some (.int .i64 s.b):=t' (i:=3) aB;have bO:ac.cell? ⟨F,4,none⟩=some (.int .i64 s.d):=t' (i:=4) aB;have X:ac.cell? ⟨w.heap.size,0,none⟩=some (.int .u32 0):=t' (i:=0) M;have Y:ac.cell? ⟨w.heap.size,1,none⟩=some (.int .u64 0):=t' (i:=1) M;have Z:ac.cell? ⟨w.heap.size,2,none⟩=some (.int .i64 0):=t' (i:=2) M;have aa:ac.cell? ⟨w.heap.size,3,none⟩=some (.int .i64 0):=t' (i:=3) M;have ab:ac.cell? ⟨w.heap.size,4,none⟩=some (.int .i64 0):=t' (i:=4) M;have aP:∀i,ac.frozen? ⟨w.heap.size,i,none⟩=false:=fun i=>I' M;clear M aA aB aj Q au J;have aZ:=y' I;clear I;go_wp2;refine bodyPost_ret (v:= .tuple #[.agg #[.int .u32 s.o, .int .u64 s.c, .int .i64 s.a, .int .i64 s.b, .int .i64 s.d], .int .i64 1, .bool true]) (by simp[results,Tryz.results111,go_sem,X,Y,Z,aa,ab]) rfl ?_;exact ju' (by rw[i' ax,i' aZ];simp) (fk' (i' aC) (Nat.le_refl _) _ _ _ _ _)
   |false=>
    cases aD:Mod.newer2 f s with
    |true=>
     go_upto_region 7 with (go_at_call 161;refine(i' (aF _)).mono ?_;rw[I];rintro az ac ⟨rfl,H⟩)
     have ak:=(H.cell (p:=⟨D,0,none⟩) (by show D < _;omega)).trans ak;have ao:=(H.cell (p:=⟨D,1,none⟩) (by show D < _;omega)).trans ao;have ap:=(H.cell (p:=⟨F,0,none⟩) (by show F < _;omega)).trans ap;have aq:=(H.cell (p:=⟨F,1,none⟩) (by show F < _;omega)).trans aq;have bo:=H.size;have aQ:=y' H;clear H;go_upto_region 8 with (go_at_call 161;refine(i' (aI _)).mono ?_;rw[aD];rintro az V ⟨rfl,aR⟩);have r:Below U.heap.size U V:=(i' aQ).trans (aR.mono bo);clear aR aQ;have bF:=r.size;have M:=(r.block _ (by omega)).trans (i' aj);have aA:=(r.block _ (by omega)).trans (i' Q);have aB:=(r.block _ (by omega)).trans (i' au);have aC:=y' ((i' J).trans (r.mono (i' J).size));clear r ak ao ap aq X Y Z aa ab aP aF aI ay aE;have aV:V.cell? ⟨D,0,none⟩=some (.int .u32 f.o):=t' (i:=0) aA;have aW:V.cell? ⟨D,1,none⟩=some (.int .u64 f.c):=t' (i:=1) aA;have ai:V.cell? ⟨D,2,none⟩=some (.int .i64 f.a):=t' (i:=2) aA;have bN:V.cell? ⟨D,3,none⟩=some (.int .i64 f.b):=t' (i:=3) aA;have bO:V.cell? ⟨D,4,none⟩=some (.int .i64 f.d):=t' (i:=4) aA;have X:V.cell? ⟨w.heap.size,0,none⟩=some (.int .u32 0):=t' (i:=0) M;have Y:V.cell? ⟨w.heap.size,1,none⟩=some (.int .u64 0):=t' (i:=1) M;have Z:V.cell? ⟨w.heap.size,2,none⟩=some (.int .i64 0):=t' (i:=2) M;have aa:V.cell? ⟨w.heap.size,3,none⟩=some (.int .i64 0):=t' (i:=3) M;have ab:V.cell? ⟨w.heap.size,4,none⟩=some (.int .i64 0):=t' (i:=4) M;have aP:∀i,V.frozen? ⟨w.heap.size,i,none⟩=false:=fun i=>I' M;clear M aA aB aj Q au J;have aZ:=y' (And.intro I aD);clear I aD;go_wp2;refine bodyPost_ret (v:= .tuple #[.agg #[.int .u32 f.o, .int .u64 f.c, .int .i64 f.a, .int .i64 f.b, .int .i64 f.d], .int .i64 0, .bool true]) (by simp[results,Tryz.results111,go_sem,X,Y,Z,aa,ab]) rfl ?_;exact ju' (by rw[i' ax,(i' aZ).1,(i' aZ).2];simp) (fk' (i' aC) (Nat.le_refl _) _ _ _ _ _)
    |false=>
     go_upto_region 7 with (go_at_call 161;refine(i' (aF _)).mono ?_;rw[I];rintro az ac ⟨rfl,H⟩)
     have ak:=(H.cell (p:=⟨D,0,none⟩) (by show D < _;omega)).trans ak;have ao:=(H.cell (p:=⟨D,1,none⟩) (by show D < _;omega)).trans ao;have ap:=(H.cell (p:=⟨F,0,none⟩) (by show F < _;omega)).trans ap;have aq:=(H.cell (p:=⟨F,1,none⟩) (by show F < _;omega)).trans aq;have bo:=H.size;have aQ:=y' H;clear H;go_upto_region 9 with (go_at_call 161;refine(i' (aI _)).mono ?_;rw[aD];rintro az V ⟨rfl,aR⟩);have r:Below U.heap.size U V:=(i' aQ).trans (aR.mono bo);clear aR aQ;have bF:=r.size;have aj:=y' ((r.block _ (by omega)).trans (i' aj));have Q:=y' ((r.block _ (by omega)).trans (i' Q));have au:=y' ((r.block _ (by omega)).trans (i' au));have aC:=y' ((i' J).trans (r.mono (i' J).size));clear r ak ao ap aq X Y Z aa ab aP aF aI J;by_cases aG:f.o=0
     ·have bp:s.o=0:=by
       have ba:=(i' ay) (by trivial) aG;rw[ba]at I;unfold Mod.newer2 Mod.hd0 at I;simp only at I;by_cases h:s.o=0
       ·exact h
       ·rw[if_pos h,decide_eq_true (by omega)]at I;cases I
      have ba:=(i' ay) (by trivial) aG;have bG:=(i' aE) (by trivial) bp;have bq:Hid (Mod.newest L=some (Mod.hd0,0)):=by show _= _;rw[i' ax,I,aD];simp[aG,bp]
      rw[ba]at Q;rw[bG]at au;clear ax ay aE aL aN I aD ba bG aG bp;have bP:∀y:World,(Op.equalIn 10000 199 (.agg #[.int .u32 0, .int .u64 0, .int .i64 0, .int .i64 0, .int .i64 0]) (.agg #[.int .u32 0, .int .u64 0, .int .i64 0, .int .i64 0, .int .i64 0])).run Tryz.prog y= .ok true y:=fun y=>by kernel_rfl
      refine Z' (by kernel_rfl)
       [fun v _=>v= .agg #[.int .u32 0, .int .u64 0, .int .i64 0, .int .i64 0, .int .i64 0],fun v _=>v= .agg #[.int .u32 0, .int .u64 0, .int .i64 0, .int .i64 0, .int .i64 0],fun v _=>v= .agg #[.int .u32 0, .int .u64 0, .int .i64 0, .int .i64 0, .int .i64 0],fun v _=>v= .bool true,fun v _=>v= .bool true,fun v _=>v= .agg #[.int .u32 0, .int .u64 0, .int .i64 0, .int .i64 0, .int .i64 0],fun v _=>v= .agg #[.int .u32 0, .int .u64 0, .int .i64 0, .int .i64 0, .int .i64 0],fun v _=>v= .bool true,fun v _=>v= .bool true,fun _ z=>z.heap[w.heap.size]? =some (.cells #[.int .u32 0, .int .u64 0, .int .i64 0, .int .i64 0, .int .i64 0] 199 (0,0)),fun v _=>v= .int .i64 0,fun v _=>v= .bool true]
       [[],[(5,none)],[],[(44,some 1),(45,some 2)],[(46,some 3)],[(7,none),(47,some 4)],[(47,some 4)],[(48,some 5),(49,some 6),(47,some 4)],[(47,some 4),(50,some 7)],[(2,none),(43,some 0)],[],[(51,some 8)]] [some 43,some 44,some 45,some 46,some 47,some 48,some 49,some 50,some 51,none,some 3,some 4] [false,false,false,true,true,false,false,false,false,false,false,false,false,false,false,false,false,false,false,false,false,false,false,false,false,false,false,false,false,false,false,false,false,false,false,false,false,false,false,false,false,false,false,true,true,true,true,true,true,true,true,true]
       [(9,fun k=>k=w.heap.size)]
       (by kernel_rfl) (by kernel_rfl) (by kernel_rfl) (by kernel_rfl) (by kernel_rfl) ?_ ?_ ?_ ?_
      ·repeat' (first|exact O' _|exact X'|exact bh' _ _|exact trivial|apply And.intro)
      ·repeat' (first|exact trivial|exact .inl rfl|exact .inr (.inr (an' _ _))|exact .inr (.inr (fun _ _ _ _ _=>trivial))|apply And.intro)
      ·refine⟨?_,?_,?_,?_,?_,?_,?_,?_,?_,?_,?_,?_,trivial⟩;all_goals
        intro a z r O;have z5:=r.blk (i' Q) (ae' (by intro q G;simp at G;subst G;intro (e:D=w.heap.size);omega));have ad:=r.blk (i' au) (ae' (by intro q G;simp at G;subst G;intro (e:F=w.heap.size);omega));have ak:z.cell? ⟨D,0,none⟩=some (.int .u32 0):=t' (i:=0) z5;have ap:z.cell? ⟨F,0,none⟩=some (.int .u32 0):=t' (i:=0) ad;have ao:z.cell? ⟨D,1,none⟩=some (.int .u64 0):=t' (i:=1) z5;have aq:z.cell? ⟨F,1,none⟩=some (.int .u64 0):=t' (i:=1) ad;have bQ:z.cell? ⟨D,2,none⟩=some (.int .i64 0):=t' (i:=2) z5;have bR:z.cell? ⟨F,2,none⟩=some (.int .i64 0):=t' (i:=2) ad;have bS:z.cell? ⟨D,3,none⟩=some (.int .i64 0):=t' (i:=3) z5;have bT:z.cell? ⟨F,3,none⟩=some (.int .i64 0):=t' (i:=3) ad;have bU:z.cell? ⟨D,4,none⟩=some (.int .i64 0):=t' (i:=4) z5;have bV:z.cell? ⟨F,4,none⟩=some (.int .i64 0):=t' (i:=4) ad;clear z5 ad;simp only[M',List.getD_cons_zero,List.getD_cons_succ,Array.getD_eq_getD_getElem?]at O;try simp at O
       iterate 5
        ·clear r;go_simp;exact⟨_,rfl,Far.refl _ _,rfl⟩
       iterate 3
        ·clear r;have bW:a.tmps[47]? =some (.bool true):=eL' (by first|exact O|exact O.2|exact O.2.2);go_simp;exact⟨_,rfl,Far.refl _ _,rfl⟩
       ·clear r;go_simp;exact⟨_,rfl,Far.refl _ _,rfl⟩
       ·have z0:=r.blk (i' aj) (by rintro⟨q,G,g1,g2,bX⟩;simp at G;subst G;exact g1 rfl);clear r;rw[if_pos (by rfl)];refine wp_store_row 199 (.tmp 2) (.tmp 43) rfl w.heap.size #[.int .u32 0, .int .u64 0, .int .i64 0, .int .i64 0, .int .i64 0] (by simp[Act.eval,O]) (by simp[Act.eval,O]) 199 _ z0 (by rw[gr'];rfl) (by simp) (by rw[Array.all_eq_true_iff_forall_mem];intro u hu;simp at hu;rcases hu with rfl|rfl|rfl <;> rfl) ?_;exact⟨_,rfl,aj' (.head _) (aU' _ _ _),setRow_heap _ _ _ _ _ _ z0⟩
       iterate 2
        ·clear r;go_simp;exact⟨_,rfl,Far.refl _ _,rfl⟩
      ·intro f' z hF av;have ah:=av.2.2.2.2.2.2.2.2.2.1;have br:=av.2.2.2.2.2.2.2.2.2.2.1;have bt:=av.2.2.2.2.2.2.2.2.2.2.2.1;have X:z.cell? ⟨w.heap.size,0,none⟩=some (.int .u32 0):=t' (i:=0) ah;have Y:z.cell? ⟨w.heap.size,1,none⟩=some (.int .u64 0):=t' (i:=1) ah;have Z:z.cell? ⟨w.heap.size,2,none⟩=some (.int .i64 0):=t' (i:=2) ah;have aa:z.cell? ⟨w.heap.size,3,none⟩=some (.int .i64 0):=t' (i:=3) ah;have ab:z.cell? ⟨w.heap.size,4,none⟩=some (.int .i64 0):=t' (i:=4) ah;have bu:=y' ((i' aC).trans (hF.below (i' aC).size (fun k bc h=>by obtain⟨q,G,h⟩:=h;simp at G;subst G;have h:k=w.heap.size:=h;omega)));clear av hF ah;simp only[Y',br,bt];generalize f' 43=bY;generalize f' 44=bZ;generalize f' 45=ca;generalize f' 46=cb;generalize f' 47=cc;generalize f' 48=cd;generalize f' 49=ce;generalize f' 50=cf;generalize f' 51=cg;go_simp;go_wp2;refine bodyPost_ret (v:= .tuple #[.agg #[.int .u32 0, .int .u64 0, .int .i64 0, .int .i64 0, .int .i64 0], .int .i64 0, .bool true]) (by simp[results,Tryz.results111,go_sem,X,Y,Z,aa,ab]) rfl ?_;exact ju' (h2:=Mod.hd0) (i' bq) (i' bu)
     ·have bq:Hid (Mod.newest L=none):=by show _= _;rw[i' ax,I,aD];simp[aG]
      have bP:=fun y=>si' f.o f.c f.a f.b f.d aG y;clear ax ay aE aL aN I aD aG;refine Z' (by kernel_rfl)
       [fun v _=>v= .agg #[.int .u32 0, .int .u64 0, .int .i64 0, .int .i64 0, .int .i64 0],fun v _=>v= .agg #[.int .u32 f.o, .int .u64 f.c, .int .i64 f.a, .int .i64 f.b, .int .i64 f.d],fun v _=>v= .agg #[.int .u32 0, .int .u64 0, .int .i64 0, .int .i64 0, .int .i64 0],fun v _=>v= .bool false,fun v _=>v= .bool false,fun _ _=>True,fun _ _=>True,fun _ _=>True,fun v _=>v= .bool false,fun _ z=>z.heap[w.heap.size]? =some (.cells #[.int .u32 0, .int .u64 0, .int .i64 0, .int .i64 0, .int .i64 0] 199 (0,0)),fun v _=>v= .int .i64 0,fun v _=>v= .bool false]
       [[],[(5,none)],[],[(44,some 1),(45,some 2)],[(46,some 3)],[(7,none),(47,some 4)],[(47,some 4)],[(48,some 5),(49,some 6),(47,some 4)],[(47,some 4),(50,some 7)],[(2,none),(43,some 0)],[],[(51,some 8)]] [some 43,some 44,some 45,some 46,some 47,some 48,some 49,some 50,some 51,none,some 3,some 4] [false,false,false,true,true,false,false,false,false,false,false,false,false,false,false,false,false,false,false,false,false,false,false,false,false,false,false,false,false,false,false,false,false,false,false,false,false,false,false,false,false,false,false,true,true,true,true,true,true,true,true,true]
       [(9,fun k=>k=w.heap.size)]
       (by kernel_rfl) (by kernel_rfl) (by kernel_rfl) (by kernel_rfl) (by kernel_rfl) ?_ ?_ ?_ ?_
      ·repeat' (first|exact O' _|exact X'|exact bh' _ _|exact trivial|apply And.intro)
      ·repeat' (first|exact trivial|exact .inl rfl|exact .inr (.inr (an' _ _))|exact .inr (.inr (fun _ _ _ _ _=>trivial))|apply And.intro)
      ·refine⟨?_,?_,?_,?_,?_,?_,?_,?_,?_,?_,?_,?_,trivial⟩;all_goals
        intro a z r O;have z5:=r.blk (i' Q) (ae' (by intro q G;simp at G;subst G;intro (e:D=w.heap.size);omega));have ad:=r.blk (i' au) (ae' (by intro q G;simp at G;subst G;intro (e:F=w.heap.size);omega));have ak:z.cell? ⟨D,0,none⟩=some (.int .u32 f.o):=t' (i:=0) z5;have ap:z.cell? ⟨F,0,none⟩=some (.int .u32 s.o):=t' (i:=0) ad;have ao:z.cell? ⟨D,1,none⟩=some (.int .u64 f.c):=t' (i:=1) z5;have aq:z.cell? ⟨F,1,none⟩=some (.int .u64 s.c):=t' (i:=1) ad;have bQ:z.cell? ⟨D,2,none⟩=some (.int .i64 f.a):=t' (i:=2) z5;have bR:z.cell? ⟨F,2,none⟩=some (.int .i64 s.a):=t' (i:=2) ad;have bS:z.cell? ⟨D,3,none⟩=some (.int .i64 f.b):=t' (i:=3) z5;have bT:z.cell? ⟨F,3,none⟩=some (.int .i64 s.b):=t' (i:=3) ad;have bU:z.cell? ⟨D,4,none⟩=some (.int .i64 f.d):=t' (i:=4) z5;have bV:z.cell? ⟨F,4,none⟩=some (.int .i64 s.d):=t' (i:=4) ad;clear z5 ad;simp only[M',List.getD_cons_zero,List.getD_cons_succ,Array.getD_eq_getD_getElem?]at O;try simp at O
       iterate 5
        ·clear r;go_simp;exact⟨_,rfl,Far.refl _ _,rfl⟩
       iterate 3
        ·clear r;have bW:a.tmps[47]? =some (.bool false):=eL' (by first|exact O|exact O.2|exact O.2.2);go_simp;try trivial
       ·clear r;go_simp;exact⟨_,rfl,Far.refl _ _,rfl⟩
       ·have z0:=r.blk (i' aj) (by rintro⟨q,G,g1,g2,bX⟩;simp at G;subst G;exact g1 rfl);clear r;rw[if_pos (by rfl)];refine wp_store_row 199 (.tmp 2) (.tmp 43) rfl w.heap.size #[.int .u32 0, .int .u64 0, .int .i64 0, .int .i64 0, .int .i64 0] (by simp[Act.eval,O]) (by simp[Act.eval,O]) 199 _ z0 (by rw[gr'];rfl) (by simp) (by rw[Array.all_eq_true_iff_forall_mem];intro u hu;simp at hu;rcases hu with rfl|rfl|rfl <;> rfl) ?_;exact⟨_,rfl,aj' (.head _) (aU' _ _ _),setRow_heap _ _ _ _ _ _ z0⟩
       iterate 2
        ·clear r;go_simp;exact⟨_,rfl,Far.refl _ _,rfl⟩
      ·intro f' z hF av;have ah:=av.2.2.2.2.2.2.2.2.2.1;have br:=av.2.2.2.2.2.2.2.2.2.2.1;have bt:=av.2.2.2.2.2.2.2.2.2.2.2.1;have X:z.cell? ⟨w.heap.size,0,none⟩=some (.int .u32 0):=t' (i:=0) ah;have Y:z.cell? ⟨w.heap.size,1,none⟩=some (.int .u64 0):=t' (i:=1) ah;have Z:z.cell? ⟨w.heap.size,2,none⟩=some (.int .i64 0):=t' (i:=2) ah;have aa:z.cell? ⟨w.heap.size,3,none⟩=some (.int .i64 0):=t' (i:=3) ah;have ab:z.cell? ⟨w.heap.size,4,none⟩=some (.int .i64 0):=t' (i:=4) ah;have bu:=y' ((i' aC).trans (hF.below (i' aC).size (fun k bc h=>by obtain⟨q,G,h⟩:=h;simp at G;subst G;have h:k=w.heap.size:=h;omega)));clear av hF ah;simp only[Y',br,bt];generalize f' 43=bY;generalize f' 44=bZ;generalize f' 45=ca;generalize f' 46=cb;generalize f' 47=cc;generalize f' 48=cd;generalize f' 49=ce;generalize f' 50=cf;generalize f' 51=cg;go_simp;go_wp2;refine bodyPost_ret (v:= .tuple #[.agg #[.int .u32 0, .int .u64 0, .int .i64 0, .int .i64 0, .int .i64 0], .int .i64 0, .bool false]) (by simp[results,Tryz.results111,go_sem,X,Y,Z,aa,ab]) rfl ?_;exact lE' (i' bq) Mod.hd0 0 (i' bu)
theorem lG' (S:List UInt8) (F:S.length=64) (last:Nat) (w:World):Calls Tryz.prog 162 #[.agg (bv S).toArray, .int .u32 last] w fun r w'=>
  ∃h:Mod.Rc,r= .returned (.tuple #[vx' h, .bool (Mod.recOk S last)])/\(Mod.recOk S last=true->h=Mod.recIs S)/\Below w.heap.size w w':=by
 by_cases z:S=aS'
 ·subst z;refine(kq' w last).mono ?_;rintro r y ⟨rfl,D⟩;have h1:Mod.recOk aS' last=true:=by unfold Mod.recOk;rw[bV'];simp
  refine⟨Mod.rc0,(by rw[h1];rfl),fun _=>?_,D⟩;unfold Mod.recIs;rw[bV',if_pos rfl]
 ·refine(kv' S F z last w).mono ?_;rintro r y ⟨h,rfl,h2,D⟩;refine⟨h,rfl,fun G=>?_,D⟩;rw[h2 G];unfold Mod.recIs;rw[bV',if_neg z]
def cT':List Mod.Rc->List Value
 |[]=>[]
 |r::l=> .int .i64 r.s:: .int .i64 r.q:: .string r.b::cT' l
theorem dH':∀l,(cT' l).length=l.length * 3
 |[]=>rfl
 |r::l=>by simp[cT',dH' l];omega
theorem nx':∀ (l k:List Mod.Rc),cT' (l++k)=cT' l++cT' k
 |[],k=>rfl
 |r::l,k=>by simp[cT',nx' l k]
theorem jv':∀ (l:List Mod.Rc) (j:Nat) (r:Mod.Rc),l[j]? =some r->(cT' l)[j * 3]? =some (.int .i64 r.s)/\(cT' l)[j * 3+1]? =some (.int .i64 r.q)/\(cT' l)[j * 3+2]? =some (.string r.b)
 |[],j,r,h=>by simp at h
 |x::l,0,r,h=>by simp at h;subst h;exact⟨rfl,rfl,rfl⟩
 |x::l,j+1,r,h=>by have:=jv' l j r (by simpa using h);rw[show(j+1) * 3=j * 3+1+1+1 by omega,show j * 3+1+1+1+1=j * 3+1+1+1+1 from rfl];exact this
def dZ' (L:List UInt8) (k:Nat):List Mod.Rc:=(List.range k).map fun x=>Mod.recIs (Mod.sec L (2+x))
theorem qq' (L:List UInt8) (k:Nat):dZ' L (k+1)=dZ' L k++[Mod.recIs (Mod.sec L (2+k))]:=by
 simp[dZ',List.range_succ]
theorem iy' {L:List UInt8} {last:Nat}:∀ (n x:Nat),(∀y,x<=y->y < x+n->Mod.recOk (Mod.sec L (2+y)) last=true)->Mod.recsFrom L last x n=some ((List.range n).map fun j=>Mod.recIs (Mod.sec L (2+(x+j))))
 |0,_,_=>rfl
 |n+1,x,h=>by have ih:=iy' n (x+1) (fun y r z=>h y (by omega) (by omega));rw[Mod.recsFrom,if_pos (h x (Nat.le_refl _) (by omega)),ih,List.range_succ_eq_map];simp;intro a _;rw[Nat.add_assoc,Nat.add_comm 1 a]
theorem qr' {L:List UInt8} {last n:Nat} (h:∀y,y < n->Mod.recOk (Mod.sec L (2+y)) last=true):Mod.recsFrom L last 0 n=some (dZ' L n):=by
 have:=iy' (L:=L) (last:=last) n 0 (fun y _ r=>h y (by omega));simpa[dZ']using this
theorem oD' {L:List UInt8} {last n y:Nat} (r:y < n) (h:Mod.recOk (Mod.sec L (2+y)) last=false):Mod.recsFrom L last 0 n=none:=by
 cases z:Mod.recsFrom L last 0 n with
 |none=>rfl
 |some rs=>have:=((Mod.recsFrom_some n 0 z).2 y r).1;rw[Nat.zero_add,h]at this;cases this
theorem kw' (w:World) (v:Value) (L:List UInt8) (m:Nat) (last:Nat) (av:ab' w v L) (ax:L.length=m * 64) (bf:2<=m) (bg:m<=150):
  Calls Tryz.prog 112 #[v, .int .u32 last] w fun Z w'=>∃rv,Z= .returned (.tuple #[rv, .bool (Mod.recsFrom L last 0 (m - 2)).isSome])/\(∀rs,Mod.recsFrom L last 0 (m - 2)=some rs->w'.ownsRow w.heap.size 150 3 rv (m - 2) (cT' rs))/\Below w.heap.size w w':=by
 obtain⟨i0,hi,D,F,G⟩:=bp' uT';have I:=fun(k:Nat) (aa:64 * k+64<=L.length) y (z:Below w.heap.size w y)=>y' (ig' y v L k (av.below z) aa (by omega));have J:=fun(k:Nat) (aa:k * 64+64<=L.length)=>Mod.length_sec aa;obtain⟨bh,cap,rfl,ay,az,aU⟩:=av;clear aU;have aV:(((m * 64:Nat):Int)).tdiv 64=(m:Int):=by rw[Int.natCast_mul];exact Int.mul_tdiv_cancel _ (by omega)
 obtain⟨n,aA⟩:∃n,n=m * 64:=⟨_,rfl⟩;rw[ax]at ay az I J ⊢;rw[<-aA]at aV I J ay az ⊢;have ab:∀j,j < m->64 * j+64<=n:=by intro j hj;omega
 clear aA ax;go_enter Tryz.func112,Tryz.ntmps112;go_wp2;go_loopw[6,7,8,9] (fun v6 i _ _ wr=>∃j:Nat,2<=j/\j<=m/\i= .int .i64 j/\wr.ownsRow w.heap.size 150 3 v6 (j - 2) (cT' (dZ' L (j - 2)))/\Below w.heap.size w wr/\∀y,y < j - 2->Mod.recOk (Mod.sec L (2+y)) last=true) (fun _ i _ _ _=>m - (intOf i).toNat)
 case atStart=>exact⟨2,by omega,by omega,rfl,World.ownsRow_nil _ _ _ _,Below.refl _ _,fun y aW=>by omega⟩
 case round=>
  obtain⟨j,bi,bj,rfl,M,z,O⟩:=hrel;by_cases aB:j < m
  ·have ac:=i' (I j (ab j aB) wr z);have aC:=fun y=>y' (lG' (Mod.sec L j) (J j (by have:=ab j aB;omega)) last y);have aD:Mod.sec L j=(L.drop (j * 64)).take 64:=rfl;rw[<-aD]at ac;have Q:2+(j - 2)=j:=by omega
   have aE:dZ' L (j - 2+1)=dZ' L (j - 2)++[Mod.recIs (Mod.sec L j)]:=by rw[qq',Q]
   have aF:Mod.recOk (Mod.sec L j) last=false->Mod.recsFrom L last 0 (m - 2)=none:=fun h=>oD' (y:=j - 2) (by omega) (by rw[Q];exact h);have aG:Mod.recOk (Mod.sec L j) last=true->∀y,y < j+1 - 2->Mod.recOk (Mod.sec L (2+y)) last=true:=fun h y aW=>by
    by_cases e:y < j - 2
    ·exact O y e
    ·obtain rfl:y=j - 2:=by omega
     rw[Q];exact h
   clear aD Q O;generalize Mod.recOk (Mod.sec L j) last=ok at *;generalize Mod.recIs (Mod.sec L j)=R at *;generalize Mod.sec L j=S at *;obtain⟨H,U⟩:∃H,H=cT' (dZ' L (j - 2)):=⟨_,rfl⟩;have aH:H.length=(j - 2) * 3:=by rw[U,dH'];simp[dZ']
   have aI:cT' (dZ' L (j - 2+1))=H++[.int .i64 R.s, .int .i64 R.q, .string R.b]:=by rw[aE,nx',<-U];rfl
   rw[<-U]at M;clear U aE;have ad:=y' M;have aJ:=y' ac;have aK:=y' z;have aX:=z.size;have aY:=y' aH;have V:=y' (And.intro aI (And.intro aF aG));clear M z ac I J ab aH aI aF aG;have aL:=y' (And.intro hi (And.intro D (And.intro F G)));clear hi D F G;go_upto_region 6 with (first
    |(go_at_call 160;refine(i' aJ).mono ?_;rintro Z y ⟨rfl,ah⟩)
    |(go_at_call 162;refine(i' (aC _)).mono ?_;rintro Z aM ⟨r,rfl,aN,aO⟩;unfold vx'))
   have ai:Below wr.heap.size wr aM:=ah.trans (aO.mono ah.size);have aZ:=y' aN;obtain⟨X,aj⟩:∃g,g=aM.heap.size:=⟨_,rfl⟩;rw[<-aj];refine H' (fun x=>x.heap[X]? =some (.cells #[.int .i64 r.s, .int .i64 r.q, .string r.b] 150 (0,0))/\Below wr.heap.size wr x) ?_ ?_
   ·exact⟨by rw[aj];exact heap_alloc_new _ _,ai.alloc ai.size _⟩
   clear ah aO ai aj aC aN;rintro x ⟨Y,ak⟩;have bk:x.cell? ⟨X,0,none⟩=some (.int .i64 r.s):=t' (i:=0) Y;have bl:x.cell? ⟨X,1,none⟩=some (.int .i64 r.q):=t' (i:=1) Y;have bm:x.cell? ⟨X,2,none⟩=some (.string r.b):=t' (i:=2) Y;have aP:=ay' (w':=x) (i' ad) (fun g ba=>ak.block g (World.ownsRow.lt (i' ad) g ba).2);have ao:Below w.heap.size w x:=(i' aK).trans (ak.mono aX);have ap:=y' aP;have aQ:=y' ao;have bb:=ao.size;clear Y ak aP ao ad aK;cases ok with
   |false=>have aR:=(i' V).2.1 rfl;clear V ap aL aY aJ;go_wp2;go_ret2;refine⟨.slice none 0 0,by rw[aR];rfl,fun rs h=>?_,i' aQ⟩;rw[aR]at h;cases h
   |true=>
    obtain rfl:r=R:=(i' aZ) (by trivial);go_upto_region 4 with (at_builtin;obtain⟨hi,D,F,G⟩:=i' aL;refine wpList_append_own _ rfl (.tmp 27) (.tmp 29) 141 rfl w.heap.size 150 i0 _ 3 32 Tryz.underlying141 hi D F G rfl (by decide) u6 (j - 2) H rfl ((i' ap).alloc _) ⟨x.heap.size,0,none⟩ 1 1 [.int .i64 r.s, .int .i64 r.q, .string r.b] rfl rfl bX' (by intro u hu;simp at hu;rcases hu with rfl|rfl|rfl <;> rfl) (by unfold maxLen;omega) (by omega) (by simp;omega) ?_;intro bn bc aq aS _;have au:Below w.heap.size x bc:=((Below.refl _ x).alloc bb _).trans (ac' (B:=w.heap.size) aS (by simp;omega) (fun g' be=>(World.ownsRow.lt (i' ap) g' be).1));replace aq:=y' aq;replace au:=y' au;clear aS hi D F G;go_simp);have bo:IntKind.i64.wrap ((j:Int)+1)=(j:Int)+1:=by rw[IntKind.wrap_i64];omega
    go_wp2;refine⟨⟨j+1,by omega,by omega,by go_num,?_,(i' aQ).trans (i' au),(i' V).2.2 (by trivial)⟩,?_⟩
    ·have e:j+1 - 2=(j - 2)+1:=by omega
     rw[e,(i' V).1];exact i' aq
    ·simp[intOf];omega
  ·have e:j=m:=by omega
   subst e;have aT:=y' (qr' O);clear O;go_wp2;go_ret2;refine⟨_,by rw[i' aT];rfl,fun rs h=>?_,z⟩;rw[i' aT]at h;cases h;exact M
end Go.Proofs.YtamafdcnbcoegabGreat
