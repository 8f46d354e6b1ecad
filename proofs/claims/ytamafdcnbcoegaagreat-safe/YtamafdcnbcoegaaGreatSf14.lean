/-
  Part 14 of a proof: D20, D21, D22.
-/
import Derived.Test.YtamafdcnbcoegaaGreatSf13
set_option maxRecDepth 100000
set_option maxHeartbeats 40000000
namespace Go.Proofs.YtamafdcnbcoegaaGreat
open Go.RowKit
theorem hS' (S:List UInt8) (z:S.length=64) (w:World):Calls Tryz.prog 194 #[.agg (bv S).toArray] w fun f w'=>
  ∃h:Mod.Hd,f= .returned (.tuple #[gn' h, .bool (Mod.headOk S)])/\(Mod.headOk S=true->h=Mod.headIs S)/\Below w.heap.size w w':=by
 by_cases r:S=aP'
 ·subst r;refine(lL' w).mono ?_;rintro f y ⟨rfl,u⟩;have:=Mod.headOk_nought;rw[bN']at this;exact⟨Mod.hd0,by rw[this.1];rfl,fun _=>this.2.symm,u⟩
 ·refine(lW' S z r w).mono ?_;rintro f y ⟨h,rfl,h2,u⟩;refine⟨h,rfl,fun D=>?_,u⟩;rw[h2 D];unfold Mod.headIs;rw[bN',if_neg r]
theorem hT':(Tryz.prog.info? 155).map (·.size)=some 3:=by kernel_rfl
def tW' (f:Mod.Rc):Value:= .agg #[.int .i64 f.s, .int .i64 f.q, .string f.b]
theorem jG' (S:List UInt8) (ac:S.length=64) (aO:S≠aP') (last:Nat) (w:World):Calls Tryz.prog 197 #[.agg (bv S).toArray, .int .u32 last] w fun ad w'=>
  ∃h:Mod.Rc,ad= .returned (.tuple #[tW' h, .bool (Mod.recOk S last)])/\(Mod.recOk S last=true->h=Mod.rcOf S)/\Below w.heap.size w w':=by
 have bW:=fun y=>is' (S:=S) (T:=aP') ac ax' y;rw[decide_eq_false aO]at bW;have aI:Mod.recOk S last=((decide (Mod.lenOf S<=20) && (decide ((S.getD 12 0).toNat < 3) && (decide (1<=(Wire.numAt S 14).toNat) &&decide ((Wire.numAt S 14).toNat<=2147483647)))) && (Mod.isStamp (Mod.opOf S) && (decide (Mod.opOf S<=last) &&decide (Mod.sealR (Mod.opOf S) (Mod.ctOf S) (Mod.rcOf S)=S)))):=by unfold Mod.recOk;rw[bN',decide_eq_false aO,Bool.false_or];rfl
 have aJ:=fun(y:World) (h:y.heap[w.heap.size]? =some (.cells (bv S).toArray 207 (0,0)))=>t' (dH' S ac w.heap.size _ y h 14 50 50 (by omega) (by omega));rw[<-cR' S 14]at aJ;have bd:=fun y=>t' (jp' S ac y);have be:=Mod.opOf_lt S;have bf:=Mod.ctOf_lt S;have bX:=Wire.numAt_range S 14;have ah:=fun y=>t' (jq' (Mod.opOf S) (Mod.ctOf S) y);have bg:(S.getD 13 0).toNat=Mod.lenOf S:=rfl;have aK:∀ (y:World) (j:Nat),j < 64->y.heap[w.heap.size]? =some (.cells (bv S).toArray 207 (0,0))->y.cell? ⟨w.heap.size,j,none⟩=some (.int .u8 (S.getD j 0).toNat):=fun y j hj h=>by rw[m' h,rA' (by omega)]
 have aP:=fun y h=>t' (aK y 12 (by omega) h);have aL:=fun y h=>t' (aK y 13 (by omega) h);rw[bg]at aL;have bh:Mod.rcOf S=⟨(S.getD 12 0).toNat,(Wire.numAt S 14).toNat,⟨((S.drop 18).take (Mod.lenOf S)).toArray⟩⟩:=rfl;have aQ:Mod.lenOf S<=20->(⟨((S.drop 18).take (Mod.lenOf S)).toArray⟩:ByteArray).size<=20:=fun h=>by simp[ByteArray.size];omega
 have aR:Mod.lenOf S<=20->∀ (y:World) (n cap:Nat),n=Mod.lenOf S->y.heap[w.heap.size]? =some (.cells (bv S).toArray 207 (0,0))->(convert 44 9 (.slice (some ⟨w.heap.size,18,none⟩) n cap)).run Tryz.prog y= .ok (.string ⟨((S.drop 18).take (Mod.lenOf S)).toArray⟩) y:=by intro hl y n cap bY h;subst bY;refine fg' (by simp;omega) (fun i hi=>?_);rw[aK y (18+i) (by omega) h];simp[List.getD_eq_getElem?_getD,hi,List.getElem?_drop]
 have aD:=fun(h3:(S.getD 12 0).toNat < 3) (hl:Mod.lenOf S<=20) (y:World)=>t' (fj' (Mod.opOf S) (Mod.ctOf S) (S.getD 12 0).toNat (Wire.numAt S 14).toNat ⟨((S.drop 18).take (Mod.lenOf S)).toArray⟩ y be bf (by omega) (by omega) (aQ hl));have bi:Mod.sealR (Mod.opOf S) (Mod.ctOf S) (Mod.rcOf S)=Mod.sealB (Mod.opOf S) (Mod.ctOf S) (Mod.recIn (S.getD 12 0).toNat (Wire.numAt S 14).toNat (⟨((S.drop 18).take (Mod.lenOf S)).toArray⟩:ByteArray).data.toList):=rfl;have bj:Mod.lenOf S<=20->(Mod.sealR (Mod.opOf S) (Mod.ctOf S) (Mod.rcOf S)).length=64:=fun hl=>Mod.length_sealR (aQ hl);have aS:=fun(hl:Mod.lenOf S<=20) y=>is' (S:=Mod.sealR (Mod.opOf S) (Mod.ctOf S) (Mod.rcOf S)) (T:=S) (bj hl) ac y;have ci:=(S.getD 12 0).toNat_lt;have cj:Mod.lenOf S < 256:=(S.getD 13 0).toNat_lt;rw[bh];rw[<-bi]at aD;clear bi bj aQ aK bg bh aO;obtain⟨b,r⟩:∃b:ByteArray,b=⟨((S.drop 18).take (Mod.lenOf S)).toArray⟩:=⟨_,rfl⟩;rw[<-r]at aR aD ⊢;clear r;obtain⟨T,bk⟩:∃T,T=Mod.sealR (Mod.opOf S) (Mod.ctOf S) (Mod.rcOf S):=⟨_,rfl⟩;rw[<-bk]at aD aS aI;clear bk;obtain⟨ok,bl⟩:∃ok,ok=Mod.recOk S last:=⟨_,rfl⟩;rw[<-bl]at aI ⊢;clear bl;have ck:(Wire.numAt S 14).toNat < 4294967296:=by omega
 clear bX;generalize (Wire.numAt S 14).toNat=q at *;generalize (S.getD 12 0).toNat=sm at *;generalize Mod.opOf S=o at *;generalize Mod.ctOf S=c at *;generalize Mod.lenOf S=F at *;have bZ:IntKind.i64.wrap (F:Int)=(F:Int):=by rw[IntKind.wrap_i64];omega
 have ai:=t' aI;have Z:=t' aR;have aj:=t' aD;have ak:=t' aS;clear aI be bf aR aD aS;go_enter Tryz.func197,Tryz.ntmps197;go_upto_region 1 with fail;refine C' (fun x=>x.heap[w.heap.size]? =some (.cells (bv S).toArray 207 (0,0))/\x.heap[w.heap.size+1]? =some (.cells #[.int .i64 0, .int .i64 0, .string ⟨#[]⟩] 155 (0,0))/\Below w.heap.size w x) (bS' _ _ _) ?_;rintro x ⟨h0,h1,bm⟩;have aM:=t' h0;have bn:=t' h1;have aT:=t' bm;have bo:=lt_of_block h1;clear h0 h1 bm;go_upto_region 3 with (first
  |(refine bO' rfl (.tmp 2) rfl w.heap.size rfl 207 S ac (i' aM) ?_)
  |(refine bV' rfl rfl ?_;go_simp))
 refine aj' (by kernel_rfl)
  [fun v _=>v= .pointer (some ⟨w.heap.size,13,none⟩),fun v _=>v= .int .u8 F,fun v _=>v= .int .i64 F,fun v _=>v= .slice (some ⟨w.heap.size,14,none⟩) 50 50,fun v _=>v= .int .u32 q,fun v _=>v= .agg (bv S).toArray,fun v _=>v= .agg #[.int .u32 o, .int .u64 c],
   fun v Y=>∃g,v= .pointer (some ⟨g,0,none⟩)/\w.heap.size+1 < g/\Y.heap[g]? =some (.cells #[.int .u32 0, .int .u64 0] 201 (0,0)),fun v _=>v= .int .i64 F,fun v _=>v= .int .u32 q,fun _ _=>True]
  [[(2,none)],[(14,some 0)],[(15,some 1)],[(2,none)],[(17,some 3)],[(2,none)],[(19,some 5)],[],[(16,some 2)],[(18,some 4)],[(8,some 7),(20,some 6)]] [some 14,some 15,some 16,some 17,some 18,some 19,some 20,some 8,some 6,some 7,none] [false,false,false,false,false,false,true,true,true,false,false,false,false,false,true,true,true,true,true,true,true,false,false,false,false,false,false,false,false,false,false,false,false,false,false,false,false,false,false,false,false,false,false,false,false,false,false,false,false,false,false,false,false,false,false,false,false,false,false,false,false,false,false]
  10 _ rfl rfl (by kernel_rfl) (by kernel_rfl) (by kernel_rfl) (by kernel_rfl) (by kernel_rfl) (by kernel_rfl) ?_ ?_ ?_
 ·repeat' (first|exact J' _|exact Z'|exact(fun _ y Y h r=>h.imp fun g h=>⟨h.1,h.2.1,(r.block _ (lt_of_block h.2.2)).trans h.2.2⟩)|exact trivial|apply And.intro)
 ·refine⟨?_,?_,?_,?_,?_,?_,?_,?_,?_,?_,trivial⟩;all_goals
   intro a' y r u;have G:=(r.block _ (by omega:w.heap.size < x.heap.size)).trans (i' aM);have ca:=r.size;have cl:=i' (aL y G);have cb:=aJ y G;have ao:=t' G;clear r G aJ aP aL;simp only[I',List.getD_cons_zero,List.getD_cons_succ,Array.getD_eq_getD_getElem?]at u;try simp at u
  ·go_simp;first|exact Below.refl _ _|exact⟨_,rfl,Below.refl _ _,rfl⟩
  ·go_simp;first|exact Below.refl _ _|exact⟨_,rfl,Below.refl _ _,rfl⟩
  ·go_simp;first|exact Below.refl _ _|exact⟨_,rfl,Below.refl _ _,rfl⟩
  ·go_simp;first|exact Below.refl _ _|exact⟨_,rfl,Below.refl _ _,rfl⟩
  ·go_simp;refine(i' cb).mono ?_;rintro ad ap ⟨rfl,J⟩;first|exact J|exact⟨rfl,J⟩|exact⟨_,rfl,J,rfl⟩
  ·rw[if_pos (by rfl)];exact co' (.tmp 2) rfl w.heap.size (by simp[Act.eval,u]) 207 S ac (i' ao) ⟨_,rfl,Below.refl _ _,rfl⟩
  ·go_simp;refine(i' (bd y)).mono ?_;rintro ad ap ⟨rfl,J⟩;first|exact J|exact⟨rfl,J⟩|exact⟨_,rfl,J,rfl⟩
  ·go_simp;exact⟨_,rfl,(Below.refl _ _).alloc (Nat.le_refl _) _,_,rfl,by omega,heap_alloc_new _ _⟩
  ·go_simp;first|exact Below.refl _ _|exact⟨_,rfl,Below.refl _ _,rfl⟩
  ·go_simp;first|exact Below.refl _ _|exact⟨_,rfl,Below.refl _ _,rfl⟩
 ·intro f y X D;simp only[ae',List.take]at D;have bp:=D.2.2.2.2.2.2.1;obtain⟨M,bq,cm,aU⟩:=D.2.2.2.2.2.2.2.1;have br:=D.2.2.2.2.2.2.2.2.1;have aE:=D.2.2.2.2.2.2.2.2.2.1;have G:=(X.block _ (by omega:w.heap.size < x.heap.size)).trans (i' aM);have O:=(X.block _ bo).trans (i' bn);have aq:=t' ((i' aT).trans (X.mono (i' aT).size));clear D X;simp only[R',bp,bq,br,aE];refine wp_store_row 201 (.tmp 8) (.tmp 20) rfl M #[.int .u32 o, .int .u64 c] (by simp[Act.eval]) (by simp[Act.eval]) 201 _ aU (by rw[kS'];rfl) (by simp) (by rw[Array.all_eq_true_iff_forall_mem];intro aF hu;simp at hu;rcases hu with rfl|rfl <;> rfl) ?_;have bt:=setRow_heap y M _ #[.int .u32 o, .int .u64 c] 201 (0,0) aU;have hF:=aR' y M #[.int .u32 o, .int .u64 c];generalize f 14=cn;generalize f 15=co;generalize f 16=cp;generalize f 17=cq;generalize f 18=cr;generalize f 19=cs;generalize y.setRow M #[.int .u32 o, .int .u64 c]=Y at *;have z0:=hF.blk G (by omega);have ax:=hF.blk O (by omega);have bu:=(i' aq).trans (hF.below (i' aq).size (fun k aN e=>by omega));clear hF G O aq aU bp bq br aE aM bn aT bo bd aJ aL;have aV:=i' (aP Y z0);clear aP;have au:=t' z0;have av:=t' bt;have aa:=t' bu;have ay:=m' (i:=0) ax;have az:=m' (i:=1) ax;have aA:=m' (i:=2) ax;simp at ay az aA;have cc:∀i,Y.frozen? ⟨w.heap.size+1,i,none⟩=false:=fun i=>D' ax;have aW:=t' ax;clear z0 bt bu ax;go_simp;go_upto_region 4 with fail;by_cases c1:(20:Int) < (F:Int)
  ·clear Z aj ak ah au av;go_wp2;have H:ok=false:=by rw[i' ai,decide_eq_false (show ¬F<=20 by omega)];simp
   refine bodyPost_ret (v:= .tuple #[.agg #[.int .i64 0, .int .i64 0, .string ⟨#[]⟩], .bool false]) (by simp[results,Tryz.results197,go_sem,ay,az,aA]) rfl ⟨⟨0,0,⟨#[]⟩⟩,(by rw[H];rfl),(fun h=>(by rw[H]at h;cases h)),?_⟩;exact(((i' aa).setCell (p:=⟨w.heap.size+1,0,none⟩) (by simp) _).setCell (p:=⟨w.heap.size+1,1,none⟩) (by simp) _).setCell (p:=⟨w.heap.size+1,2,none⟩) (by simp) _
  ·by_cases c2:(3:Int)<=(sm:Int)
   ·clear Z aj ak ah au av;go_wp2;have H:ok=false:=by rw[i' ai,decide_eq_false (show ¬sm < 3 by omega)];simp
    refine bodyPost_ret (v:= .tuple #[.agg #[.int .i64 0, .int .i64 0, .string ⟨#[]⟩], .bool false]) (by simp[results,Tryz.results197,go_sem,ay,az,aA]) rfl ⟨⟨0,0,⟨#[]⟩⟩,(by rw[H];rfl),(fun h=>(by rw[H]at h;cases h)),?_⟩;exact(((i' aa).setCell (p:=⟨w.heap.size+1,0,none⟩) (by simp) _).setCell (p:=⟨w.heap.size+1,1,none⟩) (by simp) _).setCell (p:=⟨w.heap.size+1,2,none⟩) (by simp) _
   ·by_cases c3:(q:Int) < 1
    ·clear Z aj ak ah au av;go_wp2;have H:ok=false:=by rw[i' ai,decide_eq_false (show ¬1<=q by omega)];simp
     refine bodyPost_ret (v:= .tuple #[.agg #[.int .i64 0, .int .i64 0, .string ⟨#[]⟩], .bool false]) (by simp[results,Tryz.results197,go_sem,ay,az,aA]) rfl ⟨⟨0,0,⟨#[]⟩⟩,(by rw[H];rfl),(fun h=>(by rw[H]at h;cases h)),?_⟩;exact(((i' aa).setCell (p:=⟨w.heap.size+1,0,none⟩) (by simp) _).setCell (p:=⟨w.heap.size+1,1,none⟩) (by simp) _).setCell (p:=⟨w.heap.size+1,2,none⟩) (by simp) _
    ·by_cases c4:(2147483647:Int) < (q:Int)
     ·clear Z aj ak ah au av;go_wp2;have H:ok=false:=by rw[i' ai,decide_eq_false (show ¬q<=2147483647 by omega)];simp
      refine bodyPost_ret (v:= .tuple #[.agg #[.int .i64 0, .int .i64 0, .string ⟨#[]⟩], .bool false]) (by simp[results,Tryz.results197,go_sem,ay,az,aA]) rfl ⟨⟨0,0,⟨#[]⟩⟩,(by rw[H];rfl),(fun h=>(by rw[H]at h;cases h)),?_⟩;exact(((i' aa).setCell (p:=⟨w.heap.size+1,0,none⟩) (by simp) _).setCell (p:=⟨w.heap.size+1,1,none⟩) (by simp) _).setCell (p:=⟨w.heap.size+1,2,none⟩) (by simp) _
     ·have aX:F<=20:=by omega
      have Z:=t' ((i' Z) aX);have aj:=t' ((i' aj) (by omega) aX);have ak:=t' ((i' ak) aX);go_upto_region 6 with fail;have cd:=lt_of_block (i' av);have ce:=lt_of_block (i' aW);have ap:IntKind.i64.wrap (18+(F:Int))=18+(F:Int):=by rw[IntKind.wrap_i64];omega
      have cf:IntKind.i64.wrap (sm:Int)=(sm:Int):=by rw[IntKind.wrap_i64];omega
      have cg:IntKind.i64.wrap (q:Int)=(q:Int):=by rw[IntKind.wrap_i64];omega
      have ch:(18:Int)<=18+(F:Int):=by omega
      have i2:18+(F:Int)<=64:=by omega
      have i3:(0:Int)<=18+(F:Int):=by omega
      have i4:(18+(F:Int)).toNat=18+F:=by omega
      refine aj' (by kernel_rfl)
       [fun v _=>v= .pointer (some ⟨w.heap.size,12,none⟩),fun v _=>v= .int .u8 sm,fun v _=>v= .int .i64 sm,fun v _=>v= .int .u32 q,fun v _=>v= .int .i64 q,fun v _=>v= .int .i64 F,fun v _=>v= .int .i64 (18+(F:Int)),fun v _=>v= .slice (some ⟨w.heap.size,18,none⟩) F 46,fun v _=>v= .string b,fun v _=>v= .agg #[.int .i64 sm, .int .i64 q, .string b],
        fun v y=>∃g,v= .pointer (some ⟨g,0,none⟩)/\Y.heap.size<=g/\y.heap[g]? =some (.cells #[.int .i64 0, .int .i64 0, .string ⟨#[]⟩] 155 (0,0)),fun _ _=>True]
       [[(2,none)],[(37,some 0)],[(38,some 1)],[(7,none)],[(40,some 3)],[(6,none)],[(42,some 5)],[(2,none),(43,some 6)],[(44,some 7)],[(39,some 2),(41,some 4),(45,some 8)],[],[(9,some 10),(46,some 9)]] [some 37,some 38,some 39,some 40,some 41,some 42,some 43,some 44,some 45,some 46,some 9,none] [false,false,false,false,false,false,false,false,false,true,false,false,false,false,false,false,false,false,false,false,false,false,false,false,false,false,false,false,false,false,false,false,false,false,false,false,false,true,true,true,true,true,true,true,true,true,true,false,false,false,false,false,false,false,false,false,false,false,false,false,false,false,false]
       11 _ rfl rfl (by kernel_rfl) (by kernel_rfl) (by kernel_rfl) (by kernel_rfl) (by kernel_rfl) (by kernel_rfl) ?_ ?_ ?_
      ·repeat' (first|exact J' _|exact Z'|exact(fun _ y Y h r=>h.imp fun g h=>⟨h.1,h.2.1,(r.block _ (lt_of_block h.2.2)).trans h.2.2⟩)|exact(fun _ _ _ h _=>h)|exact trivial|apply And.intro)
      ·refine⟨?_,?_,?_,?_,?_,?_,?_,?_,?_,?_,?_,trivial⟩;all_goals
        intro a' y r u;have G:=(r.block _ (by omega:w.heap.size < Y.heap.size)).trans (i' au);have aV:=(r.cell (p:=⟨w.heap.size,12,none⟩) (by show w.heap.size < _;omega)).trans aV;have ca:=r.size;have ao:=t' G;clear r G;simp only[I',List.getD_cons_zero,List.getD_cons_succ,Array.getD_eq_getD_getElem?]at u;try simp at u
       iterate 7
        ·go_simp;first|exact Below.refl _ _|exact⟨_,rfl,Below.refl _ _,rfl⟩
       ·go_simp;first|exact Below.refl _ _|exact⟨_,rfl,Below.refl _ _,rfl⟩
       ·have cu:=(i' Z) y F 46 rfl (i' ao);go_simp;first|exact Below.refl _ _|exact⟨_,rfl,Below.refl _ _,rfl⟩
       ·go_simp;first|exact Below.refl _ _|exact⟨_,rfl,Below.refl _ _,rfl⟩
       ·go_simp;exact⟨_,rfl,(Below.refl _ _).alloc (Nat.le_refl _) _,_,rfl,by omega,heap_alloc_new _ _⟩
      ·intro f y X D;simp only[ae',List.take]at D;have aE:=D.2.2.2.2.2.2.2.2.2.1;obtain⟨I,bw,cv,aY⟩:=D.2.2.2.2.2.2.2.2.2.2.1;have G:=(X.block _ (by omega:w.heap.size < Y.heap.size)).trans (i' au);have O:=(X.block _ ce).trans (i' aW);have Q:=(X.block _ cd).trans (i' av);have aq:=t' ((i' aa).trans (X.mono (i' aa).size));have cw:=(i' aa).size;clear D X;simp only[R',aE,bw];refine wp_store_row 155 (.tmp 9) (.tmp 46) rfl I #[.int .i64 sm, .int .i64 q, .string b] (by simp[Act.eval]) (by simp[Act.eval]) 155 _ aY (by rw[hT'];rfl) (by simp) (by rw[Array.all_eq_true_iff_forall_mem];intro aF hu;simp at hu;rcases hu with rfl|rfl|rfl <;> rfl) ?_;have bz:=setRow_heap y I _ #[.int .i64 sm, .int .i64 q, .string b] 155 (0,0) aY;have hF:=aR' y I #[.int .i64 sm, .int .i64 q, .string b];generalize f 37=cx;generalize f 38=cy;generalize f 39=cz;generalize f 40=cA;generalize f 41=cB;generalize f 42=cC;generalize f 43=cD;generalize f 44=cE;generalize f 45=cF;generalize y.setRow I #[.int .i64 sm, .int .i64 q, .string b]=aF at *;have u0:=hF.blk G (by omega);have u1:=hF.blk O (by omega);have u8:=hF.blk Q (by omega);have bA:=(i' aq).trans (hF.below (i' aq).size (fun k aN e=>by omega));clear hF G O Q aq aY aE bw au aW av aa aV ay az aA cc Z ch i2 i3 i4 ap cf cg bZ;have aZ:=t' u0;have ba:=t' u1;have bb:=t' u8;have bc:=t' bz;have aB:=t' bA;clear u0 u1 u8 bz bA;go_simp;go_upto_region 7 with fail;cases aC:Mod.isStamp o with
       |false=>
        refine Q' (by kernel_rfl)
         [fun v _=>v= .agg #[.int .i64 sm, .int .i64 q, .string b],fun v _=>v= .agg #[.int .u32 o, .int .u64 c],fun v _=>v= .bool false,fun v _=>v= .bool false,fun _ _=>True,fun _ _=>True,fun _ _=>True,fun _ _=>True,fun v _=>v= .bool false,fun v _=>v= .bool false,fun _ _=>True,fun _ _=>True,fun _ _=>True,fun _ _=>True,fun _ _=>True,fun v _=>v= .bool (false),fun _ y=>y.heap[w.heap.size+1]? =some (.cells #[.int .i64 sm, .int .i64 q, .string b] 155 (0,0)),fun v _=>v= .bool (false)]
         [[(9,none)],[(8,none)],[(48,some 1)],[(49,some 2)],[(8,none),(50,some 3)],[(51,some 4),(50,some 3)],[(1,none),(50,some 3)],[(52,some 5),(53,some 6),(50,some 3)],[(50,some 3),(54,some 7)],[(55,some 8)],[(8,none),(56,some 9)],[(9,none),(56,some 9)],[(57,some 10),(58,some 11),(56,some 9)],[(2,none),(56,some 9)],[(59,some 12),(60,some 13),(56,some 9)],[(56,some 9),(61,some 14)],[(4,none),(47,some 0)],[(62,some 15)]] [some 47,some 48,some 49,some 50,some 51,some 52,some 53,some 54,some 55,some 56,some 57,some 58,some 59,some 60,some 61,some 62,none,some 5] [false,false,false,false,false,true,false,false,false,false,false,false,false,false,false,false,false,false,false,false,false,false,false,false,false,false,false,false,false,false,false,false,false,false,false,false,false,false,false,false,false,false,false,false,false,false,false,true,true,true,true,true,true,true,true,true,true,true,true,true,true,true,true]
         [(16,fun k=>k=w.heap.size+1)]
         (by kernel_rfl) (by kernel_rfl) (by kernel_rfl) (by kernel_rfl) (by kernel_rfl) ?_ ?_ ?_ ?_
        ·repeat' (first|exact J' _|exact Z'|exact ba' _ _|exact trivial|apply And.intro)
        ·repeat' (first|exact trivial|exact .inl rfl|exact .inr (.inr (ak' _ _))|exact .inr (.inr (fun _ _ _ _ _=>trivial))|apply And.intro)
        ·refine⟨?_,?_,?_,?_,?_,?_,?_,?_,?_,?_,?_,?_,?_,?_,?_,?_,?_,?_,trivial⟩;all_goals
          intro a' y r u;have G:=r.blk (i' aZ) (aa' (by intro q z;simp at z;subst z;intro (e:w.heap.size=w.heap.size+1);omega));have Q:=r.blk (i' bb) (aa' (by intro q z;simp at z;subst z;intro (e:M=w.heap.size+1);omega));have U:=r.blk (i' bc) (aa' (by intro q z;simp at z;subst z;intro (e:I=w.heap.size+1);omega));have bB:y.cell? ⟨M,0,none⟩=some (.int .u32 o):=m' (i:=0) Q;have bC:y.cell? ⟨M,1,none⟩=some (.int .u64 c):=m' (i:=1) Q;have r0:y.cell? ⟨I,0,none⟩=some (.int .i64 sm):=m' (i:=0) U;have bD:y.cell? ⟨I,1,none⟩=some (.int .i64 q):=m' (i:=1) U;have bE:y.cell? ⟨I,2,none⟩=some (.string b):=m' (i:=2) U;have ao:=t' G;clear G Q U;simp only[I',List.getD_cons_zero,List.getD_cons_succ,Array.getD_eq_getD_getElem?]at u;try simp at u
         iterate 2
          ·clear r;go_simp;first|exact Far.refl _ _|exact⟨_,rfl,Far.refl _ _,rfl⟩
         ·clear r;go_simp;refine(i' (ah y)).mono ?_;rintro ad ap ⟨rfl,J⟩;exact⟨_,rfl,A' J,(by rw[aC];rfl)⟩
         ·clear r;go_simp;first|exact Far.refl _ _|exact⟨_,rfl,Far.refl _ _,rfl⟩
         iterate 4
          ·clear r;have ab:a'.tmps[50]? =some (.bool false):=ey' (by first|exact u|exact u.2|exact u.2.2);go_simp;try trivial
         iterate 2
          ·clear r;go_simp;first|exact Far.refl _ _|exact⟨_,rfl,Far.refl _ _,rfl⟩
         iterate 5
          ·clear r;have ab:a'.tmps[56]? =some (.bool false):=ey' (by first|exact u|exact u.2|exact u.2.2);go_simp;try trivial
         ·clear r;go_simp;first|exact Far.refl _ _|exact⟨_,rfl,Far.refl _ _,rfl⟩
         ·have O:=r.blk (i' ba) (by rintro⟨q,z,g1,g2,bF⟩;simp at z;subst z;exact g1 rfl);clear r;rw[if_pos (by rfl)];refine wp_store_row 155 (.tmp 4) (.tmp 47) rfl (w.heap.size+1) #[.int .i64 sm, .int .i64 q, .string b] (by simp[Act.eval,u]) (by simp[Act.eval,u]) 155 _ O (by rw[hT'];rfl) (by simp) (by rw[Array.all_eq_true_iff_forall_mem];intro aF hu;simp at hu;rcases hu with rfl|rfl|rfl <;> rfl) ?_;exact⟨_,rfl,ac' (.head _) (aR' _ _ _),setRow_heap _ _ _ _ _ _ O⟩
         ·clear r;go_simp;first|exact Far.refl _ _|exact⟨_,rfl,Far.refl _ _,rfl⟩
        ·intro f y hF D;have V:=D.2.2.2.2.2.2.2.2.2.2.2.2.2.2.2.2.1;have aG:=D.2.2.2.2.2.2.2.2.2.2.2.2.2.2.2.2.2.1;have k0:y.cell? ⟨w.heap.size+1,0,none⟩=some (.int .i64 sm):=m' (i:=0) V;have k1:y.cell? ⟨w.heap.size+1,1,none⟩=some (.int .i64 q):=m' (i:=1) V;have k2:y.cell? ⟨w.heap.size+1,2,none⟩=some (.string b):=m' (i:=2) V;have aH:=t' ((i' aB).trans (hF.below (i' aB).size (fun k aN h=>by obtain⟨q,z,h⟩:=h;simp at z;subst z;have h:k=w.heap.size+1:=h;omega)));clear D hF V;simp only[R',aG];generalize f 47=bG;generalize f 48=bH;generalize f 49=bI;generalize f 50=bJ;generalize f 51=bK;generalize f 52=bL;generalize f 53=bM;generalize f 54=bN;generalize f 55=bO;generalize f 56=bP;generalize f 57=bQ;generalize f 58=bR;generalize f 59=bS;generalize f 60=bT;generalize f 61=bU;generalize f 62=bV;go_simp;go_wp2;have H:ok=false:=by rw[i' ai,decide_eq_true (show F<=20 by omega),decide_eq_true (show sm < 3 by omega),decide_eq_true (show 1<=q by omega),decide_eq_true (show q<=2147483647 by omega),aC];rfl
         refine bodyPost_ret (v:= .tuple #[.agg #[.int .i64 sm, .int .i64 q, .string b], .bool (false)]) (by simp[results,Tryz.results197,go_sem,k0,k1,k2]) rfl ⟨⟨sm,q,b⟩,(by rw[H];rfl),(fun _=>rfl),i' aH⟩
       |true=>
        by_cases cG:(o:Int)<=(last:Int)
        ·refine Q' (by kernel_rfl)
          [fun v _=>v= .agg #[.int .i64 sm, .int .i64 q, .string b],fun v _=>v= .agg #[.int .u32 o, .int .u64 c],fun v _=>v= .bool true,fun v _=>v= .bool true,fun v _=>v= .pointer (some ⟨M,0,none⟩),fun v _=>v= .int .u32 o,fun v _=>v= .int .u32 last,fun v _=>v= .bool true,fun v _=>v= .bool true,fun v _=>v= .bool true,fun v _=>v= .agg #[.int .u32 o, .int .u64 c],fun v _=>v= .agg #[.int .i64 sm, .int .i64 q, .string b],fun v _=>v= .agg (bv T).toArray,fun v _=>v= .agg (bv S).toArray,fun v _=>v= .bool (decide (T=S)),fun v _=>v= .bool (decide (T=S)),fun _ y=>y.heap[w.heap.size+1]? =some (.cells #[.int .i64 sm, .int .i64 q, .string b] 155 (0,0)),fun v _=>v= .bool (decide (T=S))]
          [[(9,none)],[(8,none)],[(48,some 1)],[(49,some 2)],[(8,none),(50,some 3)],[(51,some 4),(50,some 3)],[(1,none),(50,some 3)],[(52,some 5),(53,some 6),(50,some 3)],[(50,some 3),(54,some 7)],[(55,some 8)],[(8,none),(56,some 9)],[(9,none),(56,some 9)],[(57,some 10),(58,some 11),(56,some 9)],[(2,none),(56,some 9)],[(59,some 12),(60,some 13),(56,some 9)],[(56,some 9),(61,some 14)],[(4,none),(47,some 0)],[(62,some 15)]] [some 47,some 48,some 49,some 50,some 51,some 52,some 53,some 54,some 55,some 56,some 57,some 58,some 59,some 60,some 61,some 62,none,some 5] [false,false,false,false,false,true,false,false,false,false,false,false,false,false,false,false,false,false,false,false,false,false,false,false,false,false,false,false,false,false,false,false,false,false,false,false,false,false,false,false,false,false,false,false,false,false,false,true,true,true,true,true,true,true,true,true,true,true,true,true,true,true,true]
          [(16,fun k=>k=w.heap.size+1)]
          (by kernel_rfl) (by kernel_rfl) (by kernel_rfl) (by kernel_rfl) (by kernel_rfl) ?_ ?_ ?_ ?_
         ·repeat' (first|exact J' _|exact Z'|exact ba' _ _|exact trivial|apply And.intro)
         ·repeat' (first|exact trivial|exact .inl rfl|exact .inr (.inr (ak' _ _))|exact .inr (.inr (fun _ _ _ _ _=>trivial))|apply And.intro)
         ·refine⟨?_,?_,?_,?_,?_,?_,?_,?_,?_,?_,?_,?_,?_,?_,?_,?_,?_,?_,trivial⟩;all_goals
           intro a' y r u;have G:=r.blk (i' aZ) (aa' (by intro q z;simp at z;subst z;intro (e:w.heap.size=w.heap.size+1);omega));have Q:=r.blk (i' bb) (aa' (by intro q z;simp at z;subst z;intro (e:M=w.heap.size+1);omega));have U:=r.blk (i' bc) (aa' (by intro q z;simp at z;subst z;intro (e:I=w.heap.size+1);omega));have bB:y.cell? ⟨M,0,none⟩=some (.int .u32 o):=m' (i:=0) Q;have bC:y.cell? ⟨M,1,none⟩=some (.int .u64 c):=m' (i:=1) Q;have r0:y.cell? ⟨I,0,none⟩=some (.int .i64 sm):=m' (i:=0) U;have bD:y.cell? ⟨I,1,none⟩=some (.int .i64 q):=m' (i:=1) U;have bE:y.cell? ⟨I,2,none⟩=some (.string b):=m' (i:=2) U;have ao:=t' G;clear G Q U;simp only[I',List.getD_cons_zero,List.getD_cons_succ,Array.getD_eq_getD_getElem?]at u;try simp at u
          iterate 2
           ·clear r;go_simp;first|exact Far.refl _ _|exact⟨_,rfl,Far.refl _ _,rfl⟩
          ·clear r;go_simp;refine(i' (ah y)).mono ?_;rintro ad ap ⟨rfl,J⟩;exact⟨_,rfl,A' J,(by rw[aC];rfl)⟩
          ·clear r;go_simp;first|exact Far.refl _ _|exact⟨_,rfl,Far.refl _ _,rfl⟩
          iterate 4
           ·clear r;have ab:a'.tmps[50]? =some (.bool true):=ey' (by first|exact u|exact u.2|exact u.2.2);go_simp;first|exact Far.refl _ _|exact⟨_,rfl,Far.refl _ _,rfl⟩
          iterate 2
           ·clear r;go_simp;first|exact Far.refl _ _|exact⟨_,rfl,Far.refl _ _,rfl⟩
          iterate 2
           ·clear r;have ab:a'.tmps[56]? =some (.bool true):=ey' (by first|exact u|exact u.2|exact u.2.2);go_simp;first|exact Far.refl _ _|exact⟨_,rfl,Far.refl _ _,rfl⟩
          ·clear r;have ab:a'.tmps[56]? =some (.bool true):=ey' (by first|exact u|exact u.2|exact u.2.2);go_simp;refine(i' ((i' aj) y)).mono ?_;rintro ad ap ⟨rfl,J⟩;exact⟨_,rfl,A' J,rfl⟩
          ·clear r;have ab:a'.tmps[56]? =some (.bool true):=ey' (by first|exact u|exact u.2|exact u.2.2);rw[if_pos (by go_simp)];exact co' (.tmp 2) rfl w.heap.size (by simp[Act.eval,u]) 207 S ac (i' ao) ⟨_,rfl,Far.refl _ _,rfl⟩
          ·clear r;have ab:a'.tmps[56]? =some (.bool true):=ey' (by first|exact u|exact u.2|exact u.2.2);have cH:=(i' ak) y;go_simp;first|exact Far.refl _ _|exact⟨_,rfl,Far.refl _ _,rfl⟩
          ·clear r;go_simp;first|exact Far.refl _ _|exact⟨_,rfl,Far.refl _ _,rfl⟩
          ·have O:=r.blk (i' ba) (by rintro⟨q,z,g1,g2,bF⟩;simp at z;subst z;exact g1 rfl);clear r;rw[if_pos (by rfl)];refine wp_store_row 155 (.tmp 4) (.tmp 47) rfl (w.heap.size+1) #[.int .i64 sm, .int .i64 q, .string b] (by simp[Act.eval,u]) (by simp[Act.eval,u]) 155 _ O (by rw[hT'];rfl) (by simp) (by rw[Array.all_eq_true_iff_forall_mem];intro aF hu;simp at hu;rcases hu with rfl|rfl|rfl <;> rfl) ?_;exact⟨_,rfl,ac' (.head _) (aR' _ _ _),setRow_heap _ _ _ _ _ _ O⟩
          ·clear r;go_simp;first|exact Far.refl _ _|exact⟨_,rfl,Far.refl _ _,rfl⟩
         ·intro f y hF D;have V:=D.2.2.2.2.2.2.2.2.2.2.2.2.2.2.2.2.1;have aG:=D.2.2.2.2.2.2.2.2.2.2.2.2.2.2.2.2.2.1;have k0:y.cell? ⟨w.heap.size+1,0,none⟩=some (.int .i64 sm):=m' (i:=0) V;have k1:y.cell? ⟨w.heap.size+1,1,none⟩=some (.int .i64 q):=m' (i:=1) V;have k2:y.cell? ⟨w.heap.size+1,2,none⟩=some (.string b):=m' (i:=2) V;have aH:=t' ((i' aB).trans (hF.below (i' aB).size (fun k aN h=>by obtain⟨q,z,h⟩:=h;simp at z;subst z;have h:k=w.heap.size+1:=h;omega)));clear D hF V;simp only[R',aG];generalize f 47=bG;generalize f 48=bH;generalize f 49=bI;generalize f 50=bJ;generalize f 51=bK;generalize f 52=bL;generalize f 53=bM;generalize f 54=bN;generalize f 55=bO;generalize f 56=bP;generalize f 57=bQ;generalize f 58=bR;generalize f 59=bS;generalize f 60=bT;generalize f 61=bU;generalize f 62=bV;go_simp;go_wp2;have H:ok=decide (T=S):=by rw[i' ai,decide_eq_true (show F<=20 by omega),decide_eq_true (show sm < 3 by omega),decide_eq_true (show 1<=q by omega),decide_eq_true (show q<=2147483647 by omega),aC,decide_eq_true (show o<=last by omega)];rfl
          refine bodyPost_ret (v:= .tuple #[.agg #[.int .i64 sm, .int .i64 q, .string b], .bool (decide (T=S))]) (by simp[results,Tryz.results197,go_sem,k0,k1,k2]) rfl ⟨⟨sm,q,b⟩,(by rw[H];rfl),(fun _=>rfl),i' aH⟩
        ·refine Q' (by kernel_rfl)
          [fun v _=>v= .agg #[.int .i64 sm, .int .i64 q, .string b],fun v _=>v= .agg #[.int .u32 o, .int .u64 c],fun v _=>v= .bool true,fun v _=>v= .bool true,fun v _=>v= .pointer (some ⟨M,0,none⟩),fun v _=>v= .int .u32 o,fun v _=>v= .int .u32 last,fun v _=>v= .bool false,fun v _=>v= .bool false,fun v _=>v= .bool false,fun _ _=>True,fun _ _=>True,fun _ _=>True,fun _ _=>True,fun _ _=>True,fun v _=>v= .bool (false),fun _ y=>y.heap[w.heap.size+1]? =some (.cells #[.int .i64 sm, .int .i64 q, .string b] 155 (0,0)),fun v _=>v= .bool (false)]
          [[(9,none)],[(8,none)],[(48,some 1)],[(49,some 2)],[(8,none),(50,some 3)],[(51,some 4),(50,some 3)],[(1,none),(50,some 3)],[(52,some 5),(53,some 6),(50,some 3)],[(50,some 3),(54,some 7)],[(55,some 8)],[(8,none),(56,some 9)],[(9,none),(56,some 9)],[(57,some 10),(58,some 11),(56,some 9)],[(2,none),(56,some 9)],[(59,some 12),(60,some 13),(56,some 9)],[(56,some 9),(61,some 14)],[(4,none),(47,some 0)],[(62,some 15)]] [some 47,some 48,some 49,some 50,some 51,some 52,some 53,some 54,some 55,some 56,some 57,some 58,some 59,some 60,some 61,some 62,none,some 5] [false,false,false,false,false,true,false,false,false,false,false,false,false,false,false,false,false,false,false,false,false,false,false,false,false,false,false,false,false,false,false,false,false,false,false,false,false,false,false,false,false,false,false,false,false,false,false,true,true,true,true,true,true,true,true,true,true,true,true,true,true,true,true]
          [(16,fun k=>k=w.heap.size+1)]
          (by kernel_rfl) (by kernel_rfl) (by kernel_rfl) (by kernel_rfl) (by kernel_rfl) ?_ ?_ ?_ ?_
         ·repeat' (first|exact J' _|exact Z'|exact ba' _ _|exact trivial|apply And.intro)
         ·repeat' (first|exact trivial|exact .inl rfl|exact .inr (.inr (ak' _ _))|exact .inr (.inr (fun _ _ _ _ _=>trivial))|apply And.intro)
         ·refine⟨?_,?_,?_,?_,?_,?_,?_,?_,?_,?_,?_,?_,?_,?_,?_,?_,?_,?_,trivial⟩;all_goals
           intro a' y r u;have G:=r.blk (i' aZ) (aa' (by intro q z;simp at z;subst z;intro (e:w.heap.size=w.heap.size+1);omega));have Q:=r.blk (i' bb) (aa' (by intro q z;simp at z;subst z;intro (e:M=w.heap.size+1);omega));have U:=r.blk (i' bc) (aa' (by intro q z;simp at z;subst z;intro (e:I=w.heap.size+1);omega));have bB:y.cell? ⟨M,0,none⟩=some (.int .u32 o):=m' (i:=0) Q;have bC:y.cell? ⟨M,1,none⟩=some (.int .u64 c):=m' (i:=1) Q;have r0:y.cell? ⟨I,0,none⟩=some (.int .i64 sm):=m' (i:=0) U;have bD:y.cell? ⟨I,1,none⟩=some (.int .i64 q):=m' (i:=1) U;have bE:y.cell? ⟨I,2,none⟩=some (.string b):=m' (i:=2) U;have ao:=t' G;clear G Q U;simp only[I',List.getD_cons_zero,List.getD_cons_succ,Array.getD_eq_getD_getElem?]at u;try simp at u
          iterate 2
           ·clear r;go_simp;first|exact Far.refl _ _|exact⟨_,rfl,Far.refl _ _,rfl⟩
          ·clear r;go_simp;refine(i' (ah y)).mono ?_;rintro ad ap ⟨rfl,J⟩;exact⟨_,rfl,A' J,(by rw[aC];rfl)⟩
          ·clear r;go_simp;first|exact Far.refl _ _|exact⟨_,rfl,Far.refl _ _,rfl⟩
          iterate 4
           ·clear r;have ab:a'.tmps[50]? =some (.bool true):=ey' (by first|exact u|exact u.2|exact u.2.2);go_simp;first|exact Far.refl _ _|exact⟨_,rfl,Far.refl _ _,rfl⟩
          iterate 2
           ·clear r;go_simp;first|exact Far.refl _ _|exact⟨_,rfl,Far.refl _ _,rfl⟩
          iterate 5
           ·clear r;have ab:a'.tmps[56]? =some (.bool false):=ey' (by first|exact u|exact u.2|exact u.2.2);go_simp;try trivial
          ·clear r;go_simp;first|exact Far.refl _ _|exact⟨_,rfl,Far.refl _ _,rfl⟩
          ·have O:=r.blk (i' ba) (by rintro⟨q,z,g1,g2,bF⟩;simp at z;subst z;exact g1 rfl);clear r;rw[if_pos (by rfl)];refine wp_store_row 155 (.tmp 4) (.tmp 47) rfl (w.heap.size+1) #[.int .i64 sm, .int .i64 q, .string b] (by simp[Act.eval,u]) (by simp[Act.eval,u]) 155 _ O (by rw[hT'];rfl) (by simp) (by rw[Array.all_eq_true_iff_forall_mem];intro aF hu;simp at hu;rcases hu with rfl|rfl|rfl <;> rfl) ?_;exact⟨_,rfl,ac' (.head _) (aR' _ _ _),setRow_heap _ _ _ _ _ _ O⟩
          ·clear r;go_simp;first|exact Far.refl _ _|exact⟨_,rfl,Far.refl _ _,rfl⟩
         ·intro f y hF D;have V:=D.2.2.2.2.2.2.2.2.2.2.2.2.2.2.2.2.1;have aG:=D.2.2.2.2.2.2.2.2.2.2.2.2.2.2.2.2.2.1;have k0:y.cell? ⟨w.heap.size+1,0,none⟩=some (.int .i64 sm):=m' (i:=0) V;have k1:y.cell? ⟨w.heap.size+1,1,none⟩=some (.int .i64 q):=m' (i:=1) V;have k2:y.cell? ⟨w.heap.size+1,2,none⟩=some (.string b):=m' (i:=2) V;have aH:=t' ((i' aB).trans (hF.below (i' aB).size (fun k aN h=>by obtain⟨q,z,h⟩:=h;simp at z;subst z;have h:k=w.heap.size+1:=h;omega)));clear D hF V;simp only[R',aG];generalize f 47=bG;generalize f 48=bH;generalize f 49=bI;generalize f 50=bJ;generalize f 51=bK;generalize f 52=bL;generalize f 53=bM;generalize f 54=bN;generalize f 55=bO;generalize f 56=bP;generalize f 57=bQ;generalize f 58=bR;generalize f 59=bS;generalize f 60=bT;generalize f 61=bU;generalize f 62=bV;go_simp;go_wp2;have H:ok=false:=by rw[i' ai,decide_eq_true (show F<=20 by omega),decide_eq_true (show sm < 3 by omega),decide_eq_true (show 1<=q by omega),decide_eq_true (show q<=2147483647 by omega),aC,decide_eq_false (show ¬o<=last by omega)];rfl
          refine bodyPost_ret (v:= .tuple #[.agg #[.int .i64 sm, .int .i64 q, .string b], .bool (false)]) (by simp[results,Tryz.results197,go_sem,k0,k1,k2]) rfl ⟨⟨sm,q,b⟩,(by rw[H];rfl),(fun _=>rfl),i' aH⟩
theorem qY' (o c a b d:Nat) (r:o≠0) (w:World):(Op.equalIn 10000 217 (.agg #[.int .u32 o, .int .u64 c, .int .i64 a, .int .i64 b, .int .i64 d]) (.agg #[.int .u32 0, .int .u64 0, .int .i64 0, .int .i64 0, .int .i64 0])).run Tryz.prog w= .ok false w:=by
 have f:((o:Int) ==0)=false:=by simp;omega
 rw[run_equalIn_struct w 9999 217 _ _ (by kernel_rfl) (by kernel_rfl)];simp[go_sem,f]
theorem sI' (h g:Mod.Hd):Mod.newer h.o h.c g.o g.c=Mod.newer2 h g:=rfl
def tX' (L:List UInt8) (w:World) (u:Ending) (w':World):Prop:=
 ∃ (h:Mod.Hd) (k:Nat),u= .returned (.tuple #[gn' h, .int .i64 k, .bool (Mod.newest L).isSome])/\(∀f r,Mod.newest L=some (f,r)->h=f/\k=r)/\Below w.heap.size w w'
theorem kT' {L:List UInt8} {w y:World} (h:Mod.newest L=none) (h2:Mod.Hd) (k:Nat) (f:Below w.heap.size w y):tX' L w (.returned (.tuple #[gn' h2, .int .i64 k, .bool false])) y:=
 ⟨h2,k,(by rw[h];rfl),(fun r u e=>(by rw[h]at e;cases e)),f⟩
theorem iN' {L:List UInt8} {w y:World} {h2:Mod.Hd} {k:Nat} (h:Mod.newest L=some (h2,k)) (f:Below w.heap.size w y):tX' L w (.returned (.tuple #[gn' h2, .int .i64 k, .bool true])) y:=
 ⟨h2,k,(by rw[h];rfl),(fun r u e=>(by rw[h]at e;cases e;exact⟨rfl,rfl⟩)),f⟩
theorem eT' {w r:World} {g:Nat} (u:Below w.heap.size w r) (f:w.heap.size<=g) (a b c d e:Value):Below w.heap.size w (((((r.setCell ⟨g,0,none⟩ a).setCell ⟨g,1,none⟩ b).setCell ⟨g,2,none⟩ c).setCell ⟨g,3,none⟩ d).setCell ⟨g,4,none⟩ e):=
 ((((u.setCell (p:=⟨g,0,none⟩) f _).setCell (p:=⟨g,1,none⟩) f _).setCell (p:=⟨g,2,none⟩) f _).setCell (p:=⟨g,3,none⟩) f _).setCell (p:=⟨g,4,none⟩) f _
theorem kU' (w:World) (v:Value) (L:List UInt8) (bu:Y' w v L) (ch:128<=L.length) (bG:L.length<=10000):
  Calls Tryz.prog 146 #[v] w (tX' L w):=by
 have bb:=fun(k:Nat) (bc:64 * k+64<=L.length) y (r:Below w.heap.size w y)=>t' (hi' y v L k (bu.below r) bc bG);have bd:=bb 0 (by omega);have be:=bb 1 (by omega);have bf:=fun y=>t' (hS' (Mod.sec L 0) (Mod.length_sec (by omega)) y);have bg:=fun y=>t' (hS' (Mod.sec L 1) (Mod.length_sec (by omega)) y);have aS:Mod.newest L=if Mod.headOk (Mod.sec L 0)=true/\Mod.headOk (Mod.sec L 1)=true then
  if Mod.newer2 (Mod.headIs (Mod.sec L 1)) (Mod.headIs (Mod.sec L 0))=true then some (Mod.headIs (Mod.sec L 1),1)
  else if Mod.newer2 (Mod.headIs (Mod.sec L 0)) (Mod.headIs (Mod.sec L 1))=true then some (Mod.headIs (Mod.sec L 0),0)
  else if(Mod.headIs (Mod.sec L 0)).o=0/\(Mod.headIs (Mod.sec L 1)).o=0 then some (Mod.hd0,0)else none
 else none:=rfl
 have bh:Mod.headOk (Mod.sec L 0)=true->(Mod.headIs (Mod.sec L 0)).o=0->Mod.headIs (Mod.sec L 0)=Mod.hd0:=fun h e=>by
  rcases Mod.headOk_some h with ⟨_,ai⟩|⟨ai,_⟩
  ·exact ai
  ·rw[e]at ai;cases ai
 have aH:Mod.headOk (Mod.sec L 1)=true->(Mod.headIs (Mod.sec L 1)).o=0->Mod.headIs (Mod.sec L 1)=Mod.hd0:=fun h e=>by
  rcases Mod.headOk_some h with ⟨_,ai⟩|⟨ai,_⟩
  ·exact ai
  ·rw[e]at ai;cases ai
 obtain⟨aJ,aT⟩:∃aJ,aJ=Mod.sec L 0:=⟨_,rfl⟩;obtain⟨aK,aU⟩:∃aK,aK=Mod.sec L 1:=⟨_,rfl⟩;unfold Mod.sec at aT aU;rw[<-aT]at bd;rw[<-aU]at be;have aV:Mod.sec L 0=aJ:=aT.symm;have aW:Mod.sec L 1=aK:=aU.symm;rw[aV]at bf aS bh;rw[aW]at bg aS aH;clear bb aT aU aV aW bu;generalize Mod.headOk aJ=k0 at *;generalize Mod.headOk aK=k1 at *;generalize Mod.headIs aJ=bH at *;generalize Mod.headIs aK=bI at *;have ax:=t' aS;have ay:=t' bh;have aE:=t' aH;clear aS bh aH;go_enter Tryz.func146,Tryz.ntmps146;go_upto_region 2 with (first
  |(go_at_call 195;refine(i' (bd _ ((Below.refl _ _).alloc (Nat.le_refl _) _))).mono ?_;rintro az y ⟨rfl,aX⟩)
  |(go_at_call 194;refine(i' (bf _)).mono ?_;rintro az bi ⟨f,rfl,bw,aY⟩;unfold gn'))
 have aL:=t' bw;clear bw;have aH:=aX.size;have bJ:=aY.size;simp only[World.size_alloc]at aH;have bz:bi.heap[w.heap.size]? =some (.cells #[.int .u32 0, .int .u64 0, .int .i64 0, .int .i64 0, .int .i64 0] 217 (0,0)):=(aY.block _ (by omega)).trans ((aX.block _ (by simp)).trans (heap_alloc_new w _));have bA:Below w.heap.size w bi:=(((Below.refl _ _).alloc (Nat.le_refl _) _).trans (aX.mono (by simp))).trans (aY.mono (by omega));obtain⟨z,bj⟩:∃g,g=bi.heap.size:=⟨_,rfl⟩;rw[<-bj];refine C' (fun x=>x.heap[w.heap.size]? =some (.cells #[.int .u32 0, .int .u64 0, .int .i64 0, .int .i64 0, .int .i64 0] 217 (0,0))/\x.heap[z]? =some (.cells #[.int .u32 f.o, .int .u64 f.c, .int .i64 f.a, .int .i64 f.b, .int .i64 f.d] 217 (0,0))/\Below w.heap.size w x) ?_ ?_
 ·exact⟨(hao _ _ (by omega)).trans bz,by rw[bj];exact heap_alloc_new _ _,bA.alloc (by omega) _⟩
 have ci:w.heap.size < z:=by omega
 clear bz bA aH bJ aX aY bj;rintro x ⟨h0,h5,aM⟩;have aj:=t' h0;have Q:=t' h5;have J:=t' aM;have bK:=lt_of_block h5;clear h0 h5 aM;go_upto_region 3 with (first
  |(go_at_call 195;refine(i' (be x (i' J))).mono ?_;rintro az cj ⟨rfl,bk⟩)
  |(go_at_call 194;refine(i' (bg _)).mono ?_;rintro az bB ⟨s,rfl,bC,bl⟩;unfold gn'))
 have aN:=t' bC;have bD:=bk.size;have bL:=bl.size;obtain⟨D,bm⟩:∃g,g=bB.heap.size:=⟨_,rfl⟩;rw[<-bm];refine C' (fun x=>x.heap[w.heap.size]? =some (.cells #[.int .u32 0, .int .u64 0, .int .i64 0, .int .i64 0, .int .i64 0] 217 (0,0))/\x.heap[z]? =some (.cells #[.int .u32 f.o, .int .u64 f.c, .int .i64 f.a, .int .i64 f.b, .int .i64 f.d] 217 (0,0))/\x.heap[D]? =some (.cells #[.int .u32 s.o, .int .u64 s.c, .int .i64 s.a, .int .i64 s.b, .int .i64 s.d] 217 (0,0))/\Below w.heap.size w x) ?_ ?_
 ·have r:Below x.heap.size x bB:=bk.trans (bl.mono bD);exact⟨(hao _ _ (by omega)).trans ((r.block _ (by omega)).trans (i' aj)),(hao _ _ (by omega)).trans ((r.block _ (by omega)).trans (i' Q)),by rw[bm];exact heap_alloc_new _ _,((i' J).trans (r.mono (by omega))).alloc (by omega) _⟩
 have ck:z < D:=by omega
 clear aj Q J bk bl bD bL bm bK bC bd be bf bg;rintro U ⟨h0,h5,aO,aM⟩;have X:U.cell? ⟨w.heap.size,0,none⟩=some (.int .u32 0):=m' (i:=0) h0;have Y:U.cell? ⟨w.heap.size,1,none⟩=some (.int .u64 0):=m' (i:=1) h0;have Z:U.cell? ⟨w.heap.size,2,none⟩=some (.int .i64 0):=m' (i:=2) h0;have aa:U.cell? ⟨w.heap.size,3,none⟩=some (.int .i64 0):=m' (i:=3) h0;have ab:U.cell? ⟨w.heap.size,4,none⟩=some (.int .i64 0):=m' (i:=4) h0;have aP:∀i,U.frozen? ⟨w.heap.size,i,none⟩=false:=fun i=>D' h0;have ak:U.cell? ⟨z,0,none⟩=some (.int .u32 f.o):=m' (i:=0) h5;have ao:U.cell? ⟨z,1,none⟩=some (.int .u64 f.c):=m' (i:=1) h5;have ap:U.cell? ⟨D,0,none⟩=some (.int .u32 s.o):=m' (i:=0) aO;have aq:U.cell? ⟨D,1,none⟩=some (.int .u64 s.c):=m' (i:=1) aO;have aj:=t' h0;have Q:=t' h5;have au:=t' aO;have J:=t' aM;have cl:=lt_of_block aO;clear h0 h5 aO aM;cases k0 with
 |false=>clear aL aN ay aE ak ao ap aq Q au;go_wp2;refine bodyPost_ret (v:= .tuple #[.agg #[.int .u32 0, .int .u64 0, .int .i64 0, .int .i64 0, .int .i64 0], .int .i64 0, .bool false]) (by simp[results,Tryz.results146,go_sem,X,Y,Z,aa,ab]) rfl ?_;exact kT' (by rw[i' ax];simp) Mod.hd0 0 (eT' (i' J) (Nat.le_refl _) _ _ _ _ _)
 |true=>
  obtain rfl:f=bH:=(i' aL) rfl;cases k1 with
  |false=>clear aL aN ay aE ak ao ap aq Q au;go_wp2;refine bodyPost_ret (v:= .tuple #[.agg #[.int .u32 0, .int .u64 0, .int .i64 0, .int .i64 0, .int .i64 0], .int .i64 0, .bool false]) (by simp[results,Tryz.results146,go_sem,X,Y,Z,aa,ab]) rfl ?_;exact kT' (by rw[i' ax];simp) Mod.hd0 0 (eT' (i' J) (Nat.le_refl _) _ _ _ _ _)
  |true=>
   obtain rfl:s=bI:=(i' aN) rfl;have aF:=fun y=>t' (jc' s.o s.c f.o f.c y);have aI:=fun y=>t' (jc' f.o f.c s.o s.c y);rw[sI']at aF aI;cases I:Mod.newer2 s f with
   |true=>
    go_upto_region 6 with (go_at_call 196;refine(i' (aF _)).mono ?_;rw[I];rintro az ac ⟨rfl,G⟩)
    have bE:=G.size;have M:=(G.block _ (by omega)).trans (i' aj);have aA:=(G.block _ (by omega)).trans (i' Q);have aB:=(G.block _ (by omega)).trans (i' au);have aC:=t' ((i' J).trans (G.mono (i' J).size));clear G ak ao ap aq X Y Z aa ab aP aF aI ay aE;have aV:ac.cell? ⟨D,0,none⟩=some (.int .u32 s.o):=m' (i:=0) aB;have aW:ac.cell? ⟨D,1,none⟩=some (.int .u64 s.c):=m' (i:=1) aB;have ai:ac.cell? ⟨D,2,none⟩=some (.int .i64 s.a):=m' (i:=2) aB;have bM:ac.cell? ⟨D,3,none⟩=some (.int .i64 s.b):=m' (i:=3) aB;have bN:ac.cell? ⟨D,4,none⟩=some (.int .i64 s.d):=m' (i:=4) aB;have X:ac.cell? ⟨w.heap.size,0,none⟩=some (.int .u32 0):=m' (i:=0) M;have Y:ac.cell? ⟨w.heap.size,1,none⟩=some (.int .u64 0):=m' (i:=1) M;have Z:ac.cell? ⟨w.heap.size,2,none⟩=some (.int .i64 0):=m' (i:=2) M;have aa:ac.cell? ⟨w.heap.size,3,none⟩=some (.int .i64 0):=m' (i:=3) M;have ab:ac.cell? ⟨w.heap.size,4,none⟩=some (.int .i64 0):=m' (i:=4) M;have aP:∀i,ac.frozen? ⟨w.heap.size,i,none⟩=false:=fun i=>D' M;clear M aA aB aj Q au J;have aZ:=t' I;clear I;go_wp2;refine bodyPost_ret (v:= .tuple #[.agg #[.int .u32 s.o, .int .u64 s.c, .int .i64 s.a, .int .i64 s.b, .int .i64 s.d], .int .i64 1, .bool true]) (by simp[results,Tryz.results146,go_sem,X,Y,Z,aa,ab]) rfl ?_;exact iN' (by rw[i' ax,i' aZ];simp) (eT' (i' aC) (Nat.le_refl _) _ _ _ _ _)
   |false=>
    cases aD:Mod.newer2 f s with
    |true=>
     go_upto_region 7 with (go_at_call 196;refine(i' (aF _)).mono ?_;rw[I];rintro az ac ⟨rfl,G⟩)
     have ak:=(G.cell (p:=⟨z,0,none⟩) (by show z < _;omega)).trans ak;have ao:=(G.cell (p:=⟨z,1,none⟩) (by show z < _;omega)).trans ao;have ap:=(G.cell (p:=⟨D,0,none⟩) (by show D < _;omega)).trans ap;have aq:=(G.cell (p:=⟨D,1,none⟩) (by show D < _;omega)).trans aq;have bn:=G.size;have aQ:=t' G;clear G;go_upto_region 8 with (go_at_call 196;refine(i' (aI _)).mono ?_;rw[aD];rintro az V ⟨rfl,aR⟩);have r:Below U.heap.size U V:=(i' aQ).trans (aR.mono bn);clear aR aQ;have bE:=r.size;have M:=(r.block _ (by omega)).trans (i' aj);have aA:=(r.block _ (by omega)).trans (i' Q);have aB:=(r.block _ (by omega)).trans (i' au);have aC:=t' ((i' J).trans (r.mono (i' J).size));clear r ak ao ap aq X Y Z aa ab aP aF aI ay aE;have aV:V.cell? ⟨z,0,none⟩=some (.int .u32 f.o):=m' (i:=0) aA;have aW:V.cell? ⟨z,1,none⟩=some (.int .u64 f.c):=m' (i:=1) aA;have ai:V.cell? ⟨z,2,none⟩=some (.int .i64 f.a):=m' (i:=2) aA;have bM:V.cell? ⟨z,3,none⟩=some (.int .i64 f.b):=m' (i:=3) aA;have bN:V.cell? ⟨z,4,none⟩=some (.int .i64 f.d):=m' (i:=4) aA;have X:V.cell? ⟨w.heap.size,0,none⟩=some (.int .u32 0):=m' (i:=0) M;have Y:V.cell? ⟨w.heap.size,1,none⟩=some (.int .u64 0):=m' (i:=1) M;have Z:V.cell? ⟨w.heap.size,2,none⟩=some (.int .i64 0):=m' (i:=2) M;have aa:V.cell? ⟨w.heap.size,3,none⟩=some (.int .i64 0):=m' (i:=3) M;have ab:V.cell? ⟨w.heap.size,4,none⟩=some (.int .i64 0):=m' (i:=4) M;have aP:∀i,V.frozen? ⟨w.heap.size,i,none⟩=false:=fun i=>D' M;clear M aA aB aj Q au J;have aZ:=t' (And.intro I aD);clear I aD;go_wp2;refine bodyPost_ret (v:= .tuple #[.agg #[.int .u32 f.o, .int .u64 f.c, .int .i64 f.a, .int .i64 f.b, .int .i64 f.d], .int .i64 0, .bool true]) (by simp[results,Tryz.results146,go_sem,X,Y,Z,aa,ab]) rfl ?_;exact iN' (by rw[i' ax,(i' aZ).1,(i' aZ).2];simp) (eT' (i' aC) (Nat.le_refl _) _ _ _ _ _)
    |false=>
     go_upto_region 7 with (go_at_call 196;refine(i' (aF _)).mono ?_;rw[I];rintro az ac ⟨rfl,G⟩)
     have ak:=(G.cell (p:=⟨z,0,none⟩) (by show z < _;omega)).trans ak;have ao:=(G.cell (p:=⟨z,1,none⟩) (by show z < _;omega)).trans ao;have ap:=(G.cell (p:=⟨D,0,none⟩) (by show D < _;omega)).trans ap;have aq:=(G.cell (p:=⟨D,1,none⟩) (by show D < _;omega)).trans aq;have bn:=G.size;have aQ:=t' G;clear G;go_upto_region 9 with (go_at_call 196;refine(i' (aI _)).mono ?_;rw[aD];rintro az V ⟨rfl,aR⟩);have r:Below U.heap.size U V:=(i' aQ).trans (aR.mono bn);clear aR aQ;have bE:=r.size;have aj:=t' ((r.block _ (by omega)).trans (i' aj));have Q:=t' ((r.block _ (by omega)).trans (i' Q));have au:=t' ((r.block _ (by omega)).trans (i' au));have aC:=t' ((i' J).trans (r.mono (i' J).size));clear r ak ao ap aq X Y Z aa ab aP aF aI J;by_cases aG:f.o=0
     ·have bo:s.o=0:=by
       have ba:=(i' ay) (by trivial) aG;rw[ba]at I;unfold Mod.newer2 Mod.hd0 at I;simp only at I;by_cases h:s.o=0
       ·exact h
       ·rw[if_pos h,decide_eq_true (by omega)]at I;cases I
      have ba:=(i' ay) (by trivial) aG;have bF:=(i' aE) (by trivial) bo;have bp:Hid (Mod.newest L=some (Mod.hd0,0)):=by show _= _;rw[i' ax,I,aD];simp[aG,bo]
      rw[ba]at Q;rw[bF]at au;clear ax ay aE aL aN I aD ba bF aG bo;have bO:∀y:World,(Op.equalIn 10000 217 (.agg #[.int .u32 0, .int .u64 0, .int .i64 0, .int .i64 0, .int .i64 0]) (.agg #[.int .u32 0, .int .u64 0, .int .i64 0, .int .i64 0, .int .i64 0])).run Tryz.prog y= .ok true y:=fun y=>by kernel_rfl
      refine Q' (by kernel_rfl)
       [fun v _=>v= .agg #[.int .u32 0, .int .u64 0, .int .i64 0, .int .i64 0, .int .i64 0],fun v _=>v= .agg #[.int .u32 0, .int .u64 0, .int .i64 0, .int .i64 0, .int .i64 0],fun v _=>v= .agg #[.int .u32 0, .int .u64 0, .int .i64 0, .int .i64 0, .int .i64 0],fun v _=>v= .bool true,fun v _=>v= .bool true,fun v _=>v= .agg #[.int .u32 0, .int .u64 0, .int .i64 0, .int .i64 0, .int .i64 0],fun v _=>v= .agg #[.int .u32 0, .int .u64 0, .int .i64 0, .int .i64 0, .int .i64 0],fun v _=>v= .bool true,fun v _=>v= .bool true,fun _ u=>u.heap[w.heap.size]? =some (.cells #[.int .u32 0, .int .u64 0, .int .i64 0, .int .i64 0, .int .i64 0] 217 (0,0)),fun v _=>v= .int .i64 0,fun v _=>v= .bool true]
       [[],[(5,none)],[],[(44,some 1),(45,some 2)],[(46,some 3)],[(7,none),(47,some 4)],[(47,some 4)],[(48,some 5),(49,some 6),(47,some 4)],[(47,some 4),(50,some 7)],[(2,none),(43,some 0)],[],[(51,some 8)]] [some 43,some 44,some 45,some 46,some 47,some 48,some 49,some 50,some 51,none,some 3,some 4] [false,false,false,true,true,false,false,false,false,false,false,false,false,false,false,false,false,false,false,false,false,false,false,false,false,false,false,false,false,false,false,false,false,false,false,false,false,false,false,false,false,false,false,true,true,true,true,true,true,true,true,true]
       [(9,fun k=>k=w.heap.size)]
       (by kernel_rfl) (by kernel_rfl) (by kernel_rfl) (by kernel_rfl) (by kernel_rfl) ?_ ?_ ?_ ?_
      ·repeat' (first|exact J' _|exact Z'|exact ba' _ _|exact trivial|apply And.intro)
      ·repeat' (first|exact trivial|exact .inl rfl|exact .inr (.inr (ak' _ _))|exact .inr (.inr (fun _ _ _ _ _=>trivial))|apply And.intro)
      ·refine⟨?_,?_,?_,?_,?_,?_,?_,?_,?_,?_,?_,?_,trivial⟩;all_goals
        intro a u r O;have z5:=r.blk (i' Q) (aa' (by intro q F;simp at F;subst F;intro (e:z=w.heap.size);omega));have ad:=r.blk (i' au) (aa' (by intro q F;simp at F;subst F;intro (e:D=w.heap.size);omega));have ak:u.cell? ⟨z,0,none⟩=some (.int .u32 0):=m' (i:=0) z5;have ap:u.cell? ⟨D,0,none⟩=some (.int .u32 0):=m' (i:=0) ad;have ao:u.cell? ⟨z,1,none⟩=some (.int .u64 0):=m' (i:=1) z5;have aq:u.cell? ⟨D,1,none⟩=some (.int .u64 0):=m' (i:=1) ad;have bP:u.cell? ⟨z,2,none⟩=some (.int .i64 0):=m' (i:=2) z5;have bQ:u.cell? ⟨D,2,none⟩=some (.int .i64 0):=m' (i:=2) ad;have bR:u.cell? ⟨z,3,none⟩=some (.int .i64 0):=m' (i:=3) z5;have bS:u.cell? ⟨D,3,none⟩=some (.int .i64 0):=m' (i:=3) ad;have bT:u.cell? ⟨z,4,none⟩=some (.int .i64 0):=m' (i:=4) z5;have bU:u.cell? ⟨D,4,none⟩=some (.int .i64 0):=m' (i:=4) ad;clear z5 ad;simp only[I',List.getD_cons_zero,List.getD_cons_succ,Array.getD_eq_getD_getElem?]at O;try simp at O
       iterate 5
        ·clear r;go_simp;exact⟨_,rfl,Far.refl _ _,rfl⟩
       iterate 3
        ·clear r;have bV:a.tmps[47]? =some (.bool true):=ey' (by first|exact O|exact O.2|exact O.2.2);go_simp;exact⟨_,rfl,Far.refl _ _,rfl⟩
       ·clear r;go_simp;exact⟨_,rfl,Far.refl _ _,rfl⟩
       ·have z0:=r.blk (i' aj) (by rintro⟨q,F,g1,g2,bW⟩;simp at F;subst F;exact g1 rfl);clear r;rw[if_pos (by rfl)];refine wp_store_row 217 (.tmp 2) (.tmp 43) rfl w.heap.size #[.int .u32 0, .int .u64 0, .int .i64 0, .int .i64 0, .int .i64 0] (by simp[Act.eval,O]) (by simp[Act.eval,O]) 217 _ z0 (by rw[fW'];rfl) (by simp) (by rw[Array.all_eq_true_iff_forall_mem];intro bX hu;simp at hu;rcases hu with rfl|rfl|rfl <;> rfl) ?_;exact⟨_,rfl,ac' (.head _) (aR' _ _ _),setRow_heap _ _ _ _ _ _ z0⟩
       iterate 2
        ·clear r;go_simp;exact⟨_,rfl,Far.refl _ _,rfl⟩
      ·intro H u hF av;have ah:=av.2.2.2.2.2.2.2.2.2.1;have bq:=av.2.2.2.2.2.2.2.2.2.2.1;have br:=av.2.2.2.2.2.2.2.2.2.2.2.1;have X:u.cell? ⟨w.heap.size,0,none⟩=some (.int .u32 0):=m' (i:=0) ah;have Y:u.cell? ⟨w.heap.size,1,none⟩=some (.int .u64 0):=m' (i:=1) ah;have Z:u.cell? ⟨w.heap.size,2,none⟩=some (.int .i64 0):=m' (i:=2) ah;have aa:u.cell? ⟨w.heap.size,3,none⟩=some (.int .i64 0):=m' (i:=3) ah;have ab:u.cell? ⟨w.heap.size,4,none⟩=some (.int .i64 0):=m' (i:=4) ah;have bt:=t' ((i' aC).trans (hF.below (i' aC).size (fun k bc h=>by obtain⟨q,F,h⟩:=h;simp at F;subst F;have h:k=w.heap.size:=h;omega)));clear av hF ah;simp only[R',bq,br];generalize H 43=bY;generalize H 44=bZ;generalize H 45=ca;generalize H 46=cb;generalize H 47=cc;generalize H 48=cd;generalize H 49=ce;generalize H 50=cf;generalize H 51=cg;go_simp;go_wp2;refine bodyPost_ret (v:= .tuple #[.agg #[.int .u32 0, .int .u64 0, .int .i64 0, .int .i64 0, .int .i64 0], .int .i64 0, .bool true]) (by simp[results,Tryz.results146,go_sem,X,Y,Z,aa,ab]) rfl ?_;exact iN' (h2:=Mod.hd0) (i' bp) (i' bt)
     ·have bp:Hid (Mod.newest L=none):=by show _= _;rw[i' ax,I,aD];simp[aG]
      have bO:=fun y=>qY' f.o f.c f.a f.b f.d aG y;clear ax ay aE aL aN I aD aG;refine Q' (by kernel_rfl)
       [fun v _=>v= .agg #[.int .u32 0, .int .u64 0, .int .i64 0, .int .i64 0, .int .i64 0],fun v _=>v= .agg #[.int .u32 f.o, .int .u64 f.c, .int .i64 f.a, .int .i64 f.b, .int .i64 f.d],fun v _=>v= .agg #[.int .u32 0, .int .u64 0, .int .i64 0, .int .i64 0, .int .i64 0],fun v _=>v= .bool false,fun v _=>v= .bool false,fun _ _=>True,fun _ _=>True,fun _ _=>True,fun v _=>v= .bool false,fun _ u=>u.heap[w.heap.size]? =some (.cells #[.int .u32 0, .int .u64 0, .int .i64 0, .int .i64 0, .int .i64 0] 217 (0,0)),fun v _=>v= .int .i64 0,fun v _=>v= .bool false]
       [[],[(5,none)],[],[(44,some 1),(45,some 2)],[(46,some 3)],[(7,none),(47,some 4)],[(47,some 4)],[(48,some 5),(49,some 6),(47,some 4)],[(47,some 4),(50,some 7)],[(2,none),(43,some 0)],[],[(51,some 8)]] [some 43,some 44,some 45,some 46,some 47,some 48,some 49,some 50,some 51,none,some 3,some 4] [false,false,false,true,true,false,false,false,false,false,false,false,false,false,false,false,false,false,false,false,false,false,false,false,false,false,false,false,false,false,false,false,false,false,false,false,false,false,false,false,false,false,false,true,true,true,true,true,true,true,true,true]
       [(9,fun k=>k=w.heap.size)]
       (by kernel_rfl) (by kernel_rfl) (by kernel_rfl) (by kernel_rfl) (by kernel_rfl) ?_ ?_ ?_ ?_
      ·repeat' (first|exact J' _|exact Z'|exact ba' _ _|exact trivial|apply And.intro)
      ·repeat' (first|exact trivial|exact .inl rfl|exact .inr (.inr (ak' _ _))|exact .inr (.inr (fun _ _ _ _ _=>trivial))|apply And.intro)
      ·refine⟨?_,?_,?_,?_,?_,?_,?_,?_,?_,?_,?_,?_,trivial⟩;all_goals
        intro a u r O;have z5:=r.blk (i' Q) (aa' (by intro q F;simp at F;subst F;intro (e:z=w.heap.size);omega));have ad:=r.blk (i' au) (aa' (by intro q F;simp at F;subst F;intro (e:D=w.heap.size);omega));have ak:u.cell? ⟨z,0,none⟩=some (.int .u32 f.o):=m' (i:=0) z5;have ap:u.cell? ⟨D,0,none⟩=some (.int .u32 s.o):=m' (i:=0) ad;have ao:u.cell? ⟨z,1,none⟩=some (.int .u64 f.c):=m' (i:=1) z5;have aq:u.cell? ⟨D,1,none⟩=some (.int .u64 s.c):=m' (i:=1) ad;have bP:u.cell? ⟨z,2,none⟩=some (.int .i64 f.a):=m' (i:=2) z5;have bQ:u.cell? ⟨D,2,none⟩=some (.int .i64 s.a):=m' (i:=2) ad;have bR:u.cell? ⟨z,3,none⟩=some (.int .i64 f.b):=m' (i:=3) z5;have bS:u.cell? ⟨D,3,none⟩=some (.int .i64 s.b):=m' (i:=3) ad;have bT:u.cell? ⟨z,4,none⟩=some (.int .i64 f.d):=m' (i:=4) z5;have bU:u.cell? ⟨D,4,none⟩=some (.int .i64 s.d):=m' (i:=4) ad;clear z5 ad;simp only[I',List.getD_cons_zero,List.getD_cons_succ,Array.getD_eq_getD_getElem?]at O;try simp at O
       iterate 5
        ·clear r;go_simp;exact⟨_,rfl,Far.refl _ _,rfl⟩
       iterate 3
        ·clear r;have bV:a.tmps[47]? =some (.bool false):=ey' (by first|exact O|exact O.2|exact O.2.2);go_simp;try trivial
       ·clear r;go_simp;exact⟨_,rfl,Far.refl _ _,rfl⟩
       ·have z0:=r.blk (i' aj) (by rintro⟨q,F,g1,g2,bW⟩;simp at F;subst F;exact g1 rfl);clear r;rw[if_pos (by rfl)];refine wp_store_row 217 (.tmp 2) (.tmp 43) rfl w.heap.size #[.int .u32 0, .int .u64 0, .int .i64 0, .int .i64 0, .int .i64 0] (by simp[Act.eval,O]) (by simp[Act.eval,O]) 217 _ z0 (by rw[fW'];rfl) (by simp) (by rw[Array.all_eq_true_iff_forall_mem];intro bX hu;simp at hu;rcases hu with rfl|rfl|rfl <;> rfl) ?_;exact⟨_,rfl,ac' (.head _) (aR' _ _ _),setRow_heap _ _ _ _ _ _ z0⟩
       iterate 2
        ·clear r;go_simp;exact⟨_,rfl,Far.refl _ _,rfl⟩
      ·intro H u hF av;have ah:=av.2.2.2.2.2.2.2.2.2.1;have bq:=av.2.2.2.2.2.2.2.2.2.2.1;have br:=av.2.2.2.2.2.2.2.2.2.2.2.1;have X:u.cell? ⟨w.heap.size,0,none⟩=some (.int .u32 0):=m' (i:=0) ah;have Y:u.cell? ⟨w.heap.size,1,none⟩=some (.int .u64 0):=m' (i:=1) ah;have Z:u.cell? ⟨w.heap.size,2,none⟩=some (.int .i64 0):=m' (i:=2) ah;have aa:u.cell? ⟨w.heap.size,3,none⟩=some (.int .i64 0):=m' (i:=3) ah;have ab:u.cell? ⟨w.heap.size,4,none⟩=some (.int .i64 0):=m' (i:=4) ah;have bt:=t' ((i' aC).trans (hF.below (i' aC).size (fun k bc h=>by obtain⟨q,F,h⟩:=h;simp at F;subst F;have h:k=w.heap.size:=h;omega)));clear av hF ah;simp only[R',bq,br];generalize H 43=bY;generalize H 44=bZ;generalize H 45=ca;generalize H 46=cb;generalize H 47=cc;generalize H 48=cd;generalize H 49=ce;generalize H 50=cf;generalize H 51=cg;go_simp;go_wp2;refine bodyPost_ret (v:= .tuple #[.agg #[.int .u32 0, .int .u64 0, .int .i64 0, .int .i64 0, .int .i64 0], .int .i64 0, .bool false]) (by simp[results,Tryz.results146,go_sem,X,Y,Z,aa,ab]) rfl ?_;exact kT' (i' bp) Mod.hd0 0 (i' bt)
theorem kV' (S:List UInt8) (z:S.length=64) (last:Nat) (w:World):Calls Tryz.prog 197 #[.agg (bv S).toArray, .int .u32 last] w fun f w'=>
  ∃h:Mod.Rc,f= .returned (.tuple #[tW' h, .bool (Mod.recOk S last)])/\(Mod.recOk S last=true->h=Mod.recIs S)/\Below w.heap.size w w':=by
 by_cases r:S=aP'
 ·subst r;refine(jz' w last).mono ?_;rintro f y ⟨rfl,u⟩;have h1:Mod.recOk aP' last=true:=by unfold Mod.recOk;rw[bN'];simp
  refine⟨Mod.rc0,(by rw[h1];rfl),fun _=>?_,u⟩;unfold Mod.recIs;rw[bN',if_pos rfl]
 ·refine(jG' S z r last w).mono ?_;rintro f y ⟨h,rfl,h2,u⟩;refine⟨h,rfl,fun D=>?_,u⟩;rw[h2 D];unfold Mod.recIs;rw[bN',if_neg r]
def cJ':List Mod.Rc->List Value
 |[]=>[]
 |f::l=> .int .i64 f.s:: .int .i64 f.q:: .string f.b::cJ' l
theorem dq':∀l,(cJ' l).length=l.length * 3
 |[]=>rfl
 |f::l=>by simp[cJ',dq' l];omega
theorem mD':∀ (l k:List Mod.Rc),cJ' (l++k)=cJ' l++cJ' k
 |[],k=>rfl
 |f::l,k=>by simp[cJ',mD' l k]
theorem iO':∀ (l:List Mod.Rc) (j:Nat) (f:Mod.Rc),l[j]? =some f->(cJ' l)[j * 3]? =some (.int .i64 f.s)/\(cJ' l)[j * 3+1]? =some (.int .i64 f.q)/\(cJ' l)[j * 3+2]? =some (.string f.b)
 |[],j,f,h=>by simp at h
 |x::l,0,f,h=>by simp at h;subst h;exact⟨rfl,rfl,rfl⟩
 |x::l,j+1,f,h=>by have:=iO' l j f (by simpa using h);rw[show(j+1) * 3=j * 3+1+1+1 by omega,show j * 3+1+1+1+1=j * 3+1+1+1+1 from rfl];exact this
def dI' (L:List UInt8) (k:Nat):List Mod.Rc:=(List.range k).map fun x=>Mod.recIs (Mod.sec L (2+x))
theorem pp' (L:List UInt8) (k:Nat):dI' L (k+1)=dI' L k++[Mod.recIs (Mod.sec L (2+k))]:=by
 simp[dI',List.range_succ]
theorem hV' {L:List UInt8} {last:Nat}:∀ (n x:Nat),(∀y,x<=y->y < x+n->Mod.recOk (Mod.sec L (2+y)) last=true)->Mod.recsFrom L last x n=some ((List.range n).map fun j=>Mod.recIs (Mod.sec L (2+(x+j))))
 |0,_,_=>rfl
 |n+1,x,h=>by have ih:=hV' n (x+1) (fun y f r=>h y (by omega) (by omega));rw[Mod.recsFrom,if_pos (h x (Nat.le_refl _) (by omega)),ih,List.range_succ_eq_map];simp;intro a _;rw[Nat.add_assoc,Nat.add_comm 1 a]
theorem pq' {L:List UInt8} {last n:Nat} (h:∀y,y < n->Mod.recOk (Mod.sec L (2+y)) last=true):Mod.recsFrom L last 0 n=some (dI' L n):=by
 have:=hV' (L:=L) (last:=last) n 0 (fun y _ f=>h y (by omega));simpa[dI']using this
theorem nC' {L:List UInt8} {last n y:Nat} (f:y < n) (h:Mod.recOk (Mod.sec L (2+y)) last=false):Mod.recsFrom L last 0 n=none:=by
 cases r:Mod.recsFrom L last 0 n with
 |none=>rfl
 |some rs=>have:=((Mod.recsFrom_some n 0 r).2 y f).1;rw[Nat.zero_add,h]at this;cases this
theorem jH' (w:World) (v:Value) (L:List UInt8) (m:Nat) (last:Nat) (aq:Y' w v L) (au:L.length=m * 64) (bc:2<=m) (bd:m<=150):
  Calls Tryz.prog 147 #[v, .int .u32 last] w fun X w'=>∃rv,X= .returned (.tuple #[rv, .bool (Mod.recsFrom L last 0 (m - 2)).isSome])/\(∀rs,Mod.recsFrom L last 0 (m - 2)=some rs->w'.ownsRow w.heap.size 155 3 rv (m - 2) (cJ' rs))/\Below w.heap.size w w':=by
 obtain⟨i0,hi,u,z,D⟩:=bj' tt';have G:=fun(k:Nat) (Y:64 * k+64<=L.length) y (r:Below w.heap.size w y)=>t' (hi' y v L k (aq.below r) Y (by omega));have H:=fun(k:Nat) (Y:k * 64+64<=L.length)=>Mod.length_sec Y;obtain⟨be,cap,rfl,av,ax,aS⟩:=aq;clear aS;have aT:(((m * 64:Nat):Int)).tdiv 64=(m:Int):=by rw[Int.natCast_mul];exact Int.mul_tdiv_cancel _ (by omega)
 obtain⟨n,ay⟩:∃n,n=m * 64:=⟨_,rfl⟩;rw[au]at av ax G H ⊢;rw[<-ay]at aT G H av ax ⊢;have Z:∀j,j < m->64 * j+64<=n:=by intro j hj;omega
 clear ay au;go_enter Tryz.func147,Tryz.ntmps147;go_wp2;go_loopw[6,7,8,9] (fun v6 i _ _ wr=>∃j:Nat,2<=j/\j<=m/\i= .int .i64 j/\wr.ownsRow w.heap.size 155 3 v6 (j - 2) (cJ' (dI' L (j - 2)))/\Below w.heap.size w wr/\∀y,y < j - 2->Mod.recOk (Mod.sec L (2+y)) last=true) (fun _ i _ _ _=>m - (intOf i).toNat)
 case atStart=>exact⟨2,by omega,by omega,rfl,World.ownsRow_nil _ _ _ _,Below.refl _ _,fun y aU=>by omega⟩
 case round=>
  obtain⟨j,bf,bg,rfl,I,r,J⟩:=hrel;by_cases az:j < m
  ·have aa:=i' (G j (Z j az) wr r);have aA:=fun y=>t' (kV' (Mod.sec L j) (H j (by have:=Z j az;omega)) last y);have aB:Mod.sec L j=(L.drop (j * 64)).take 64:=rfl;rw[<-aB]at aa;have M:2+(j - 2)=j:=by omega
   have aC:dI' L (j - 2+1)=dI' L (j - 2)++[Mod.recIs (Mod.sec L j)]:=by rw[pp',M]
   have aD:Mod.recOk (Mod.sec L j) last=false->Mod.recsFrom L last 0 (m - 2)=none:=fun h=>nC' (y:=j - 2) (by omega) (by rw[M];exact h);have aE:Mod.recOk (Mod.sec L j) last=true->∀y,y < j+1 - 2->Mod.recOk (Mod.sec L (2+y)) last=true:=fun h y aU=>by
    by_cases e:y < j - 2
    ·exact J y e
    ·obtain rfl:y=j - 2:=by omega
     rw[M];exact h
   clear aB M J;generalize Mod.recOk (Mod.sec L j) last=ok at *;generalize Mod.recIs (Mod.sec L j)=R at *;generalize Mod.sec L j=S at *;obtain⟨F,O⟩:∃F,F=cJ' (dI' L (j - 2)):=⟨_,rfl⟩;have aF:F.length=(j - 2) * 3:=by rw[O,dq'];simp[dI']
   have aG:cJ' (dI' L (j - 2+1))=F++[.int .i64 R.s, .int .i64 R.q, .string R.b]:=by rw[aC,mD',<-O];rfl
   rw[<-O]at I;clear O aC;have ab:=t' I;have aH:=t' aa;have aI:=t' r;have aV:=r.size;have aW:=t' aF;have Q:=t' (And.intro aG (And.intro aD aE));clear I r aa G H Z aF aG aD aE;have aJ:=t' (And.intro hi (And.intro u (And.intro z D)));clear hi u z D;go_upto_region 6 with (first
    |(go_at_call 195;refine(i' aH).mono ?_;rintro X y ⟨rfl,ac⟩)
    |(go_at_call 197;refine(i' (aA _)).mono ?_;rintro X aK ⟨f,rfl,aL,aM⟩;unfold tW'))
   have ad:Below wr.heap.size wr aK:=ac.trans (aM.mono ac.size);have aX:=t' aL;obtain⟨U,ah⟩:∃g,g=aK.heap.size:=⟨_,rfl⟩;rw[<-ah];refine C' (fun x=>x.heap[U]? =some (.cells #[.int .i64 f.s, .int .i64 f.q, .string f.b] 155 (0,0))/\Below wr.heap.size wr x) ?_ ?_
   ·exact⟨by rw[ah];exact heap_alloc_new _ _,ad.alloc ad.size _⟩
   clear ac aM ad ah aA aL;rintro x ⟨V,ai⟩;have bh:x.cell? ⟨U,0,none⟩=some (.int .i64 f.s):=m' (i:=0) V;have bi:x.cell? ⟨U,1,none⟩=some (.int .i64 f.q):=m' (i:=1) V;have bj:x.cell? ⟨U,2,none⟩=some (.string f.b):=m' (i:=2) V;have aN:=aw' (w':=x) (i' ab) (fun g aY=>ai.block g (World.ownsRow.lt (i' ab) g aY).2);have aj:Below w.heap.size w x:=(i' aI).trans (ai.mono aV);have ak:=t' aN;have aO:=t' aj;have aZ:=aj.size;clear V ai aN aj ab aI;cases ok with
   |false=>have aP:=(i' Q).2.1 rfl;clear Q ak aJ aW aH;go_wp2;go_ret2;refine⟨.slice none 0 0,by rw[aP];rfl,fun rs h=>?_,i' aO⟩;rw[aP]at h;cases h
   |true=>
    obtain rfl:f=R:=(i' aX) (by trivial);go_upto_region 4 with (at_builtin;obtain⟨hi,u,z,D⟩:=i' aJ;refine wpList_append_own _ rfl (.tmp 27) (.tmp 29) 185 rfl w.heap.size 155 i0 _ 3 32 Tryz.underlying185 hi u z D rfl (by decide) u6 (j - 2) F rfl ((i' ak).alloc _) ⟨x.heap.size,0,none⟩ 1 1 [.int .i64 f.s, .int .i64 f.q, .string f.b] rfl rfl bP' (by intro bk hu;simp at hu;rcases hu with rfl|rfl|rfl <;> rfl) (by unfold maxLen;omega) (by omega) (by simp;omega) ?_;intro bl ba ao aQ _;have ap:Below w.heap.size x ba:=((Below.refl _ x).alloc aZ _).trans (X' (B:=w.heap.size) aQ (by simp;omega) (fun g' bb=>(World.ownsRow.lt (i' ak) g' bb).1));replace ao:=t' ao;replace ap:=t' ap;clear aQ hi u z D;go_simp);have bm:IntKind.i64.wrap ((j:Int)+1)=(j:Int)+1:=by rw[IntKind.wrap_i64];omega
    go_wp2;refine⟨⟨j+1,by omega,by omega,by go_num,?_,(i' aO).trans (i' ap),(i' Q).2.2 (by trivial)⟩,?_⟩
    ·have e:j+1 - 2=(j - 2)+1:=by omega
     rw[e,(i' Q).1];exact i' ao
    ·simp[intOf];omega
  ·have e:j=m:=by omega
   subst e;have aR:=t' (pq' J);clear J;go_wp2;go_ret2;refine⟨_,by rw[i' aR];rfl,fun rs h=>?_,r⟩;rw[i' aR]at h;cases h;exact I
end Go.Proofs.YtamafdcnbcoegaaGreat
