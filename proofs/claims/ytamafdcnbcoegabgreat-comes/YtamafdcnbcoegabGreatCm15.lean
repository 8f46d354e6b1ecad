/-
  Part 15 of a proof: D23, L27, L28, L29, E3, K20, K21.
-/
import Derived.Test.YtamafdcnbcoegabGreatCm14
set_option maxRecDepth 100000
set_option maxHeartbeats 40000000
namespace Go.Proofs.YtamafdcnbcoegabGreat
open Go.RowKit
def oE' (o h:Nat) (B:Nat) (L:List UInt8) (s:Nat) (w:World):Prop:=∃p,pv' B L p w/\B<=s/\w.heap[s]? =some (.cells #[A' p, .int .u32 o, .int .u64 0, .int .i64 h] 190 (0,0))
theorem oF' {o h B:Nat} {L:List UInt8} {s:Nat} {w x:World} (z:oE' o h B L s w) (r:Below w.heap.size w x):oE' o h B L s x:=z.imp fun _ h=>⟨fK' h.1 r,h.2.1,(r.block _ (lt_of_block h.2.2)).trans h.2.2⟩
theorem gJ' (w:World) (v:Value) (L:List UInt8) (m:Nat) (ao:ab' w v L) (aR:L.length=m * 64) (bu:2<=m) (bw:m<=150) {h:Mod.Hd} {at':Nat} {rs:List Mod.Rc} (aS:Mod.openSt L=some (h,at',rs)):
  Calls Tryz.prog 74 #[v] w fun ab w'=>∃s dp lv Y rv,ab= .returned (.tuple #[A' s, .agg #[.int .i64 h.a, .int .i64 h.b, .int .i64 h.d,rv], .int .i64 0])/\
   cM' w' s dp ((⟨h.o+1,0,at',⟨L,0,false⟩⟩:Mod.Stv).putNumbers h.a h.b h.d).2 lv Y/\(∀k,StU s dp lv Y k->w.heap.size<=k)/\w'.ownsRow w.heap.size 150 3 rv (m - 2) (cT' rs)/\Below w.heap.size w w':=by
 obtain⟨ac,aD⟩:=Mod.openSt_some aS;obtain⟨aT,aU,aV,_⟩:=Mod.newest_some ac;have aW:=Mod.headIs_small aU;rw[<-aV]at aW;rw[show L.length / 64=m by omega]at aD;have aX:=y' (fun y (r:Below w.heap.size w y)=>lF' y v L (ao.below r) (by omega) (by omega));have aE:=y' (fun y (r:Below w.heap.size w y)=>kw' y v L m h.o (ao.below r) aR bu bw);rw[aD]at aE;have aY:=y' ac;have bz:=y' aT;obtain⟨bT,bA,bU,bV,bW⟩:=aW;have aZ:128<=L.length/\L.length<=10000:=by omega
 have ba:=y' (fun y (r:Below w.heap.size w y)=>pu' y v L (ao.below r) aZ.1 aZ.2);clear ao aR aS ac aD aV aU bA aT;have bX:IntKind.u32.wrap ((h.o:Int)+1)=((h.o+1:Nat):Int):=by rw[IntKind.wrap_u32];omega
 unfold A';go_enter Tryz.func74,Tryz.ntmps74;go_upto_region 2 with (go_at_call 111;refine((i' aX) _ ((Below.refl _ _).alloc (Nat.le_refl _) _)).mono ?_;rintro ab y ⟨h2,k2,rfl,bb,ap⟩;obtain⟨bB,aq⟩:=bb _ _ (i' aY);rw[i' aY];subst bB;subst aq;clear bb;unfold gI');have bc:=ap.size;simp only[World.size_alloc]at bc;have be:Below w.heap.size w y:=((Below.refl _ _).alloc (Nat.le_refl _) _).trans (ap.mono (by simp));have bf:=(ap.block w.heap.size (by simp)).trans (heap_alloc_new w _);obtain⟨D,aF⟩:∃g,g=y.heap.size:=⟨_,rfl⟩;rw[<-aF];refine H' (fun x=>x.heap[w.heap.size]? =some (.cells #[.int .i64 0, .int .i64 0, .int .i64 0, .slice none 0 0] 143 (0,0))/\x.heap[D]? =some (.cells #[.int .u32 h2.o, .int .u64 h2.c, .int .i64 h2.a, .int .i64 h2.b, .int .i64 h2.d] 199 (0,0))/\Below w.heap.size w x) ?_ ?_
 ·exact⟨(hao _ _ (by omega)).trans bf,by rw[aF];exact heap_alloc_new _ _,be.alloc (by omega) _⟩
 have bY:w.heap.size < D:=by omega
 clear bf be bc ap aF aX;rintro x ⟨h0,h5,bg⟩;have bh:x.cell? ⟨D,0,none⟩=some (.int .u32 h2.o):=t' (i:=0) h5;have bi:=y' h0;have bj:=y' h5;have aG:=y' bg;have bC:=lt_of_block h5;clear h0 h5 bg;go_upto_region 7 with (go_at_call 112;refine((i' aE) _ (i' aG)).mono ?_;rintro ab au ⟨rv,rfl,M,av⟩;replace M:=M _ rfl);have M:=au' M (B':=w.heap.size) (by omega);have aH:Below w.heap.size w au:=(i' aG).trans (av.mono (by omega));have bk:=(av.block _ (by omega)).trans (i' bi);have aI:=(av.block _ (by omega)).trans (i' bj);obtain⟨O,Q,rfl,_⟩:=(as'.of_own (au' M (Nat.zero_le _))).shape;have aJ:=y' M;have aK:=y' aH;have bl:=y' bk;have aL:=y' aI;have bm:=aH.size;have bD:=lt_of_block aI;clear M aH bk aI av aG bi bj aE bh bC;refine Z' (by kernel_rfl)
  [fun u _=>u=v,fun u z=>∃p,u= .pointer (some ⟨p,0,none⟩)/\pv' w.heap.size L p z,fun u _=>u= .pointer (some ⟨D,0,none⟩),fun u _=>u= .pointer (some ⟨D,0,none⟩),fun u _=>u= .int .u32 h2.o,fun u _=>u= .int .u32 (h2.o+1:Nat),fun u _=>u= .agg #[.int .u32 (h2.o+1:Nat), .int .u64 0],fun u _=>u= .int .i64 k2,
   fun u z=>∃p,u= .agg #[.pointer (some ⟨p,0,none⟩), .int .u32 (h2.o+1:Nat), .int .u64 0, .int .i64 k2]/\pv' w.heap.size L p z,fun u z=>∃s,u= .pointer (some ⟨s,0,none⟩)/\oE' (h2.o+1) k2 w.heap.size L s z,fun u z=>∃s,u= .pointer (some ⟨s,0,none⟩)/\oE' (h2.o+1) k2 w.heap.size L s z]
  [[(0,none)],[(30,some 0)],[(5,none)],[(32,some 2)],[(33,some 3)],[(34,some 4)],[(35,some 5)],[(6,none)],[(31,some 1),(36,some 6),(37,some 7)],[(38,some 8)],[(39,some 9)]] [some 30,some 31,some 32,some 33,some 34,some 35,some 36,some 37,some 38,some 39,some 9] [false,false,false,false,false,false,false,false,false,true,false,false,false,false,false,false,false,false,false,false,false,false,false,false,false,false,false,false,false,false,true,true,true,true,true,true,true,true,true,true,false,false,false,false,false,false,false,false,false]
  []
  (by kernel_rfl) (by kernel_rfl) (by kernel_rfl) (by kernel_rfl) (by kernel_rfl) ?_ ?_ ?_ ?_
 ·repeat' (first|exact O' _|exact(fun _ _ _ h r=>h.imp fun _ h=>⟨h.1,fK' h.2 r⟩)|exact(fun _ _ _ h r=>h.imp fun _ h=>⟨h.1,oF' h.2 r⟩)|exact trivial|apply And.intro)
 ·exact trivial
 ·refine⟨?_,?_,?_,?_,?_,?_,?_,?_,?_,?_,?_,trivial⟩;all_goals
   intro a z r F;have z5:=r.blk (i' aL) (ae' (by intro q ad;cases ad));have I:Below w.heap.size w z:=(i' aK).trans ((r.below (B:=au.heap.size) (Nat.le_refl _) (fun j _ h=>by obtain⟨q,ad,_⟩:=h;cases ad)).mono bm);have bh:z.cell? ⟨D,0,none⟩=some (.int .u32 h2.o):=t' (i:=0) z5;have Z:=y' I;clear z5 r I;simp only[M',List.getD_cons_zero,List.getD_cons_succ,Array.getD_eq_getD_getElem?]at F;try simp at F
  ·go_simp;exact⟨_,rfl,Far.refl _ _,rfl⟩
  ·have bn:=y' ((i' ba) z (i' Z));have ax:=(i' Z).size;unfold A' at bn;go_simp;refine(i' bn).mono ?_;rintro ab ay ⟨p,lv,rfl,k1,k2,k3⟩;exact⟨_,rfl,C' k2,p,rfl,lv,k1,fun k U=>Nat.le_trans ax (k3 k U)⟩
  iterate 6
   ·go_simp;exact⟨_,rfl,Far.refl _ _,rfl⟩
  ·obtain⟨⟨p,H,J⟩,F⟩:=F;have ah:=y' J;clear J;go_simp;exact⟨_,rfl,Far.refl _ _,p,rfl,i' ah⟩
  ·obtain⟨p,H,J⟩:=F;have ah:=y' J;have ax:=(i' Z).size;clear J;go_simp;refine⟨_,rfl,C' ((Below.refl _ _).alloc (Nat.le_refl _) _),_,rfl,p,fK' (i' ah) ((Below.refl _ _).alloc (Nat.le_refl _) _),ax,heap_alloc_new _ _⟩
  ·obtain⟨s,hs,J⟩:=F;have ah:=y' J;clear J;go_simp;exact⟨_,rfl,Far.refl _ _,s,rfl,i' ah⟩
 ·intro f z hF V;obtain⟨s,bE,dp,⟨lv,aa,bF⟩,bG,X⟩:=V.2.2.2.2.2.2.2.2.2.2.1;have I:Below au.heap.size au z:=hF.below (Nat.le_refl _) (fun j _ h=>by obtain⟨q,ad,_⟩:=h;cases ad);have ST:cM' z s dp ⟨h2.o+1,0,k2,⟨L,0,false⟩⟩ lv (.slice none 0 0):=⟨X,aa,by show h2.o+1 < _;omega,by simp,i' bz⟩;have az:∀k,StU s dp lv (.slice none 0 0) k->w.heap.size<=k:=by
   rintro k (rfl|U)
   ·exact bG
   ·exact bF k U
  have z0:=(I.block _ (by omega)).trans (i' bl);have z5:=(I.block _ bD).trans (i' aL);have aq:z.cell? ⟨D,2,none⟩=some (.int .i64 h2.a):=t' (i:=2) z5;have bo:z.cell? ⟨D,3,none⟩=some (.int .i64 h2.b):=t' (i:=3) z5;have bp:z.cell? ⟨D,4,none⟩=some (.int .i64 h2.d):=t' (i:=4) z5;have aM:=y' (cm' z s dp _ lv _ ST h2.a h2.b h2.d (by omega) (by omega) (by omega));have ai:=ay' (w':=z) (i' aJ) (fun g G=>I.block g (World.ownsRow.lt (i' aJ) g G).2);have aN:=y' ai;have Z:=y' ((i' aK).trans (I.mono bm));have bq:=y' z0;have br:=y' z5;have aA:¬StU s dp lv (.slice none 0 0) w.heap.size:=by
   rintro(h|h)
   ·rw[<-h,z0]at X;cases X
   ·exact el' aa z0 (by decide) (by decide) (by decide) h
  have bH:¬StU s dp lv (.slice none 0 0) D:=by
   rintro(h|h)
   ·rw[<-h,z5]at X;cases X
   ·exact el' aa z5 (by decide) (by decide) (by decide) h
  have bI:∀g,(Value.slice O (m - 2) Q).ownBlock=some g->¬StU s dp lv (.slice none 0 0) g:=by
   rintro g G (h|h|h|h)
   ·exact(as'.of_own (au' ai (Nat.zero_le _))).ne X (by decide) (by rw[G,h])
   ·exact(as'.of_own (au' ai (Nat.zero_le _))).ne aa.blk (by decide) (by rw[G,h])
   ·exact(as'.of_own (au' ai (Nat.zero_le _))).ty (as'.of_own aa.row) (by decide) G h
   ·cases h
  have ax:=I.size;clear V hF I z0 z5 aa X ai aJ aK bl aL ba ST;simp only[Y',bE];generalize f 30=bZ;generalize f 31=ca;generalize f 32=cb;generalize f 33=cc;generalize f 34=cd;generalize f 35=ce;generalize f 36=cf;generalize f 37=cg;generalize f 38=ch;generalize f 39=ci;go_simp;unfold A' at aM;go_upto_region 9 with (go_at_call 114;refine(i' aM).mono ?_;rintro ab ay ⟨rfl,Y,k1,k2,k3⟩;replace k1:=y' k1;replace k2:=y' k2;replace k3:=y' k3);have aj:=i' k3;have z0:=aj.blk (i' bq) aA;have z5:=aj.blk (i' br) bH;have bt:=ay' (w':=ay) (i' aN) (fun g G=>aj.rest g (World.ownsRow.lt (i' aN) g G).2 (bI g G));have aO:Below w.heap.size w ay:=(i' Z).trans (aj.below (by omega) (fun k U h=>by have:=az k h;omega));have aP:=y' bt;have bJ:=y' aO;have aQ:=y' z0;have bK:=y' z5;have cj:=aO.size;have ck:=lt_of_block z5;have cl:=lt_of_block z0;clear aj z0 z5 bt aO aN Z bq br aq bo bp aM;refine Z' (by kernel_rfl)
   [fun u _=>u= .pointer (some ⟨s,0,none⟩),fun u _=>u= .pointer (some ⟨D,2,none⟩),fun u _=>u= .agg #[.int .i64 h2.a, .int .i64 h2.b, .int .i64 h2.d],fun u _=>u= .slice O (m - 2) Q,fun u _=>u= .agg #[.int .i64 h2.a, .int .i64 h2.b, .int .i64 h2.d, .slice O (m - 2) Q],fun u _=>u= .pointer (some ⟨s,0,none⟩),
    fun _ q=>q.heap[w.heap.size]? =some (.cells #[.int .i64 h2.a, .int .i64 h2.b, .int .i64 h2.d, .slice O (m - 2) Q] 143 (0,0)),fun u _=>u= .int .i64 0]
   [[(9,none)],[(5,none)],[(45,some 1)],[(8,none)],[(46,some 2),(47,some 3)],[(44,some 0)],[(3,none),(48,some 4)],[]] [some 44,some 45,some 46,some 47,some 48,some 2,none,some 4] [false,false,true,false,true,false,false,false,false,false,false,false,false,false,false,false,false,false,false,false,false,false,false,false,false,false,false,false,false,false,false,false,false,false,false,false,false,false,false,false,false,false,false,false,true,true,true,true,true]
   [(6,fun k=>k=w.heap.size)]
   (by kernel_rfl) (by kernel_rfl) (by kernel_rfl) (by kernel_rfl) (by kernel_rfl) ?_ ?_ ?_ ?_
  ·repeat' (first|exact O' _|exact bh' _ _|exact trivial|apply And.intro)
  ·repeat' (first|exact trivial|exact .inl rfl|exact .inr (.inr (an' _ _))|apply And.intro)
  ·refine⟨?_,?_,?_,?_,?_,?_,?_,?_,trivial⟩;all_goals
    intro a q r F;have aB:=r.blk (i' bK) (ae' (by intro p H;simp at H;subst H;intro (e:D=w.heap.size);omega));have aq:q.cell? ⟨D,2,none⟩=some (.int .i64 h2.a):=t' (i:=2) aB;have bo:q.cell? ⟨D,3,none⟩=some (.int .i64 h2.b):=t' (i:=3) aB;have bp:q.cell? ⟨D,4,none⟩=some (.int .i64 h2.d):=t' (i:=4) aB;clear aB;simp only[M',List.getD_cons_zero,List.getD_cons_succ,Array.getD_eq_getD_getElem?]at F;try simp at F
   iterate 6
    ·clear r;go_simp;exact⟨_,rfl,Far.refl _ _,rfl⟩
   ·have aC:=r.blk (i' aQ) (by rintro⟨p,H,g1,g2,cm⟩;simp at H;subst H;exact g1 rfl);clear r;rw[if_pos (by rfl)];refine wp_store_row 143 (.tmp 3) (.tmp 48) rfl w.heap.size #[.int .i64 h2.a, .int .i64 h2.b, .int .i64 h2.d, .slice O (m - 2) Q] (by simp[Act.eval,F]) (by simp[Act.eval,F]) 143 _ aC (by rw[mz'];rfl) (by simp) (by rw[Array.all_eq_true_iff_forall_mem];intro u hu;simp at hu;rcases hu with rfl|rfl|rfl|rfl <;> rfl) ?_;exact⟨_,rfl,aj' (.head _) (aU' _ _ _),setRow_heap _ _ _ _ _ _ aC⟩
   ·clear r;go_simp;exact⟨_,rfl,Far.refl _ _,rfl⟩
  ·intro f q hF V;have bL:=V.2.2.2.2.2.1;have ak:=V.2.2.2.2.2.2.1;have bM:=V.2.2.2.2.2.2.2.1;have aC:q.cell? ⟨w.heap.size,0,none⟩=some (.int .i64 h2.a):=t' (i:=0) ak;have bN:q.cell? ⟨w.heap.size,1,none⟩=some (.int .i64 h2.b):=t' (i:=1) ak;have bO:q.cell? ⟨w.heap.size,2,none⟩=some (.int .i64 h2.d):=t' (i:=2) ak;have bP:q.cell? ⟨w.heap.size,3,none⟩=some (.slice O (m - 2) Q):=t' (i:=3) ak;have hF:Far (fun k=>k=w.heap.size) ay q:=hF.mono (fun k _ h=>by obtain⟨p,H,h⟩:=h;simp at H;subst H;exact h);have bQ:=y' hF;clear V hF ak;simp only[Y',bL,bM];generalize f 44=cn;generalize f 45=co;generalize f 46=cp;generalize f 47=cq;generalize f 48=cr;go_simp;go_wp2;refine bodyPost_ret (v:= .tuple #[.pointer (some ⟨s,0,none⟩), .agg #[.int .i64 h2.a, .int .i64 h2.b, .int .i64 h2.d, .slice O (m - 2) Q], .int .i64 0]) (by simp[results,Tryz.results74,go_sem,aC,bN,bO,bP]) rfl ?_;have hF:=i' bQ;have bR:=i' k2;have bS:∀k,StU s dp lv Y k->w.heap.size<=k:=by
    rintro k (h|h|h|h)
    ·exact az k (.inl h)
    ·exact az k (.inr (.inl h))
    ·exact az k (.inr (.inr (.inl h)))
    ·rcases bR with k2|k2|⟨g,k2,k5⟩
     ·rw[k2]at h;cases h
     ·rw[k2]at h;cases h
     ·rw[k2]at h;cases h;omega
   have ac:¬StU s dp lv Y w.heap.size:=by
    rintro(h|h|h|h)
    ·exact aA (.inl h)
    ·exact aA (.inr (.inl h))
    ·exact aA (.inr (.inr (.inl h)))
    ·exact(i' k1).dk.un.ne (i' aQ) (by decide) h
   exact⟨s,dp,lv,Y,_,rfl,(i' k1).far hF (fun k U e=>ac (by rw[<-e];exact U)),bS,ay' (i' aP) (fun g G=>hF.rest g (World.ownsRow.lt (i' aP) g G).2 (fun e=>(as'.of_own (au' (i' aP) (Nat.zero_le _))).ne (i' aQ) (by decide) (by rw[G,e]))),(i' bJ).trans (hF.below (by omega) (fun k U e=>by omega))⟩
section
variable {w x y:World} {p:Nat} {g g2:Nat->Nat} {tk tk2:Nat} {wel wel2 fen fen2:Bool} {free free2:List Nat} {sh sh2:Nat->List (Nat×Value)} {arr:Array Value} {s:Nat} {nv mv:Nat->Value} {fv rv:Value}
theorem xP' (z:jh' w p g tk wel fen free sh arr s nv mv fv rv) {i:Nat} (hi:i < 9) {Q:List (Nat×Value)} (h:cd' w x p (4+i * 2) 116 arr (nv i) (mv i) Q):
  ∃U nv' mv',jh' x p g tk wel fen free (fun t=>if t=i then Q else sh t) U s nv' mv' fv rv/\(∀k,KaU p nv' mv' fv k->KaU p nv mv fv k\/w.heap.size<=k)/\Far (fun k=>k=p\/ShU (nv i) (mv i) k) w x:=by
 obtain⟨⟨nv',mv',S,V,X⟩,hF⟩:=h;have Y:=z.sz;have D:∀j,j≠4+i * 2->j≠4+i * 2+1->((arr.setIfInBounds (4+i * 2) nv').setIfInBounds (4+i * 2+1) mv')[j]? =arr[j]? :=fun j h1 h2=>by rw[Array.getElem?_setIfInBounds_ne (by omega),Array.getElem?_setIfInBounds_ne (by omega)]
 have J:∀k,ShU nv' mv' k->ShU (nv i) (mv i) k\/w.heap.size<=k:=by
  rintro k (r|r)
  ·rcases V with h|h|⟨g,h,G⟩
   ·rw[h]at r;cases r
   ·exact .inl (.inl (by rw[<-h];exact r))
   ·rw[h]at r;cases r;exact .inr G
  ·rcases X with h|⟨g,h,G⟩
   ·exact .inl (.inr (by rw[<-h];exact r))
   ·rw[h]at r;cases r;exact .inr G
 have Z:fv.ownBlock≠some p:=z.fr.ne z.blk (by decide);refine⟨(arr.setIfInBounds (4+i * 2) nv').setIfInBounds (4+i * 2+1) mv',fun t=>if t=i then nv' else nv t,fun t=>if t=i then mv' else mv t,
  ⟨S.blk,by simpa using Y,?_,?_,?_,?_,?_,?_,?_,?_,?_,?_,?_,?_,?_⟩,?_,hF⟩
 ·rw[D _ (by omega) (by omega)];exact z.a0
 ·intro j hj;rw[D _ (by omega) (by omega)];exact z.ag j hj
 ·intro j hj;show _=some (if j=i then nv' else nv j);by_cases e:j=i
  ·subst e;rw[if_pos rfl];exact S.c0
  ·rw[if_neg e,D _ (by omega) (by omega)];exact z.an j hj
 ·intro j hj;show _=some (if j=i then mv' else mv j);by_cases e:j=i
  ·subst e;rw[if_pos rfl];exact S.c1
  ·rw[if_neg e,D _ (by omega) (by omega)];exact z.am j hj
 ·rw[D _ (by omega) (by omega)];exact z.af
 ·rw[D _ (by omega) (by omega)];exact z.at'
 ·rw[D _ (by omega) (by omega)];exact z.aw
 ·rw[D _ (by omega) (by omega)];exact z.ae
 ·rw[D _ (by omega) (by omega)];exact z.ar
 ·exact z.fr.far hF (fun g G h=>h.elim (fun h=>Z (by rw[G,h])) (fun h=>z.apf i hi g h G))
 ·intro j hj;show aM' x (if j=i then nv' else nv j) (if j=i then mv' else mv j) (if j=i then Q else sh j);by_cases e:j=i
  ·rw[if_pos e,if_pos e,if_pos e];exact S.sh
  ·rw[if_neg e,if_neg e,if_neg e];refine(z.shs j hj).far hF (fun k r h=>?_);rcases h with h|h
   ·exact(z.shs j hj).ne z.blk (by decide) (by rw[<-h];exact r)
   ·exact z.aps j i hj hi e k r h
 ·intro j hj b H;replace H:ShU (if j=i then nv' else nv j) (if j=i then mv' else mv j) b:=H;by_cases e:j=i
  ·rw[if_pos e,if_pos e]at H;rcases J b H with h|h
   ·exact z.apf i hi b h
   ·intro aa;have:=z.fr.lt b aa;omega
  ·rw[if_neg e,if_neg e]at H;exact z.apf j hj b H
 ·intro j F hj M I k r;replace r:ShU (if j=i then nv' else nv j) (if j=i then mv' else mv j) k:=r;show ¬ShU (if F=i then nv' else nv F) (if F=i then mv' else mv F) k;by_cases h1:j=i
  ·subst h1;rw[if_pos rfl,if_pos rfl]at r;rw[if_neg (fun e=>I e.symm),if_neg (fun e=>I e.symm)];intro O;rcases J k r with h|h
   ·exact z.aps j F hj M I k h O
   ·have:=(z.shs F M).lt k O;omega
  ·rw[if_neg h1,if_neg h1]at r;by_cases h2:F=i
   ·subst h2;rw[if_pos rfl,if_pos rfl];intro O;rcases J k O with h|h
    ·exact z.aps j F hj M I k r h
    ·have:=(z.shs j hj).lt k r;omega
   ·rw[if_neg h2,if_neg h2];exact z.aps j F hj M I k r
 ·rintro k (rfl|r|⟨j,hj,r⟩)
  ·exact .inl (.inl rfl)
  ·exact .inl (.inr (.inl r))
  ·have r:ShU (if j=i then nv' else nv j) (if j=i then mv' else mv j) k:=r;by_cases e:j=i
   ·rw[if_pos e,if_pos e]at r;exact(J k r).elim (fun h=> .inl (.inr (.inr ⟨i,hi,h⟩))) .inr
   ·rw[if_neg e,if_neg e]at r;exact .inl (.inr (.inr ⟨j,hj,r⟩))
theorem wz' (r:jh' w p g tk wel fen free sh arr s nv mv fv rv) (v:Value) (hF:Far (fun k=>fv.ownBlock=some k) w x) (G:as' x 3 1 v free2.length (J' free2)) (hl:Loc w fv v):
  ∃O,jh' (x.setCell ⟨p,22,none⟩ v) p g tk wel fen free2 sh O s nv mv v rv/\(∀k,KaU p nv mv v k->KaU p nv mv fv k\/w.heap.size<=k)/\Far (fun k=>k=p\/fv.ownBlock=some k) w (x.setCell ⟨p,22,none⟩ v):=by
 have hs:=S' x p 22 v;have D:∀j,j≠22->(arr.setIfInBounds 22 v)[j]? =arr[j]? :=fun j hj=>Array.getElem?_setIfInBounds_ne (fun e=>hj e.symm);have Q:22 < arr.size:=by rw[r.sz];omega
 have U:fv.ownBlock≠some p:=r.fr.ne r.blk (by decide);have H:=hF.blk r.blk U;have V:v.ownBlock≠some p:=G.ne H (by decide);have I:Far (fun k=>k=p\/fv.ownBlock=some k) w (x.setCell ⟨p,22,none⟩ v):=(hF.mono (fun _ _ h=> .inr h)).trans hs (fun _ _ h=> .inl h);refine⟨arr.setIfInBounds 22 v,⟨ah' H,by simpa using r.sz,?_,?_,?_,?_,?_,?_,?_,?_,?_,?_,?_,?_,r.aps⟩,?_,I⟩
 ·rw[D _ (by omega)];exact r.a0
 ·intro j hj;rw[D _ (by omega)];exact r.ag j hj
 ·intro j hj;rw[D _ (by omega)];exact r.an j hj
 ·intro j hj;rw[D _ (by omega)];exact r.am j hj
 ·simp[Q]
 ·rw[D _ (by omega)];exact r.at'
 ·rw[D _ (by omega)];exact r.aw
 ·rw[D _ (by omega)];exact r.ae
 ·rw[D _ (by omega)];exact r.ar
 ·exact G.far hs (fun g X e=>V (by rw[X,e]))
 ·intro j hj;refine(r.shs j hj).far I (fun k z e=>?_);rcases e with rfl|e
  ·exact(r.shs j hj).ne r.blk (by decide) z
  ·exact r.apf j hj k z e
 ·intro j hj b J F;rcases hl with h|h|⟨g',h,M⟩
  ·rw[h]at F;cases F
  ·rw[h]at F;exact r.apf j hj b J F
  ·rw[h]at F;cases F;have:=(r.shs j hj).lt b J;omega
 ·rintro k (rfl|z|z)
  ·exact .inl (.inl rfl)
  ·rcases hl with h|h|⟨g',h,M⟩
   ·rw[h]at z;cases z
   ·exact .inl (.inr (.inl (by rw[<-h];exact z)))
   ·rw[h]at z;cases z;exact .inr M
  ·exact .inl (.inr (.inr z))
end
def toV (e:Mod.Pe):Nat×Value:=(e.1,ce' e.2.1 e.2.2)
theorem ny':∀ (b:Nat) (k:List (ByteArray×Nat)) (p:List Nat),aE' b k p=(Mod.keptP b k p).map toV
 | _,[],_=>by simp[aE',Mod.keptP]
 | _,_:: _,[]=>by simp[aE',Mod.keptP]
 |b,x::r,q::z=>by rw[aO',Mod.keptP,List.map_cons,ny' (b+1) r z];rfl
theorem qs' (e:Mod.Pe):∀l:List Mod.Pe,bb' (l.map toV) e.1 (ce' e.2.1 e.2.2)=(Mod.insP l e).map toV
 |[]=>rfl
 |y::r=>by
  rw[List.map_cons,bb',Mod.insP];have h1:(toV y).1=y.1:=rfl;rw[h1];rcases Nat.lt_trichotomy e.1 y.1 with c|c|c
  ·have c1:¬e.1=y.1:=by omega
   simp[c,c1,toV]
  ·have c2:¬e.1 < y.1:=by omega
   simp[c,toV]
  ·have c1:¬e.1=y.1:=by omega
   have c2:¬e.1 < y.1:=by omega
   simp[c1,c2,qs' e r]
theorem vz' (l:List Mod.Pe):(l.map toV).map (·.1)=l.map (·.1):=by
 rw[List.map_map];rfl
theorem vA' (l:List Mod.Pe):ob' (l.map toV):=fun x r=>by
 obtain⟨e,_,rfl⟩:=List.mem_map.1 r;exact⟨e.2.1,e.2.2,rfl⟩
def eG' (l:Mod.Ld) (k:Nat):List (Nat×Value):=if k % 3=0 then(l.sh (k / 3)).map toV else []
theorem dL' (l:Mod.Ld) (i:Nat):eG' l (i * 3)=(l.sh i).map toV:=by
 unfold eG';rw[if_pos (by omega),show i * 3 / 3=i by omega]
theorem vB' (l:Mod.Ld) (i:Nat) (r:List Mod.Pe):(fun t=>if t=i * 3 then r.map toV else eG' l t)=eG' {l with sh:=fun j=>if j=i then r else l.sh j}:=by
 funext t;unfold eG';by_cases h:t=i * 3
 ·subst h;rw[if_pos rfl,if_pos (by omega),show i * 3 / 3=i by omega];simp
 ·rw[if_neg h];by_cases h2:t % 3=0
  ·rw[if_pos h2,if_pos h2];have:¬t / 3=i:=by omega
   simp[this]
  ·rw[if_neg h2,if_neg h2]
namespace Mod
theorem insP_length (e:Pe):∀l:List Pe,(insP l e).length<=l.length+1
 |[]=>by simp[insP]
 |y::r=>by
  have:=insP_length e r;unfold insP;split
  ·simp
  ·split
   ·simp
   ·simp;omega
theorem ldAll_app (g:Nat->Nat):∀ (rs r:List Rc) (x:Nat) (l:Ld),ldAll g (rs++r) x l=match ldAll g rs x l with
  |none=>none
  |some z=>ldAll g r (x+rs.length) z
 |[],r,x,l=>by simp[ldAll]
 |D::rs,r,x,l=>by
  rw[List.cons_append,ldAll,ldAll,List.length_cons,show x+(rs.length+1)=x+1+rs.length by omega];cases ldStep g x D l with
  |none=>rfl
  |some z=>exact ldAll_app g rs r (x+1) z
theorem ldAll_step {g:Nat->Nat} {rs:List Rc} {j:Nat} {r:Rc} {l:Ld} (z:rs[j]? =some r) (h:ldAll g (rs.take j) 0 ld0=some l):ldAll g (rs.take (j+1)) 0 ld0=ldStep g j r l:=by
 obtain⟨hj,e⟩:=List.getElem?_eq_some_iff.1 z;rw[List.take_succ_eq_append_getElem hj,e,ldAll_app,h];simp only[List.length_take];rw[show 0+min j rs.length=j by omega];unfold ldAll;cases ldStep g j r l with
 |none=>rfl
 |some D=>rfl
theorem ldAll_bad {g:Nat->Nat} {rs:List Rc} {j:Nat} (h:ldAll g (rs.take j) 0 ld0=none):ldAll g rs 0 ld0=none:=by
 have:=ldAll_app g (rs.take j) (rs.drop j) 0 ld0;rw[List.take_append_drop,h]at this;exact this
theorem ldStep_len {g:Nat->Nat} {x:Nat} {r:Rc} {l z:Ld} (h:ldStep g x r l=some z):z.free.length<=l.free.length+1/\∀i,(z.sh i).length<=(l.sh i).length+1:=by
 unfold ldStep at h;split at h
 ·cases h;exact⟨by simp,fun i=>Nat.le_succ _⟩
 ·split at h
  ·cases h
  ·cases h;refine⟨by simp,fun i=>?_⟩;simp only
   split
   ·rename_i e;have:=insP_length (r.q,r.b,x) (l.sh r.s);rw[e];exact this
   ·omega
theorem ldAll_len {g:Nat->Nat}:∀ (rs:List Rc) (x:Nat) (l r:Ld),ldAll g rs x l=some r->r.free.length<=l.free.length+rs.length/\∀i,(r.sh i).length<=(l.sh i).length+rs.length
 |[],_,l,r,h=>by cases h;exact⟨by simp,fun i=>by simp⟩
 |z::rs,x,l,r,h=>by
  unfold ldAll at h;cases hs:ldStep g x z l with
  |none=>rw[hs]at h;cases h
  |some D=>rw[hs]at h;obtain⟨a1,F⟩:=ldStep_len hs;obtain⟨H,G⟩:=ldAll_len rs (x+1) D r h;refine⟨by simp;omega,fun i=>?_⟩;have:=F i;have:=G i;simp;omega
theorem insP_mem {e y:Pe}:∀ {l:List Pe},y∈insP l e->y=e\/y∈l
 |[],h=>by simp[insP]at h;exact .inl h
 |r::z,h=>by
  unfold insP at h;split at h
  ·cases h with
   |head=>exact .inl rfl
   |tail _ h=>exact .inr (.tail _ h)
  ·split at h
   ·cases h with
    |head=>exact .inl rfl
    |tail _ h=>exact .inr h
   ·cases h with
    |head=>exact .inr (.head _)
    |tail _ h=>exact(insP_mem h).imp id (fun h=> .tail _ h)
theorem ldAll_inv {g:Nat->Nat} (R:Nat->Pe->Prop):∀ (rs:List Rc) (x:Nat) (l D:Ld),ldAll g rs x l=some D->(∀i,∀e∈l.sh i,R i e)->(∀j r,rs[j]? =some r->¬r.q<=g r.s->R r.s (r.q,r.b,x+j))->∀i,∀e∈D.sh i,R i e
 |[],_,l,D,h,h1,_=>by cases h;exact h1
 |r::rs,x,l,D,h,h1,h2=>by
  unfold ldAll at h;cases hs:ldStep g x r l with
  |none=>rw[hs]at h;cases h
  |some G=>
   rw[hs]at h;refine ldAll_inv R rs (x+1) G D h ?_ (fun j H hj F=>by have:=h2 (j+1) H (by simpa using hj) F;rw[show x+1+j=x+(j+1) by omega];exact this);unfold ldStep at hs;split at hs
   ·cases hs;exact h1
   ·rename_i F;split at hs
    ·cases hs
    ·cases hs;intro i e z;simp only at z;split at z
     ·rename_i hi;subst hi;rcases insP_mem z with rfl|z
      ·exact h2 0 r rfl F
      ·exact h1 _ e z
     ·exact h1 i e z
def ldRes (g:Nat->Nat) (rs:List Rc):Option Ld:=match ldAll g rs 0 ld0 with
 |none=>none
 |some l=>if okP (l.sh 0) (g 0)=true/\okP (l.sh 1) (g 1)=true/\okP (l.sh 2) (g 2)=true then some l else none
end Mod
def hD' (w x:World) (p s:Nat) (g:Nat->Nat) (l:Mod.Ld):Prop:=
 ∃arr nv mv fv,jh' x p g 0 false false l.free (eG' l) arr s nv mv fv (.slice none 0 0)/\Far (fun k=>k=p) w x/\∀k,KaU p nv mv fv k->k=p\/w.heap.size<=k
theorem hD'.below {w x y:World} {p s:Nat} {g:Nat->Nat} {l:Mod.Ld} (h:hD' w x p s g l) (r:Below x.heap.size x y):hD' w y p s g l:=by
 obtain⟨arr,nv,mv,fv,h1,h2,h3⟩:=h;exact⟨arr,nv,mv,fv,h1.far (C' (E:=fun _=>False) r) (fun _ _ h=>h),h2.trans (C' (E:=fun _=>False) r) (fun _ _ h=>h.elim),h3⟩
theorem sj' {w:World} {p s:Nat} {g:Nat->Nat} {l:Mod.Ld} {arr:Array Value} {nv mv:Nat->Value} {fv rv:Value} (K:jh' w p g 0 false false l.free (eG' l) arr s nv mv fv rv) {i:Nat} (hi:i < 3):
  Calls Tryz.prog 79 #[A' p, .int .i64 i] w fun D w'=>D= .returned (.int .i64 (Mod.lastP (l.sh i) (g i):Nat))/\∃n,w'=w.drewN n:=by
 have r:=nf' K.blk (K.an (i * 3) (by omega)) (K.shs (i * 3) (by omega));rw[dL',show 4+i * 3 * 2=4+i * 6 by omega]at r;obtain⟨m,F,z,r⟩:∃ (m:Nat) (F:Bool),max m (g i)=Mod.lastP (l.sh i) (g i)/\Calls Tryz.prog 122 #[.pointer (some ⟨p,4+i * 6,none⟩)] w fun e w'=>e= .returned (.tuple #[.int .i64 m, .bool F])/\∃n,w'=w.drewN n:=by
  unfold Mod.lastP;rw[List.getLast?_map]at r;cases G:(l.sh i).getLast? with
  |none=>rw[G]at r;exact⟨0,false,rfl,r⟩
  |some x=>rw[G]at r;exact⟨x.1,true,rfl,r⟩
 have J:w.cell? ⟨p,1+i,none⟩=some (.int .i64 (g i)):=by rw[t' K.blk,K.ag i hi]
 obtain⟨n,H⟩:∃n,n=Mod.lastP (l.sh i) (g i):=⟨_,rfl⟩;rw[<-H]at z ⊢;obtain⟨b,I⟩:∃b,b=g i:=⟨_,rfl⟩;rw[<-I]at z J;have M:max (m:Int) (b:Int)=(n:Int):=by omega
 have O:=y' r;have Q:(0:Int)<=(i:Int):=by omega
 have U:(i:Int) < 3:=by omega
 clear K r H I z;unfold A';go_enter Tryz.func79,Tryz.ntmps79;go_wp2_with (go_at_call 122;refine(i' O).mono ?_;rintro D y ⟨rfl,q,rfl⟩);go_ret;exact⟨by first|rfl|simp[M],q,rfl⟩
theorem vC' {w:World} {p s:Nat} {g:Nat->Nat} {arr:Array Value} (D:w.heap[p]? =some (.cells arr 116 (0,0))) (F:arr=(((pU' s (.slice none 0 0) (.slice none 0 0)).setIfInBounds 1 (.int .i64 (g 0))).setIfInBounds 2 (.int .i64 (g 1))).setIfInBounds 3 (.int .i64 (g 2))):hD' w w p s g Mod.ld0:=by
 have G:arr.size=27:=by rw[F];rfl
 have H:∀k,eG' Mod.ld0 k=[]:=fun k=>by unfold eG' Mod.ld0;split <;> rfl
 have r:∀j,j≠1->j≠2->j≠3->arr[j]? =(pU' s (.slice none 0 0) (.slice none 0 0))[j]? :=fun j h1 h2 h3=>by rw[F,Array.getElem?_setIfInBounds_ne (fun e=>h3 e.symm),Array.getElem?_setIfInBounds_ne (fun e=>h2 e.symm),Array.getElem?_setIfInBounds_ne (fun e=>h1 e.symm)]
 refine⟨arr,fun _=> .slice none 0 0,fun _=> .map none, .slice none 0 0,⟨D,G,?_,fun i hi=>?_,fun k z=>?_,fun k z=>?_,?_,?_,?_,?_,?_,kK' _ _ _,fun k z=>by rw[H];exact fG' _,fun k z j hj=>?_,fun j k _ _ _ b D=>?_⟩,Far.refl _ _,?_⟩
 ·rw[r _ (by omega) (by omega) (by omega)];rfl
 ·obtain rfl|rfl|rfl:i=0\/i=1\/i=2:=by omega
  all_goals
   rw[F];rfl
 ·rw[r _ (by omega) (by omega) (by omega)];exact((np' s _ _).2 k z).1
 ·rw[r _ (by omega) (by omega) (by omega)];exact((np' s _ _).2 k z).2
 ·rw[r _ (by omega) (by omega) (by omega)];rfl
 ·rw[r _ (by omega) (by omega) (by omega)];rfl
 ·rw[r _ (by omega) (by omega) (by omega)];rfl
 ·rw[r _ (by omega) (by omega) (by omega)];rfl
 ·rw[r _ (by omega) (by omega) (by omega)];rfl
 ·rcases hj with h|h <;> cases h
 ·rcases D with h|h <;> cases h
 ·rintro k (h|h|⟨i,_,h⟩)
  ·exact .inl h
  ·cases h
  ·rcases h with h|h <;> cases h
theorem sk' {w:World} {p s g cap m:Nat} {z:Nat->Nat} {rs:List Mod.Rc} (aU:hD' w w p s z Mod.ld0) (aV:w.ownsRow 0 150 3 (.slice (some ⟨g,0,none⟩) m cap) m (cT' rs)) (bB:rs.length=m) (cL:m<=24)
  (bC:∀r∈rs,r=Mod.rc0\/r.fits) (bD:∀i,i < 3->z i<=2147483647):
  Calls Tryz.prog 75 #[A' p, .slice (some ⟨g,0,none⟩) m cap] w fun r w'=>r= .returned (.bool (Mod.ldRes z rs).isSome)/\Far (fun k=>k=p) w w'/\∀l,Mod.ldRes z rs=some l->hD' w w' p s z l:=by
 have X:∃arr,w.heap[p]? =some (.cells arr 116 (0,0)):=by obtain⟨arr,_,_,_,K,_⟩:=aU;exact⟨arr,K.blk⟩
 obtain⟨cM,X⟩:=X;have bE:0 < m->g≠p:=fun _ e=>by have:=(as'.of_own aV).ne X (by decide);exact this (by rw[e];rfl)
 have bF:∀j r,rs[j]? =some r->w.cell? ⟨g,j * 3,none⟩=some (.int .i64 r.s)/\w.cell? ⟨g,j * 3+1,none⟩=some (.int .i64 r.q)/\w.cell? ⟨g,j * 3+2,none⟩=some (.string r.b):=by
  intro j r hj;have bG:=(List.getElem?_eq_some_iff.1 hj).1;obtain⟨cN,cO,e,_,_,ay⟩:=(as'.of_own aV).shape;obtain⟨g',cP,aK,ay⟩:=ay (by omega);rw[aK]at e;injection e with e;injection e with e;injection e with e ch;subst e ch;have aW:=dH' rs;have:=jv' rs j r hj;refine⟨?_,?_,?_⟩
  ·have h:=ay (j * 3) (by omega);rw[Nat.zero_add]at h;rw[h];exact this.1
  ·have h:=ay (j * 3+1) (by omega);rw[Nat.zero_add]at h;rw[h];exact this.2.1
  ·have h:=ay (j * 3+2) (by omega);rw[Nat.zero_add]at h;rw[h];exact this.2.2
 have ci:=y' bF;have cj:=y' bE;have cQ:=lt_of_block X;have bH:=y' aU;have bI:=y' bC;have aX:=y' bB;have bJ:=y' bD;clear aV bF bE aU bC bB bD X;unfold A';go_enter Tryz.func75,Tryz.ntmps75;go_wp2;go_loopw[5,6,7,12] (fun _ _ _ i wr=>∃j:Nat,j<=m/\i= .int .i64 j/\∃l,Mod.ldAll z (rs.take j) 0 Mod.ld0=some l/\hD' w wr p s z l) (fun _ _ _ i _=>m - (intOf i).toNat)
 case atStart=>exact⟨0,by omega,rfl,_,rfl,i' bH⟩
 case round=>
  obtain⟨j,hj,rfl,l,az,G⟩:=hrel;clear bH;by_cases ck:j < m
  ·obtain⟨r,ao⟩:∃r,rs[j]? =some r:=⟨_,List.getElem?_eq_getElem (by have:=i' aX;omega)⟩;obtain⟨aY,bK,aK⟩:=(i' ci) j r ao;have Y:=Mod.ldAll_step ao az;have aZ:=Mod.ldAll_len _ _ _ _ az;have ba:=(i' bI) r (List.mem_of_getElem? ao);have cl:r.s < 3:=by
    rcases ba with h|h
    ·rw[h];show 0 < 3;omega
    ·exact h.1
   have cm:g < w.heap.size:=World.block_lt_of_cell? _ _ aY;have aL:wr.heap[g]? =w.heap[g]? :=by obtain⟨_,_,_,_,_,hF,_⟩:=G;exact hF.rest g cm ((i' cj) (by omega))
   have cn:=(World.cell?_of_block (w:=w) aL:wr.cell? ⟨g,j * 3,none⟩= _).trans aY;have co:=(World.cell?_of_block (w:=w) aL:wr.cell? ⟨g,j * 3+1,none⟩= _).trans bK;have bb:=(World.cell?_of_block (w:=w) aL:wr.cell? ⟨g,j * 3+2,none⟩= _).trans aK;have cR:l.free.length<=24:=by have:=aZ.1;simp[Mod.ld0]at this;omega
   have cS:(l.sh r.s).length<=24:=by have:=aZ.2 r.s;simp[Mod.ld0]at this;omega
   have F:=y' G;have ap:=y' Y;have bL:=y' ba;clear aL aY bK aK G az Y ao aZ ba;obtain⟨aq,bc⟩:∃aq,aq=wr.heap.size:=⟨_,rfl⟩;have cp:p < wr.heap.size:=by obtain⟨_,_,_,_,K,_⟩:=i' F;exact lt_of_block K.blk
   have cT:aq≠p:=by omega
   go_upto_region 4 with fail
   rw[<-bc];refine H' (fun x=>x.heap[aq]? =some (.cells #[.int .i64 r.s, .int .i64 r.q, .string r.b] 150 (0,0))/\hD' w x p s z l) ?_ ?_
   ·rw[bc];exact⟨heap_alloc_new _ _,(i' F).below ((Below.refl _ _).alloc (Nat.le_refl _) _)⟩
   clear cn co bb bc F cp;rintro x ⟨H,aM⟩;have r0:=t' (i:=0) H;have Z:=t' (i:=1) H;have aA:=t' (i:=2) H;simp at r0 Z aA;have ad:=y' H;have F:=y' aM;obtain⟨arr,nv,mv,fv,K,D,N⟩:=aM;have be:x.cell? ⟨p,1+r.s,none⟩=some (.int .i64 (z r.s)):=by rw[t' K.blk,K.ag r.s cl]
   have s0:(0:Int)<=(r.s:Int):=by omega
   have cU:(r.s:Int) < 3:=by omega
   obtain⟨aB,bf⟩:∃aB,aB=z r.s:=⟨_,rfl⟩;rw[<-bf]at be;have bM:=y' bf;clear K D N H bf;by_cases aa:r.q<=aB
   ·have bg:(r.q:Int)<=(aB:Int):=by omega
    have bh:Hid (Mod.ldAll z (rs.take (j+1)) 0 Mod.ld0=some {l with free:=l.free++[j]}):=by show _= _;rw[i' ap];unfold Mod.ldStep;rw[if_pos (by rw[<-i' bM];exact aa)]
    clear ap aa;go_quiet (fail);go_upto_region 5 with fail;refine H' (fun y=>hD' w y p s z l) ((i' F).below (below_drewN (Below.refl _ _) _)) ?_;clear r0 Z aA ad F be bg;intro y G;obtain⟨arr,nv,mv,fv,K,D,N⟩:=G;obtain⟨I,bi⟩:∃I,I=l.free.length:=⟨_,rfl⟩;obtain⟨aC,aD,ah,_⟩:=K.fr.shape;have aE:=K.fr;rw[<-bi]at ah aE;have cV:I<=24:=by omega
    have cW:y.cell? ⟨p,22,none⟩=some (.slice aC I aD):=by rw[t' K.blk,K.af,ah]
    rw[ah]at aE;have cq:=fun aF=>y' (aE.keep (w':=y.alloc aF) (fun g cr=>hao _ _ (aE.lt g cr)));have bN:=K.fr.ne K.blk (by decide);have cs:∀aF U ab,as' ab 3 1 U (I+1) (J' l.free++[.int .i64 j])->App (y.alloc aF) ab (.slice aC I aD) U->∃aN aO,U= .slice aN (I+1) aO/\ab.frozen? ⟨p,22,none⟩=false/\ab.cell? ⟨p,22,none⟩=some (.slice aC I aD)/\
      Hid (hD' w (ab.setCell ⟨p,22,none⟩ U) p s z {l with free:=l.free++[j]}):=by
     intro aF U ab h1 h2;obtain⟨aN,aO,cu,_⟩:=h1.shape;have bj:Far (fun k=>(Value.slice aC I aD).ownBlock=some k) y ab:=(C' (E:=fun k=>(Value.slice aC I aD).ownBlock=some k) ((Below.refl _ _).alloc (Nat.le_refl _) aF)).trans (br' h2.grown) (fun _ _ h=>h);rw[<-ah]at bj;have X:=bj.blk K.blk bN;have cv:Loc y fv U:=by rw[ah];exact hS' (w:=y) (by simp) h2
     have cw:(l.free++[j]).length=I+1:=by rw[List.length_append,<-bi];rfl
     obtain⟨bk,K',bl,bm⟩:=wz' (free2:=l.free++[j]) K U bj (by rw[cw,show J' (l.free++[j])=J' l.free++[.int .i64 j] by simp[J']];exact h1) cv;refine⟨aN,aO,cu,I' (i:=22) X,?_,y' ⟨bk,nv,mv,U,K',?_,fun k ai=>?_⟩⟩
     ·rw[t' X,K.af,ah]
     ·refine D.trans bm (fun k ai h=>?_);rcases h with h|h
      ·exact h
      ·rcases N k (.inr (.inl h))with h|h
       ·exact h
       ·omega
     ·rcases bl k ai with h|h
      ·exact N k h
      ·exact .inr (Nat.le_trans D.size h)
    clear K D N aE ah bi bN;go_upto_region 10 with (at_builtin;refine hY' rfl (.tmp 31) (.tmp 33) 101 rfl 3 _ 1 8 Tryz.underlying101 uW' rfl _ I (J' l.free) (i' (cq _)) rfl ⟨y.heap.size,0,none⟩ 1 1 [.int .i64 j] rfl rfl bX' (by intro u hu;simp at hu;subst hu;rfl) (by omega) (by omega) (by omega) ?_;intro U ab h1 h2;obtain⟨aN,aO,rfl,cX,cY,cx⟩:=cs _ _ _ h1 h2;clear h1 h2;go_simp);go_wp2;exact⟨⟨j+1,by omega,by go_num,_,i' bh,i' cx⟩,by simp[intOf];omega⟩
   ·have bg:¬ (r.q:Int)<=(aB:Int):=by omega
    have bO:r.fits:=by
     rcases i' bL with h|h
     ·exfalso;rw[h]at aa;exact aa (Nat.zero_le _)
     ·exact h
    have cZ:=y' bO;have bP:Hid (¬r.q<=z r.s):=by rw[<-i' bM];exact y' aa
    clear bO aa bL;go_quiet (fail);go_upto_region 6 with fail;go_quiet (fail);go_upto_region 7 with fail;refine H' (fun y=>y.heap[aq]? =some (.cells #[.int .i64 r.s, .int .i64 r.q, .string r.b] 150 (0,0))/\hD' w y p s z l) ⟨i' ad,(i' F).below (below_drewN (below_drewN (Below.refl _ _) _) _)⟩ ?_;clear r0 Z aA ad F be bg;rintro y ⟨H,G⟩;have Z:=t' (i:=1) H;simp at Z;have ad:=y' H;have F:=y' G;obtain⟨arr,nv,mv,fv,K,D,N⟩:=G;have aP:=uO' K.blk (K.am (r.s * 3) (by omega)) (K.shs (r.s * 3) (by omega)) (by rw[dL'];exact vA' _) (r.q:Int);rw[dL',fD',vz',show 4+r.s * 3 * 2=4+r.s * 6 by omega]at aP;obtain⟨V,bn⟩:∃V,V=((l.sh r.s).map (·.1)).contains r.q:=⟨_,rfl⟩;rw[<-bn]at aP;have bo:=y' aP;have bQ:=y' bn;clear K D N H aP bn;cases V with
    |true=>
     have ac:Hid (Mod.ldRes z rs=none):=by have h:=i' ap;unfold Mod.ldStep at h;rw[if_neg (i' bP),<-i' bQ,if_pos rfl]at h;show _= _;unfold Mod.ldRes;rw[Mod.ldAll_bad h]
     have cy:Hid (Far (fun k=>k=p) w y):=by obtain⟨_,_,_,_,_,D,_⟩:=i' F;exact D
     clear ap F;go_wp2_with (go_at_call 115;refine(i' bo).mono ?_;rintro e bb ⟨rfl,aj⟩;replace aj:=y' aj);go_ret;refine⟨bF' (by rw[i' ac];rfl),(i' cy).trans (C' (E:=fun _=>False) (i' aj)) (fun _ _ h=>h.elim),fun bp h=>?_⟩;rw[i' ac]at h;cases h
    |false=>
     have bh:Hid (Mod.ldAll z (rs.take (j+1)) 0 Mod.ld0=some {l with sh:=fun i=>if i=r.s then Mod.insP (l.sh r.s) (r.q,r.b,j)else l.sh i}):=by show _= _;rw[i' ap];unfold Mod.ldStep;rw[if_neg (i' bP),<-i' bQ,if_neg (by simp)]
     clear ap;go_upto_region 9 with (go_at_call 115;refine(i' bo).mono ?_;rintro e bb ⟨rfl,aj⟩);refine H' (fun y=>y.heap[aq]? =some (.cells #[.int .i64 r.s, .int .i64 r.q, .string r.b] 150 (0,0))/\hD' w y p s z l) ⟨(aj.block _ (lt_of_block (i' ad))).trans (i' ad),(i' F).below aj⟩ ?_;clear aj bo ad F Z;rintro bR ⟨H,G⟩;have Z:=t' (i:=1) H;have aA:=t' (i:=2) H;simp at Z aA;have F:=y' G;obtain⟨arr,nv,mv,fv,K,D,N⟩:=G;have bS:eJ' bR p (4+r.s * 3 * 2) 116 arr (nv (r.s * 3)) (mv (r.s * 3)) ((l.sh r.s).map toV):=⟨K.blk,K.an _ (by omega),K.am _ (by omega),by have:=K.shs (r.s * 3) (by omega);rw[dL']at this;exact this,by decide⟩;have aG:=ps' bS (by simp;omega) r.q r.b j;have bq:=qs' (r.q,r.b,j) (l.sh r.s);simp only at bq;rw[bq]at aG;unfold ce' at aG;rw[show 4+r.s * 3 * 2=4+r.s * 6 by omega]at aG;have bT:∀ak,cd' bR ak p (4+r.s * 6) 116 arr (nv (r.s * 3)) (mv (r.s * 3)) ((Mod.insP (l.sh r.s) (r.q,r.b,j)).map toV)->hD' w ak p s z {l with sh:=fun i=>if i=r.s then Mod.insP (l.sh r.s) (r.q,r.b,j)else l.sh i}:=by
      intro ak Y;rw[show 4+r.s * 6=4+r.s * 3 * 2 by omega]at Y;obtain⟨bk,nv',mv',K',bl,bm⟩:=xP' K (by omega) Y;refine⟨bk,nv',mv',fv,?_,?_,fun k ai=>?_⟩
      ·have:=vB' l r.s (Mod.insP (l.sh r.s) (r.q,r.b,j));rw[this]at K';exact K'
      ·refine D.trans bm (fun k ai h=>?_);rcases h with h|h
       ·exact h
       ·rcases N k (.inr (.inr ⟨r.s * 3,by omega,h⟩))with h|h
        ·exact h
        ·omega
      ·rcases bl k ai with h|h
       ·exact N k h
       ·exact .inr (Nat.le_trans D.size h)
     have cz:=fun ak h=>y' (bT ak h);have cA:=y' aG;clear K D N H bS aG bq bT F;go_wp2_with (go_at_call 81;refine(i' cA).mono ?_;rintro e ak ⟨rfl,Y⟩;have cB:=cz ak Y;clear Y);exact⟨⟨j+1,by omega,by go_num,_,i' bh,i' cB⟩,by simp[intOf];omega⟩
  ·have bG:j=m:=by omega
   have aQ:Mod.ldAll z rs 0 Mod.ld0=some l:=by rw[<-az,List.take_of_length_le (by have:=i' aX;omega)]
   have aW:=Mod.ldAll_len _ _ _ _ aQ;have bU:∀i,∀e∈l.sh i,e.1<=2147483647:=Mod.ldAll_inv (fun _ e=>e.1<=2147483647) _ _ _ _ aQ (fun i e cC=>by cases cC) (fun k r ao _=>by
    rcases(i' bI) r (List.mem_of_getElem? ao)with h|h
    ·rw[h];exact Nat.zero_le _
    ·exact h.2.2.1)
   have bV:∀t,t < 3->(l.sh t).length<=24:=fun t _=>by have:=aW.2 t;have:=i' aX;simp[Mod.ld0]at *;omega
   have bW:∀t,t < 3->Mod.lastP (l.sh t) (z t)<=2147483647:=fun t bX=>by
    have h1:=(i' bJ) t bX;unfold Mod.lastP;cases aa:(l.sh t).getLast? with
    |none=>simp only;omega
    |some e=>
     have:=bU t e (List.mem_of_getLast? aa);simp only
     omega
   have aR:=y' (And.intro aQ (And.intro bV bW));obtain⟨au,br⟩:∃au,au=wr:=⟨_,rfl⟩;rw[<-br]at G;have cD:=y' br;have F:=y' G;have db:¬ (j:Int) < (m:Int):=by omega
   clear br G aQ bV bW aW bU az bG ck;go_wp2;go_loopw[8,9,57] (fun _ _ i wr2=>∃t:Nat,t<=3/\i= .int .i64 t/\Below au.heap.size au wr2/\∀k,k < t->Mod.okP (l.sh k) (z k)=true) (fun _ _ i _=>3 - (intOf i).toNat)
   case atStart=>exact⟨0,by omega,rfl,by rw[i' cD];exact Below.refl _ _,fun k ai=>by omega⟩
   case round=>
    obtain⟨t,bX,rfl,V,av⟩:=hrel;by_cases aH:t < 3
    ·have cE:=(i' F).below V;obtain⟨arr,nv,mv,fv,K,D,N⟩:=cE;have bt:=y' (sj' K aH);have Q:=y' V;have cF:=(i' aR).2.2 t aH;have cG:=(i' aR).2.1 t aH;have cH:=(i' bJ) t aH;have dc:(0:Int)<=(t:Int):=by omega
     have dd:(t:Int) < 3:=by omega
     obtain⟨J,bu⟩:∃J,J=Mod.lastP (l.sh t) (z t):=⟨_,rfl⟩;obtain⟨M,aS⟩:∃M,M=(l.sh t).length:=⟨_,rfl⟩;obtain⟨O,aT⟩:∃O,O=z t:=⟨_,rfl⟩;have bY:Mod.okP (l.sh t) (z t)=(decide (J<=1073741824) &&decide (J=O+M)):=by rw[bu,aS,aT];rfl
     rw[<-bu]at bt cF;rw[<-aS]at cG;rw[<-aT]at cH;have ax:=y' (And.intro av bY);have bZ:=y' (And.intro aS aT);clear K D N V bu aS aT av bY;have de:IntKind.i64.wrap ((O:Int)+(M:Int))=(O:Int)+(M:Int):=by rw[IntKind.wrap_i64];omega
     have ac:Hid (Mod.okP (l.sh t) (z t)=false->Mod.ldRes z rs=none):=by
      refine y' (fun h=>?_);unfold Mod.ldRes;rw[(i' aR).1];simp only
      rw[if_neg];rintro⟨ca,cb,cc⟩;obtain rfl|rfl|rfl:t=0\/t=1\/t=2:=by omega
      ·rw[h]at ca;cases ca
      ·rw[h]at cb;cases cb
      ·rw[h]at cc;cases cc
     unfold A' at *;go_upto_region 15 with (go_at_call 79;refine(i' bt).mono ?_;rintro r y ⟨rfl,q,rfl⟩);refine H' (fun x=>Below au.heap.size au x) ((i' Q).trans (below_drewN (Below.refl _ _) _ |>.mono (i' Q).size)) ?_;clear Q bt;intro x bw;have aM:=(i' F).below bw;obtain⟨arr,nv,mv,fv,K,D,N⟩:=aM;have Q:=y' bw;have bz:∀n,Calls Tryz.prog 110 #[.pointer (some ⟨p,4+t * 3 * 2,none⟩)] (x.drewN n) fun e w'=>e= .returned (.int .i64 ((eG' l (t * 3)).length:Nat))/\w'=x.drewN n:=fun n=>pt' (w:=x.drewN n) K.blk (K.an (t * 3) (by omega)) ((K.shs (t * 3) (by omega)).far (ao' (fun _=>False) x n) (fun _ _ h=>h));have cd:(eG' l (t * 3)).length=M:=by rw[dL',List.length_map,(i' bZ).1]
     rw[cd,show 4+t * 3 * 2=4+t * 6 by omega]at bz;have bA:=fun n=>y' (bz n);have c1:x.cell? ⟨p,1+t,none⟩=some (.int .i64 O):=by rw[t' K.blk,K.ag t aH,(i' bZ).2]
     clear K D N bw bz cd;by_cases c2:(1073741824:Int) < (J:Int)
     ·have aI:=(i' ac) (by rw[(i' ax).2,decide_eq_false (show ¬J<=1073741824 by omega)];rfl);have aJ:=y' aI;clear aI ac ax;go_quiet (first|(go_at_call 110;exact Calls.quiet_of_same (i' (bA _))));go_wp2;go_ret;refine⟨bF' (by rw[i' aJ];rfl),?_,fun bp h=>?_⟩
      ·obtain⟨_,_,_,_,_,D,_⟩:=i' F;exact D.trans (C' (E:=fun _=>False) ((i' Q).trans (below_drewN (Below.refl _ _) _ |>.mono (i' Q).size))) (fun _ _ h=>h.elim)
      ·rw[i' aJ]at h;cases h
     ·by_cases c3:(J:Int)=(O:Int)+(M:Int)
      ·have cI:((J:Int) != (O:Int)+(M:Int))=false:=by simp[c3]
       have cJ:Hid (Mod.okP (l.sh t) (z t)=true):=by show _= _;rw[(i' ax).2,decide_eq_true (show J<=1073741824 by omega),decide_eq_true (show J=O+M by omega)];rfl
       clear ac c3;go_quiet (first|(go_at_call 110;exact Calls.quiet_of_same (i' (bA _))));go_wp2;refine⟨⟨t+1,by omega,by go_num,(i' Q).trans (below_drewN (Below.refl _ _) _ |>.mono (i' Q).size),fun k ai=>?_⟩,by simp[intOf];omega⟩;by_cases e:k=t
       ·rw[e];exact i' cJ
       ·exact(i' ax).1 k (by omega)
      ·have cI:((J:Int) != (O:Int)+(M:Int))=true:=by simp;omega
       have aI:=(i' ac) (by rw[(i' ax).2,decide_eq_false (show ¬J=O+M by omega)];simp);have aJ:=y' aI;clear aI ac ax c3;go_quiet (first|(go_at_call 110;exact Calls.quiet_of_same (i' (bA _))));go_wp2;go_ret;refine⟨bF' (by rw[i' aJ];rfl),?_,fun bp h=>?_⟩
       ·obtain⟨_,_,_,_,_,D,_⟩:=i' F;exact D.trans (C' (E:=fun _=>False) ((i' Q).trans (below_drewN (Below.refl _ _) _ |>.mono (i' Q).size))) (fun _ _ h=>h.elim)
       ·rw[i' aJ]at h;cases h
    ·have cK:t=3:=by omega
     subst cK;have ce:Mod.ldRes z rs=some l:=by
      unfold Mod.ldRes;rw[(i' aR).1];simp only
      rw[if_pos ⟨av 0 (by omega),av 1 (by omega),av 2 (by omega)⟩]
     have cf:=y' ce;have cg:=y' ((i' F).below V);clear ce av V F;go_wp2;go_ret;refine⟨bF' (by rw[i' cf];rfl),?_,fun bp h=>?_⟩
     ·obtain⟨_,_,_,_,_,D,_⟩:=i' cg;exact D
     ·rw[i' cf]at h;cases h;exact i' cg
end Go.Proofs.YtamafdcnbcoegabGreat
namespace Go.Proofs.YtamafdcnbcoegabGreat
namespace Mod
def cnt (l:Nat->List ByteArray):Nat:=(l 0).length+(l 1).length+(l 2).length
def logAdd (l:Nat->List ByteArray) (s:Nat) (b:ByteArray):Nat->List ByteArray:=fun j=>if j=s then l s++[b]else l j
theorem cnt_add (l:Nat->List ByteArray) (s:Nat) (b:ByteArray) (hs:s < 3):cnt (logAdd l s b)=cnt l+1:=by
 unfold cnt logAdd;obtain rfl|rfl|rfl:s=0\/s=1\/s=2:=by omega
 all_goals
  simp;try omega
def skLd:List Rc->Nat->(Nat->List ByteArray)->Option (Nat->List ByteArray)
 |[],_,l=>some l
 |r::rs,x,l=>if r.q=0 then skLd rs (x+1) l else if x=cnt l/\r.q=(l r.s).length+1 then skLd rs (x+1) (logAdd l r.s r.b)else none
def skLoad (L:List UInt8):Option Sk:=
 match openSt L with
 |none=>none
 |some (h,_,rs)=>if h.b=0/\h.d=0 then(match skLd rs 0 (fun _=>[])with
  |none=>none
  |some l=>some {epoch:=h.a,logs:=l,held:=[]})else none
theorem skLd_app:∀ (rs r:List Rc) (x:Nat) (l:Nat->List ByteArray),skLd (rs++r) x l=match skLd rs x l with
  |none=>none
  |some z=>skLd r (x+rs.length) z
 |[],r,x,l=>by simp[skLd]
 |D::rs,r,x,l=>by
  rw[List.cons_append,skLd,skLd,List.length_cons,show x+(rs.length+1)=x+1+rs.length by omega];split
  ·exact skLd_app rs r (x+1) l
  ·split
   ·exact skLd_app rs r (x+1) _
   ·rfl
theorem skLd_zero:∀ (n x:Nat) (l:Nat->List ByteArray),skLd (List.replicate n rc0) x l=some l
 |0,_,_=>rfl
 |n+1,x,l=>by rw[List.replicate_succ,skLd,if_pos (show rc0.q=0 from rfl)];exact skLd_zero n (x+1) l
theorem skLd_gap:∀ (rs:List Rc) (x:Nat) (l r:Nat->List ByteArray),cnt l < x->skLd rs x l=some r->r=l/\∀D∈rs,D.q=0
 |[],x,l,r,_,h=>by cases h;exact⟨rfl,fun D z=>by cases z⟩
 |D::rs,x,l,r,G,h=>by
  rw[skLd]at h;split at h
  ·rename_i h0;obtain⟨e,i⟩:=skLd_gap rs (x+1) l r (by omega) h;exact⟨e,fun F z=>by
    cases z with
    |head=>exact h0
    |tail _ z=>exact i F z⟩
  ·rw[if_neg (by omega)]at h;cases h
theorem skLd_some:∀ (rs:List Rc) (x:Nat) (l D:Nat->List ByteArray),cnt l=x->(∀r∈rs,r.s < 3)->skLd rs x l=some D->
  ∃n,n<=rs.length/\cnt D=x+n/\skLd (rs.take n) x l=some D/\(∀y,y < n->∃r,rs[y]? =some r/\r.q≠0)/\∀y,n<=y->∀r,rs[y]? =some r->r.q=0
 |[],x,l,D,G,_,h=>by cases h;exact⟨0,Nat.le_refl _,G,rfl,fun y H=>by omega,fun y _ r z=>by simp at z⟩
 |r::rs,x,l,D,G,hs,h=>by
  have O:=h;rw[skLd]at h;split at h
  ·rename_i h0;obtain⟨e,i⟩:=skLd_gap rs (x+1) l D (by omega) h;subst e;refine⟨0,Nat.zero_le _,G,rfl,fun y H=>by omega,fun y _ F z=>?_⟩;cases y with
   |zero=>simp at z;rw[<-z];exact h0
   |succ y=>exact i F (List.mem_of_getElem? (by simpa using z))
  ·rename_i h0;split at h
   ·rename_i h1;obtain⟨n,Q,U,I,J,M⟩:=skLd_some rs (x+1) _ D (by rw[cnt_add _ _ _ (hs r (.head _)),G]) (fun F z=>hs F (.tail _ z)) h;refine⟨n+1,by simp;omega,by omega,?_,fun y H=>?_,fun y H F z=>?_⟩
    ·rw[List.take_succ_cons,skLd,if_neg h0,if_pos h1];exact I
    ·cases y with
     |zero=>exact⟨r,rfl,h0⟩
     |succ y=>exact J y (by omega)
    ·cases y with
     |zero=>omega
     |succ y=>exact M y (by omega) F (by simpa using z)
   ·cases h
structure SkDisk (L:List UInt8) (op ct hd e:Nat) (logs:Nat->List ByteArray):Prop where
 ok:DiskOk L op ct hd (fun i=>if i=0 then e else 0) 122
 rcs:∃ord:List Rc,ord.length=cnt logs/\cnt logs<=120/\(∀r∈ord,r.fits)/\skLd ord 0 (fun _=>[])=some logs/\∀x,x < 120->RecAt (sec L (2+x)) op (ord.getD x rc0)
theorem SkDisk.loads {L:List UInt8} {op ct hd e:Nat} {logs:Nat->List ByteArray} (h:SkDisk L op ct hd e logs) (z:op<=1073741824):skLoad L=some {epoch:=e,logs:=logs,held:=[]}:=by
 obtain⟨r,J,M,O,D,F⟩:=h.rcs;obtain⟨c,G⟩:=h.ok.opens z (fun x=>r.getD x rc0) (fun x H=>F x H);have I:(List.range (122 - 2)).map (fun x=>r.getD x rc0)=r++List.replicate (120 - r.length) rc0:=by
  apply List.ext_getElem?;intro i;rw[List.getElem?_map,List.getElem?_append,List.getElem?_replicate];by_cases hi:i < 120
  ·rw[List.getElem?_range (by omega)];by_cases hl:i < r.length
   ·rw[if_pos hl];simp[List.getD_eq_getElem?_getD,hl]
   ·rw[if_neg hl,if_pos (by omega)];simp[List.getD_eq_getElem?_getD,List.getElem?_eq_none (by omega:r.length<=i)]
  ·rw[List.getElem?_eq_none (by simp;omega),if_neg (by omega),if_neg (by omega)];rfl
 unfold skLoad;rw[G];simp only
 rw[if_pos (by simp),I,skLd_app,D];simp only
 rw[skLd_zero];simp
theorem SkDisk.commit {L:List UInt8} {op ct hd e:Nat} {logs:Nat->List ByteArray} (h:SkDisk L op ct hd e logs) {s:Nat} {b:ByteArray} (hs:s < 3) (F:b.size<=20) (r:cnt logs < 120) (G:ct+1 < 18446744073709551616):
  SkDisk (setSec L (2+cnt logs) (sealR op (ct+1) ⟨s,(logs s).length+1,b⟩)) op (ct+1) hd e (logAdd logs s b):=by
 obtain⟨z,H,V,J,M,O⟩:=h.rcs;have D:(sealR op (ct+1) ⟨s,(logs s).length+1,b⟩).length=64:=length_sealR F;have X:(logs s).length<=cnt logs:=by
  unfold cnt;obtain rfl|rfl|rfl:s=0\/s=1\/s=2:=by omega
  all_goals omega
 have I:Rc.fits ⟨s,(logs s).length+1,b⟩:=⟨hs,by show 1<=(logs s).length+1;omega,by show(logs s).length+1<= _;omega,F⟩;refine⟨h.ok.record D (by omega) G,z++[⟨s,(logs s).length+1,b⟩],by rw[cnt_add _ _ _ hs];simp[H],by rw[cnt_add _ _ _ hs];omega,?_,?_,fun x Q=>?_⟩
 ·intro U r;rw[List.mem_append]at r;rcases r with r|r
  ·exact J U r
  ·rw[List.mem_singleton]at r;rw[r];exact I
 ·rw[skLd_app,M];simp only
  rw[skLd,if_neg (by show ¬ (logs s).length+1=0;omega),if_pos ⟨by omega,rfl⟩,skLd]
 ·have hl:=h.ok.len;by_cases e:x=cnt logs
  ·subst e;rw[sec_set D (by omega),List.getD_eq_getElem?_getD,List.getElem?_append_right (by omega),H,Nat.sub_self];exact .inr ⟨op,ct+1,h.ok.op1,Nat.le_refl _,h.ok.opm,G,I,rfl⟩
  ·rw[sec_other D (by omega) (by omega)];have:(z++[Rc.mk s ((logs s).length+1) b]).getD x rc0=z.getD x rc0:=by
    rw[List.getD_eq_getElem?_getD,List.getD_eq_getElem?_getD,List.getElem?_append];split
    ·rfl
    ·rw[List.getElem?_eq_none (by simp;omega),List.getElem?_eq_none (by omega)]
   rw[this];exact O x Q
theorem SkDisk.epoch {L:List UInt8} {op ct hd e:Nat} {logs:Nat->List ByteArray} (h:SkDisk L op ct hd e logs) {r:Nat} (O:r<=2147483647) (z:ct+1 < 18446744073709551616):
  SkDisk (setSec L (1 - hd) (sealH ⟨op,ct+1,r,0,0⟩)) op (ct+1) (1 - hd) r logs:=by
 obtain⟨D,F,G,H,I,J⟩:=h.rcs;have hl:=h.ok.len;refine⟨h.ok.numbers (g':=fun i=>if i=0 then r else 0) (fun i _=>by show(if i=0 then r else 0)<= _;split <;> omega) z,D,F,G,H,I,fun x M=>?_⟩;rw[sec_other (length_sealH _) (by omega) (by omega)];exact J x M
theorem skLoad_some {L:List UInt8} {a:Sk} (h:skLoad L=some a):∃hd at' rs,openSt L=some (hd,at',rs)/\hd.b=0/\hd.d=0/\a.epoch=hd.a/\a.held=[]/\skLd rs 0 (fun _=>[])=some a.logs:=by
 unfold skLoad at h;cases r:openSt L with
 |none=>rw[r]at h;cases h
 |some p=>
  obtain⟨hd,at',rs⟩:=p;rw[r]at h;simp only at h;split at h
  ·rename_i h0;cases hl:skLd rs 0 (fun _=>[])with
   |none=>rw[hl]at h;cases h
   |some l=>rw[hl]at h;cases h;exact⟨hd,at',rs,rfl,h0.1,h0.2,rfl,rfl,hl⟩
  ·cases h
theorem skDisk_opened {L:List UInt8} {a:Sk} {hd:Hd} {at':Nat} {rs:List Rc} (M:openSt L=some (hd,at',rs)) (O:hd.b=0) (hd0:hd.d=0) (hl:skLd rs 0 (fun _=>[])=some a.logs) (Q:L.length=7808):
  SkDisk (openL L hd at') (hd.o+1) 1 (1 - at') hd.a a.logs:=by
 obtain⟨U,z⟩:=openSt_some M;rw[Q]at z;obtain⟨ad,H⟩:=recsFrom_some _ _ z;have I:∀x,x < 120->RecAt (sec L (2+x)) (hd.o+1) (rs.getD x rc0):=fun x r=>by obtain⟨k1,k2⟩:=H x r;rw[Nat.zero_add]at k1 k2;rw[List.getD_eq_getElem?_getD,k2];exact(recAt_ok k1).up (by omega)
 have V:∀D∈rs,D.s < 3:=fun D z=>by obtain⟨x,r,e⟩:=List.mem_iff_getElem.1 z;obtain⟨k1,k2⟩:=H x (by omega);rw[List.getElem?_eq_getElem r,e]at k2;cases k2;exact(recOk_small k1).1
 obtain⟨n,ah,ai,X,Y,Z⟩:=skLd_some rs 0 _ _ (by rfl) V hl;have aa:=opened_ok U (m:=122) (by omega) (by omega);refine⟨?_,rs.take n,by simp;omega,by omega,fun D z=>?_,X,fun x r=>?_⟩
 ·have:hd.num=fun i=>if i=0 then hd.a else 0:=by
   funext i;unfold Hd.num;split
   ·rfl
   ·split
    ·exact O
    ·exact hd0
  rw[<-this];exact aa
 ·obtain⟨x,r,e⟩:=List.mem_iff_getElem.1 z;have F:x < n:=by simp at r;omega
  obtain⟨J,h1,h2⟩:=Y x F;have h3:rs.getD x rc0=J:=by rw[List.getD_eq_getElem?_getD,h1];rfl
  have h4:D=J:=by rw[<-e];simp only[List.getElem_take];rw[List.getElem?_eq_getElem (by omega)]at h1;cases h1;rfl
  have:=I x (by omega);rw[h3,<-h4]at this;rcases this with ⟨_,ab⟩|⟨_,_,_,_,_,_,G,_⟩
  ·rw[<-h4,ab]at h2;exact absurd rfl h2
  ·exact G
 ·rw[openL_other (m:=122) (by omega) (by omega) (by omega)];have h0:=I x r;by_cases F:x < n
  ·have:(rs.take n).getD x rc0=rs.getD x rc0:=by rw[List.getD_eq_getElem?_getD,List.getD_eq_getElem?_getD,List.getElem?_take,if_pos F]
   rw[this];exact h0
  ·have:(rs.take n).getD x rc0=rc0:=by rw[List.getD_eq_getElem?_getD,List.getElem?_eq_none (by simp;omega)];rfl
   rw[this];have aj:=Z x (by omega) (rs.getD x rc0) (by rw[List.getD_eq_getElem?_getD,List.getElem?_eq_getElem (by omega)];rfl);rcases h0 with ⟨ac,_⟩|⟨_,_,_,_,_,_,G,_⟩
   ·exact .inl ⟨ac,rfl⟩
   ·have:=G.2.1;omega
end Mod
end Go.Proofs.YtamafdcnbcoegabGreat
namespace Go.Proofs.YtamafdcnbcoegabGreat
open Go.RowKit
def xA' (B:Nat) (b:ByteArray) (v:Value) (w:World):Prop:=∃g,v= .slice (some ⟨g,0,none⟩) 1 1/\B<=g/\w.heap[g]? =some (.cells #[.string b] 9 (0,0))
theorem qt' (B:Nat) (b:ByteArray):bL' (xA' B b):=fun _ _ _ h r=>by
 obtain⟨g,e,h1,h2⟩:=h;exact⟨g,e,h1,(r.block g (lt_of_block h2)).trans h2⟩
theorem iz' {B:Nat} {b:ByteArray} {E:Nat->Prop} (r:∀k,E k->k < B):ba' E (xA' B b):=fun _ _ _ h hF=>by
 obtain⟨g,e,h1,h2⟩:=h;exact⟨g,e,h1,hF.blk h2 (fun e=>by have:=r _ e;omega)⟩
def xB' (w0:World) (fv:Value) (n:Nat) (xs:List Value) (v:Value) (w:World):Prop:=as' w 9 1 v n xs/\Loc w0 fv v/\w0.heap.size<=w.heap.size
theorem qu' (w0:World) (fv:Value) (n:Nat) (xs:List Value):bL' (xB' w0 fv n xs):=fun _ _ _ h r=>
 ⟨h.1.keep (fun g z=>r.block g (h.1.lt g z)),h.2.1,Nat.le_trans h.2.2 r.size⟩
theorem oG' {w0:World} {fv:Value} {n:Nat} {xs:List Value} {E:Nat->Prop} (z:∀k,E k->k < w0.heap.size/\fv.ownBlock≠some k):ba' E (xB' w0 fv n xs):=fun _ _ _ h hF=>
 ⟨h.1.far hF (fun g r e=>by
  obtain⟨h1,h2⟩:=z g e;rcases h.2.1 with h3|h3|⟨k,h3,h4⟩
  ·rw[h3]at r;cases r
  ·rw[h3]at r;exact h2 r
  ·rw[h3]at r;cases r;omega),h.2.1,Nat.le_trans h.2.2 hF.size⟩
theorem ug' (s q:Nat) (b:ByteArray) (z:q≠0) (w:World):(binOp .eql 150 (.agg #[.int .i64 s, .int .i64 q, .string b]) (.agg #[.int .i64 0, .int .i64 0, .string ⟨#[]⟩])).run Tryz.prog w= .ok (.bool false) w:=by
 have r:((q:Int) ==0)=false:=by simp;omega
 rw[run_eql_struct,run_equalIn_struct w 9999 150 _ _ (by kernel_rfl) (by kernel_rfl)];cases hs:((s:Int) ==0) <;> simp[go_sem,r,hs]
theorem sl' (w:World):(binOp .eql 150 (.agg #[.int .i64 0, .int .i64 0, .string ⟨#[]⟩]) (.agg #[.int .i64 0, .int .i64 0, .string ⟨#[]⟩])).run Tryz.prog w= .ok (.bool true) w:=by kernel_rfl
def iA' (w x:World) (p e s:Nat) (logs:Nat->List ByteArray):Prop:=
 ∃arr lv,fP' x p e logs (fun _=>[]) arr s lv (fun _=> .slice none 0 0) (fun _=> .map none) (.slice none 0 0)/\Far (fun k=>k=p) w x/\∀i,i < 3->∀g,(lv i).ownBlock=some g->w.heap.size<=g
theorem iA'.below {w x y:World} {p e s:Nat} {logs:Nat->List ByteArray} (h:iA' w x p e s logs) (r:Below x.heap.size x y):iA' w y p e s logs:=by
 obtain⟨arr,lv,h1,h2,h3⟩:=h;exact⟨arr,lv,h1.far (C' (E:=fun _=>False) r) (fun _ _ h=>h),h2.trans (C' (E:=fun _=>False) r) (fun _ _ h=>h.elim),h3⟩
def es' (s e:Nat) (rv:Value):Array Value:= #[A' s, .int .i64 e, .slice none 0 0, .slice none 0 0, .map none, .slice none 0 0, .slice none 0 0, .map none, .slice none 0 0, .slice none 0 0, .map none,rv]
theorem vD' {w:World} {p e s:Nat} (z:w.heap[p]? =some (.cells (es' s e (.slice none 0 0)) 125 (0,0))) (D:e<=2147483647):iA' w w p e s (fun _=>[]):=by
 have h3:∀i,i < 3->(es' s e (.slice none 0 0))[2+i * 3]? =some (.slice none 0 0)/\(es' s e (.slice none 0 0))[2+i * 3+1]? =some (.slice none 0 0)/\(es' s e (.slice none 0 0))[2+i * 3+2]? =some (.map none):=by
  intro i hi;obtain rfl|rfl|rfl:i=0\/i=1\/i=2:=by omega
  all_goals exact⟨rfl,rfl,rfl⟩
 refine⟨_,fun _=> .slice none 0 0,⟨z,rfl,rfl,rfl,fun i hi=>(h3 i hi).1,fun i hi=>(h3 i hi).2.1,fun i hi=>(h3 i hi).2.2,rfl,fun i hi=>kK' _ _ _,fun i hi=>fG' _,(fun i hi x F=>by cases F),(fun i j _ _ _ g r=>by cases r),fun i j _ _ _ k G=>?_,by simp,D⟩,Far.refl _ _,fun i _ g r=>by cases r⟩;rcases G with h|h <;> cases h
theorem uh' {rs:List Mod.Rc} {j:Nat} {r:Mod.Rc} {l:Nat->List ByteArray} (z:rs[j]? =some r) (h:Mod.skLd (rs.take j) 0 (fun _=>[])=some l):
  Mod.skLd (rs.take (j+1)) 0 (fun _=>[])=if r.q=0 then some l else if j=Mod.cnt l/\r.q=(l r.s).length+1 then some (Mod.logAdd l r.s r.b)else none:=by
 obtain⟨hj,e⟩:=List.getElem?_eq_some_iff.1 z;rw[List.take_succ_eq_append_getElem hj,e,Mod.skLd_app,h];simp only[List.length_take];rw[show 0+min j rs.length=j by omega];rfl
theorem qv' {rs:List Mod.Rc} {j:Nat} (h:Mod.skLd (rs.take j) 0 (fun _=>[])=none):Mod.skLd rs 0 (fun _=>[])=none:=by
 have:=Mod.skLd_app (rs.take j) (rs.drop j) 0 (fun _=>[]);rw[List.take_append_drop,h]at this;exact this
theorem oH' {w:World} {p e s g cap m:Nat} {rs:List Mod.Rc} (aF:w.heap[p]? =some (.cells (es' s e (.slice none 0 0)) 125 (0,0))) (Y:w.ownsRow 0 150 3 (.slice (some ⟨g,0,none⟩) m cap) m (cT' rs)) (bb:rs.length=m) (ck:m<=120)
  (bc:∀r∈rs,r=Mod.rc0\/r.fits) (be:e<=2147483647):
  Calls Tryz.prog 86 #[A' p, .slice (some ⟨g,0,none⟩) m cap] w fun r w'=>r= .returned (.bool (Mod.skLd rs 0 (fun _=>[])).isSome)/\Far (fun k=>k=p) w w'/\∀logs,Mod.skLd rs 0 (fun _=>[])=some logs->iA' w w' p e s logs:=by
 have bf:0 < m->g≠p:=fun _ e=>by have:=(as'.of_own Y).ne aF (by decide);exact this (by rw[e];rfl)
 have bg:∀j r,rs[j]? =some r->w.cell? ⟨g,j * 3,none⟩=some (.int .i64 r.s)/\w.cell? ⟨g,j * 3+1,none⟩=some (.int .i64 r.q)/\w.cell? ⟨g,j * 3+2,none⟩=some (.string r.b):=by
  intro j r hj;have bh:=(List.getElem?_eq_some_iff.1 hj).1;obtain⟨Z,cl,e,_,_,aq⟩:=(as'.of_own Y).shape;obtain⟨g',cm,aG,aq⟩:=aq (by omega);rw[aG]at e;injection e with e;injection e with e;injection e with e bG;subst e bG;have cn:=dH' rs;have:=jv' rs j r hj;refine⟨?_,?_,?_⟩
  ·have h:=aq (j * 3) (by omega);rw[Nat.zero_add]at h;rw[h];exact this.1
  ·have h:=aq (j * 3+1) (by omega);rw[Nat.zero_add]at h;rw[h];exact this.2.1
  ·have h:=aq (j * 3+2) (by omega);rw[Nat.zero_add]at h;rw[h];exact this.2.2
 have bH:=y' bg;have bI:=y' bf;have co:=lt_of_block aF;have bi:=y' (vD' aF be);have bJ:=y' bc;have bj:=y' bb;clear Y bg bf aF bc bb be;unfold A';go_enter Tryz.func86,Tryz.ntmps86;go_wp2;go_loopw[5,6,7,10] (fun _ _ _ i wr=>∃j:Nat,j<=m/\i= .int .i64 j/\∃logs,Mod.skLd (rs.take j) 0 (fun _=>[])=some logs/\iA' w wr p e s logs) (fun _ _ _ i _=>m - (intOf i).toNat)
 case atStart=>exact⟨0,by omega,rfl,_,rfl,i' bi⟩
 case round=>
  obtain⟨j,hj,rfl,logs,aH,M⟩:=hrel;clear bi;by_cases cp:j < m
  ·obtain⟨r,au⟩:∃r,rs[j]? =some r:=⟨_,List.getElem?_eq_getElem (by have:=i' bj;omega)⟩;obtain⟨aO,bk,aG⟩:=(i' bH) j r au;have bl:=uh' au aH;have aI:=(i' bJ) r (List.mem_of_getElem? au);have bK:g < w.heap.size:=World.block_lt_of_cell? _ _ aO;have aJ:wr.heap[g]? =w.heap[g]? :=by obtain⟨_,_,_,hF,_⟩:=M;exact hF.rest g bK ((i' bI) (by omega))
   have bL:=(World.cell?_of_block (w:=w) aJ:wr.cell? ⟨g,j * 3,none⟩= _).trans aO;have bM:=(World.cell?_of_block (w:=w) aJ:wr.cell? ⟨g,j * 3+1,none⟩= _).trans bk;have bN:=(World.cell?_of_block (w:=w) aJ:wr.cell? ⟨g,j * 3+2,none⟩= _).trans aG;have F:=y' M;have av:=y' bl;have cq:=y' au;clear aJ aO bk aG M aH bl au;obtain⟨U,aK⟩:∃U,U=wr.heap.size:=⟨_,rfl⟩;have cr:=y' aK;go_upto_region 4 with fail;rw[<-aK];refine H' (fun x=>x.heap[U]? =some (.cells #[.int .i64 r.s, .int .i64 r.q, .string r.b] 150 (0,0))/\U < x.heap.size/\iA' w x p e s logs) ?_ ?_
   ·rw[aK];exact⟨heap_alloc_new _ _,by simp,(i' F).below ((Below.refl _ _).alloc (Nat.le_refl _) _)⟩
   clear bL bM bN aK F;rintro x ⟨D,bO,bm⟩;have r0:=t' (i:=0) D;have aa:=t' (i:=1) D;have ab:=t' (i:=2) D;simp at r0 aa ab;have ac:=y' D;have F:=y' bm;clear D bm;by_cases ad:r.q=0
   ·have bP:r=Mod.rc0:=by
     rcases aI with h|h
     ·exact h
     ·have:=h.2.1;omega
    have bn:=sl';have ax:Hid (Mod.skLd (rs.take (j+1)) 0 (fun _=>[])=some logs):=by show _= _;rw[i' av,if_pos ad]
    subst bP;unfold Mod.rc0 at r0 aa ab;simp only at r0 aa ab;clear av ad aI;go_wp2;go_roundw
    case rel=>exact⟨j+1,by omega,by go_num,logs,i' ax,i' F⟩
    case measure=>simp[intOf];omega
   ·have ah:r.fits:=by
     rcases aI with h|h
     ·rw[h]at ad;exact absurd rfl ad
     ·exact h
    have bn:=ug' r.s r.q r.b ad;obtain⟨G,bo,bp,bq⟩:=ah;have s0:(0:Int)<=(r.s:Int):=by omega
    have cs:(r.s:Int) < 3:=by omega
    have aP:=y' (And.intro ad (And.intro bo (And.intro bp bq)));clear ad bo bp bq aI;go_upto_region 5 with fail;go_quiet (fail);go_upto_region 6 with fail;refine H' (fun y=>y.heap[U]? =some (.cells #[.int .i64 r.s, .int .i64 r.q, .string r.b] 150 (0,0))/\iA' w y p e s logs) ⟨i' ac,(i' F).below (below_drewN (Below.refl _ _) _)⟩ ?_;clear r0 aa ab ac F bn bO;rintro y ⟨D,M⟩;have aa:=t' (i:=1) D;have ab:=t' (i:=2) D;simp at aa ab;have bQ:=lt_of_block D;have ac:=y' D;have F:=y' M;obtain⟨arr,lv,K,ai,N⟩:=M;obtain⟨Z,aj,ak,ay⟩:=K.logc G;have aQ:=K.loglen G;have bR:(logs 0).length+(logs 1).length+(logs 2).length<=120:=K.cnt;have ao:=fun n=>y' (eA' (w:=y.drewN n) (K.far (ao' (fun _=>False) y n) (fun _ _ h=>h)));have az:=fun n=>y' (dE' (y.drewN n) p (2+r.s * 3) _ aj Z ay (by omega));have V:=y' (And.intro K (And.intro ai (And.intro N ak)));have aR:Mod.cnt logs=(logs 0).length+(logs 1).length+(logs 2).length:=rfl;clear K ai N ak ay D;obtain⟨aA,aS⟩:∃aA,aA=(logs 0).length+(logs 1).length+(logs 2).length:=⟨_,rfl⟩;obtain⟨aB,ax⟩:∃aB,aB=(logs r.s).length+1:=⟨_,rfl⟩;rw[<-aS]at ao aR bR;rw[<-ax]at az;have aC:=y' (And.intro aR (And.intro ax aS));clear aR aS ax;unfold A' at ao;by_cases c1:j=aA
    ·have bS:((j:Int) != (aA:Int))=false:=by simp[c1]
     by_cases c2:r.q=aB
     ·have bT:((r.q:Int) != (aB:Int))=false:=by simp[c2]
      have aT:=y' (And.intro c1 c2);clear c1 c2;go_quiet (first
       |(go_at_call 129;exact Calls.quiet_of_same (i' (ao _)))
       |(go_at_call 130;exact Calls.quiet_of_same (i' (az _))))
      go_upto_region 8 with fail
      refine H' (fun ap=>ap.heap[U]? =some (.cells #[.int .i64 r.s, .int .i64 r.q, .string r.b] 150 (0,0))/\iA' w ap p e s logs) ⟨i' ac,(i' F).below (below_drewN (Below.refl _ _) _)⟩ ?_;clear aa ab ac F V ao az aQ bQ;rintro ap ⟨D,M⟩;obtain⟨arr,lv,K,ai,N⟩:=M;obtain⟨Z,aj,ak,ay⟩:=K.logc G;have aQ:=K.loglen G;have cu:=lt_of_block D;have cv:=lt_of_block K.blk;have Y:=K.lgs r.s G;have aL:=K.lgs r.s G |>.ne K.blk (by decide);have bU:=K.lgs r.s G |>.ne D (by decide);have bV:=fun g z=>Y.lt g z;have bW:¬U=p:=fun e=>by have h:=K.blk;rw[<-e,D]at h;injection h with h;injection h with _ h _;exact absurd h (by decide)
      obtain⟨H,aU⟩:∃H,H=(logs r.s).length:=⟨_,rfl⟩;rw[<-aU]at ak aQ Y ay;have V:=y' K;have br:=y' (And.intro ai N);have ac:=y' D;have aM:=y' ak;have bX:=y' Y;have bY:=y' aU;clear K ai N D ak Y ay aU;refine Z' (by kernel_rfl)
       [fun v _=>v= .pointer (some ⟨p,2+r.s * 3,none⟩),fun v _=>v= .pointer (some ⟨p,2+r.s * 3,none⟩),fun v _=>v= .pointer (some ⟨p,2+r.s * 3,none⟩),fun v _=>v= .pointer (some ⟨p,2+r.s * 3,none⟩),fun v _=>v= .slice Z H aj,fun v _=>v= .pointer (some ⟨U,2,none⟩),fun v _=>v= .string r.b,xA' ap.heap.size r.b,xB' ap (lv r.s) (H+1) (aV' (logs r.s)++[.string r.b]),fun v _=>v= .pointer (some ⟨p,2+r.s * 3,none⟩),fun v _=>v= .pointer (some ⟨p,2+r.s * 3,none⟩),
        fun _ u=>iA' w u p e s (Mod.logAdd logs r.s r.b)]
       [[(7,none)],[(7,none)],[(36,some 1)],[(37,some 2)],[(38,some 3)],[(6,none)],[(40,some 5)],[(41,some 6)],[(39,some 4),(42,some 7)],[(35,some 0)],[(44,some 9)],[(45,some 10),(43,some 8)]] [some 35,some 36,some 37,some 38,some 39,some 40,some 41,some 42,some 43,some 44,some 45,none] [false,false,false,false,false,false,false,false,false,false,false,false,false,false,false,false,false,false,false,false,false,false,false,false,false,false,false,false,false,false,false,false,false,false,false,true,true,true,true,true,true,true,true,true,true,true,false]
       [(8,fun k=>(lv r.s).ownBlock=some k),(11,fun k=>k=p)]
       (by kernel_rfl) (by kernel_rfl) (by kernel_rfl) (by kernel_rfl) (by kernel_rfl) ?_ ?_ ?_ ?_
      ·repeat' (first|exact O' _|exact qt' _ _|exact qu' _ _ _ _|exact(fun _ _ _ h aD=>h.below aD)|exact trivial|apply And.intro)
      ·repeat' (first|exact trivial|exact .inl rfl|exact .inr (.inr (an' _ _))|exact .inr (.inr (iz' (fun g z=>bV g z)))|exact .inr (.inr (iz' (fun g (z:g=p)=>by omega)))|exact .inr (.inr (oG' (fun g (z:g=p)=>⟨by omega,by rw[z];exact aL⟩)))|exact .inr (.inl (show av' _ 11 8=true by decide+kernel))|apply And.intro)
      ·refine⟨?_,?_,?_,?_,?_,?_,?_,?_,?_,?_,?_,?_,trivial⟩;all_goals
        intro a' O aD ah;have aV:=aD.size;have aN:=y' aD;clear aD;simp only[M',List.getD_cons_zero,List.getD_cons_succ,Array.getD_eq_getD_getElem?]at ah;try simp at ah
       iterate 4
        ·go_simp;exact⟨_,rfl,Far.refl _ _,rfl⟩
       ·have X:=(i' aN).blk (i' V).blk (by
         rintro⟨q,I,g1,g2,Q⟩;simp at I;rcases I with rfl|rfl
         ·exact aL Q
         ·exact absurd (show av' _ 11 4=false from g2) (by decide+kernel))
        have bt:O.cell? ⟨p,2+r.s * 3,none⟩=some (.slice Z H aj):=by rw[t' X,(i' V).al r.s G,i' aM]
        clear X;go_simp;exact⟨_,rfl,Far.refl _ _,rfl⟩
       ·go_simp;exact⟨_,rfl,Far.refl _ _,rfl⟩
       ·have X:=(i' aN).blk (i' ac) (by
         rintro⟨q,I,g1,g2,Q⟩;simp at I;rcases I with rfl|rfl
         ·exact bU Q
         ·exact bW Q)
        have bt:O.cell? ⟨U,2,none⟩=some (.string r.b):=t' (i:=2) X;clear X;go_simp;exact⟨_,rfl,Far.refl _ _,rfl⟩
       ·go_simp;exact⟨_,rfl,C' ((Below.refl _ _).alloc (Nat.le_refl _) _),_,rfl,aV,heap_alloc_new O _⟩
       ·have bZ:=(i' bX).far (i' aN) (by
         rintro g z ⟨q,I,g1,g2,Q⟩;simp at I;rcases I with rfl|rfl
         ·exact g1 rfl
         ·have Q:g=p:=Q;exact aL (by rw[z,Q]))
        obtain⟨g,z,cw,ca⟩:=ah.2;have cb:as' O 9 1 (.slice Z H aj) H (aV' (logs r.s)):=by rw[<-i' aM];exact bZ
        refine gU' rfl (.tmp 39) (.tmp 42) 33 rfl 9 _ 1 16 Tryz.underlying33 nY' rfl (.slice Z H aj) H (aV' (logs r.s)) cb (by simp[Act.eval,ah]) ⟨g,0,none⟩ 1 1 [.string r.b] (by simp[Act.eval,z]) rfl ?_ (by intro u hu;simp at hu;subst hu;rfl) (by omega) (by omega) (by omega) ?_
        ·intro k u bu;rw[cO',t' ca,Nat.zero_add];simpa using bu
        ·intro cc w' g1 g2;have aW:=g2.grown;rw[<-i' aM]at aW g2;exact⟨cc,rfl,aj' (.head _) (br' aW),g1,hS' aV g2,Nat.le_trans aV aW.size⟩
       ·go_simp;exact⟨_,rfl,Far.refl _ _,rfl⟩
       ·go_simp;exact⟨_,rfl,Far.refl _ _,rfl⟩
       ·have aX:Far (fun k=>(lv r.s).ownBlock=some k) ap O:=(i' aN).mono (by
         rintro k _ ⟨q,I,g1,g2,Q⟩;simp at I;rcases I with rfl|rfl
         ·exact Q
         ·exact absurd rfl g1)
        have X:=aX.blk (i' V).blk aL;have cx:O.frozen? ⟨p,2+r.s * 3,none⟩=false:=I' X;have bt:O.cell? ⟨p,2+r.s * 3,none⟩=some (.slice Z H aj):=by rw[t' X,(i' V).al r.s G,i' aM]
        obtain⟨cy,aY⟩:=ah;obtain⟨cd,ce,cf,_⟩:=aY.1.shape;have bw:=y' aY;have bz:=y' aX;clear aY X aX;rw[cf]at bw;go_simp;refine⟨aj' (.tail _ (.head _)) (S' O p (2+r.s * 3) _),?_⟩;obtain⟨cg,bA,_⟩:=i' bw;have bB:=(i' br).1;have aZ:=(i' br).2;have ch:(logs 0).length+(logs 1).length+(logs 2).length < 120:=by have h1:=(i' aC).2.2;have h2:=(i' aT).1;omega
        have ci:=pG' (i' V) r.s G r.b (.slice cd (H+1) ce) (i' bz) (by rw[<-i' bY,show aV' (logs r.s++[r.b])=aV' (logs r.s)++[.string r.b] by simp[aV']];exact cg) bA ch;have ba:Far (fun k=>k=p) w O:=bB.trans (i' bz) (fun k bu h=>absurd (aZ r.s G k h) (by omega));refine⟨_,_,ci,ba.trans (S' O p (2+r.s * 3) _) (fun _ _ h=>h),fun i hi g z=>?_⟩;split at z
        ·rcases bA with h3|h3|⟨k,h3,h4⟩
         ·rw[h3]at z;cases z
         ·rw[h3]at z;exact aZ r.s G g z
         ·rw[h3]at z;cases z;have:=bB.size;omega
        ·exact aZ i hi g z
      ·intro J z3 ba bC;have bD:=bC.2.2.2.2.2.2.2.2.2.2.2.1;have cj:=y' bD;clear bD bC ba;simp only[Y'];generalize J 35=cz;generalize J 36=cA;generalize J 37=v37;generalize J 38=cB;generalize J 39=cC;generalize J 40=v40;generalize J 41=cD;generalize J 42=cE;generalize J 43=cF;generalize J 44=cG;generalize J 45=cH;go_wp2;go_roundw
       case rel=>refine⟨j+1,by omega,by go_num,_,?_,i' cj⟩;rw[i' av,if_neg (i' aP).1,if_pos ⟨by rw[(i' aC).1];exact(i' aT).1,by rw[(i' aT).2];exact(i' aC).2.1⟩]
       case measure=>simp[intOf];omega
     ·have bT:((r.q:Int) != (aB:Int))=true:=by simp;omega
      have aE:Hid (Mod.skLd rs 0 (fun _=>[])=none):=by refine y' (qv' (j:=j+1) ?_);rw[i' av,if_neg (i' aP).1,if_neg (fun h=>c2 (by rw[h.2,(i' aC).2.1]))]
      clear c1 c2;go_quiet (first
       |(go_at_call 129;exact Calls.quiet_of_same (i' (ao _)))
       |(go_at_call 130;exact Calls.quiet_of_same (i' (az _))))
      go_wp2;go_ret;refine⟨bF' (by rw[i' aE];rfl),(i' V).2.1.trans (ao' (fun _=>False) y _) (fun _ _ h=>h.elim),fun l h=>?_⟩;rw[i' aE]at h;cases h
    ·have bS:((j:Int) != (aA:Int))=true:=by simp;omega
     have aE:Hid (Mod.skLd rs 0 (fun _=>[])=none):=by refine y' (qv' (j:=j+1) ?_);rw[i' av,if_neg (i' aP).1,if_neg (fun h=>c1 (by rw[h.1,(i' aC).1]))]
     clear c1;go_quiet (first
      |(go_at_call 129;exact Calls.quiet_of_same (i' (ao _)))
      |(go_at_call 130;exact Calls.quiet_of_same (i' (az _))))
     go_wp2;go_ret;refine⟨bF' (by rw[i' aE];rfl),(i' V).2.1.trans (ao' (fun _=>False) y _) (fun _ _ h=>h.elim),fun l h=>?_⟩;rw[i' aE]at h;cases h
  ·have bh:j=m:=by omega
   have bE:Mod.skLd rs 0 (fun _=>[])=some logs:=by rw[<-aH,List.take_of_length_le (by have:=i' bj;omega)]
   have bF:=y' bE;have F:=y' M;clear bE aH M bh;go_wp2;go_ret;refine⟨bF' (by rw[i' bF];rfl),?_,fun l h=>?_⟩
   ·obtain⟨_,_,_,ai,_⟩:=i' F;exact ai
   ·rw[i' bF]at h;cases h;exact i' F
theorem iA'.behind {w x y:World} {p e s:Nat} {logs:Nat->List ByteArray} (h:iA' x y p e s logs) (r:Below w.heap.size w x):iA' w y p e s logs:=by
 obtain⟨arr,lv,h1,h2,h3⟩:=h;exact⟨arr,lv,h1,(C' (E:=fun k=>k=p) r).trans h2 (fun _ _ h=>h),fun i hi g z=>Nat.le_trans r.size (h3 i hi g z)⟩
def cD' (L:List UInt8) (h:Mod.Hd) (at':Nat):Mod.Stv:=⟨h.o+1,1,1 - at',⟨Mod.openL L h at',0,false⟩⟩
theorem nz' (L:List UInt8) (h:Mod.Hd) (at':Nat):((⟨h.o+1,0,at',⟨L,0,false⟩⟩:Mod.Stv).putNumbers h.a h.b h.d).2=cD' L h at':=by
 unfold Mod.Stv.putNumbers Mod.Dk.put cD' Mod.openL Mod.sealH;simp[Mod.Stv.next]
theorem tf' {L:List UInt8} {last n:Nat} {rs:List Mod.Rc} (h:Mod.recsFrom L last 0 n=some rs):∀r∈rs,r=Mod.rc0\/r.fits:=by
 intro r z;obtain⟨h1,h2⟩:=Mod.recsFrom_some n 0 h;obtain⟨x,D,e⟩:=List.mem_iff_getElem.1 z;obtain⟨k1,k2⟩:=h2 x (by omega);rw[List.getElem?_eq_getElem D,e]at k2;cases k2;rcases Mod.recAt_ok k1 with ⟨_,F⟩|⟨_,_,_,_,_,_,G,_⟩
 ·exact .inl F
 ·exact .inr G
theorem wA' {w x:World} {p e s dp:Nat} {logs:Nat->List ByteArray} {dlv duv rv:Value} {st:Mod.Stv} (h:iA' w x p e s logs) (hs:cM' x s dp st dlv duv) (hl:st.dk.bytes.length=7808) (F:∀k,StU s dp dlv duv k->k≠p)
  {y:World} (G:y=x.setCell ⟨p,11,none⟩ rv) {R:Obj} (H:as' (y.alloc R) 130 2 rv 2 (bf' p)):
  ∃c,aN' (y.alloc R) p e logs (fun _=>[]) st c/\(∀k,PkU p c k->k=p\/w.heap.size<=k\/StU s dp dlv duv k\/rv.ownBlock=some k):=by
 obtain⟨arr,lv,K,O,N⟩:=h;subst G;have I:=S' x p 11 rv;have z:Below (x.setCell ⟨p,11,none⟩ rv).heap.size (x.setCell ⟨p,11,none⟩ rv) ((x.setCell ⟨p,11,none⟩ rv).alloc R):=(Below.refl _ _).alloc (Nat.le_refl _) _;have D:Far (fun k=>k=p) x ((x.setCell ⟨p,11,none⟩ rv).alloc R):=I.trans (C' (E:=fun _=>False) z) (fun _ _ h=>h.elim);have r:∀j,j≠11->(arr.setIfInBounds 11 rv)[j]? =arr[j]? :=fun j hj=>Array.getElem?_setIfInBounds_ne (fun e=>hj e.symm);refine⟨⟨arr.setIfInBounds 11 rv,s,dp,lv,fun _=> .slice none 0 0,fun _=> .map none,rv,dlv,duv⟩,⟨⟨?_,by simpa using K.sz,?_,?_,?_,?_,?_,?_,?_,fun i hi=>fG' _,K.are,K.apl,K.aps,K.cnt,K.ep⟩,?_,H,hl⟩,?_⟩
 ·exact(z.block p (by simp;exact lt_of_block K.blk)).trans (ah' K.blk)
 ·rw[r _ (by omega)];exact K.a0
 ·rw[r _ (by omega)];exact K.a1
 ·intro i hi;rw[r _ (by omega)];exact K.al i hi
 ·intro i hi;rw[r _ (by omega)];exact K.an i hi
 ·intro i hi;rw[r _ (by omega)];exact K.am i hi
 ·have:=K.sz;simp[this]
 ·intro i hi;exact(K.lgs i hi).far D (fun g J e=>(K.lgs i hi).ne K.blk (by decide) (by rw[J,e]))
 ·exact hs.far D (fun k M e=>F k M e)
 ·rintro k ((h|⟨i,hi,h⟩|⟨i,hi,h⟩)|h|h)
  ·exact .inl h
  ·exact .inr (.inl (N i hi k h))
  ·rcases h with h|h <;> cases h
  ·exact .inr (.inr (.inl h))
  ·exact .inr (.inr (.inr h))
end Go.Proofs.YtamafdcnbcoegabGreat
