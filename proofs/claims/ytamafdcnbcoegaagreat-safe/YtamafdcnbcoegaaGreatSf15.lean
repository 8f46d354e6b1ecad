/-
  Part 15 of a proof: D23, L27, L28, L29, E3, K20, K21.
-/
import Derived.Test.YtamafdcnbcoegaaGreatSf14
set_option maxRecDepth 100000
set_option maxHeartbeats 40000000
namespace Go.Proofs.YtamafdcnbcoegaaGreat
open Go.RowKit
def nD' (o h:Nat) (B:Nat) (L:List UInt8) (s:Nat) (w:World):Prop:=∃p,or' B L p w/\B<=s/\w.heap[s]? =some (.cells #[y' p, .int .u32 o, .int .u64 0, .int .i64 h] 203 (0,0))
theorem nE' {o h B:Nat} {L:List UInt8} {s:Nat} {w x:World} (r:nD' o h B L s w) (f:Below w.heap.size w x):nD' o h B L s x:=r.imp fun _ h=>⟨fv' h.1 f,h.2.1,(f.block _ (lt_of_block h.2.2)).trans h.2.2⟩
theorem go' (w:World) (v:Value) (L:List UInt8) (m:Nat) (ao:Y' w v L) (aR:L.length=m * 64) (bt:2<=m) (bu:m<=150) {h:Mod.Hd} {at':Nat} {rs:List Mod.Rc} (aS:Mod.openSt L=some (h,at',rs)):
  Calls Tryz.prog 102 #[v] w fun ab w'=>∃s dp lv Y rv,ab= .returned (.tuple #[y' s, .agg #[.int .i64 h.a, .int .i64 h.b, .int .i64 h.d,rv], .int .i64 0])/\
   cC' w' s dp ((⟨h.o+1,0,at',⟨L,0,false⟩⟩:Mod.Stv).putNumbers h.a h.b h.d).2 lv Y/\(∀k,StU s dp lv Y k->w.heap.size<=k)/\w'.ownsRow w.heap.size 155 3 rv (m - 2) (cJ' rs)/\Below w.heap.size w w':=by
 obtain⟨ac,aD⟩:=Mod.openSt_some aS;obtain⟨aT,aU,aV,_⟩:=Mod.newest_some ac;have aW:=Mod.headIs_small aU;rw[<-aV]at aW;rw[show L.length / 64=m by omega]at aD;have aX:=t' (fun y (r:Below w.heap.size w y)=>kU' y v L (ao.below r) (by omega) (by omega));have aE:=t' (fun y (r:Below w.heap.size w y)=>jH' y v L m h.o (ao.below r) aR bt bu);rw[aD]at aE;have aY:=t' ac;have bw:=t' aT;obtain⟨bS,bz,bT,bU,bV⟩:=aW;have aZ:128<=L.length/\L.length<=10000:=by omega
 have ba:=t' (fun y (r:Below w.heap.size w y)=>oq' y v L (ao.below r) aZ.1 aZ.2);clear ao aR aS ac aD aV aU bz aT;have bW:IntKind.u32.wrap ((h.o:Int)+1)=((h.o+1:Nat):Int):=by rw[IntKind.wrap_u32];omega
 unfold y';go_enter Tryz.func102,Tryz.ntmps102;go_upto_region 2 with (go_at_call 146;refine((i' aX) _ ((Below.refl _ _).alloc (Nat.le_refl _) _)).mono ?_;rintro ab y ⟨h2,k2,rfl,bb,ap⟩;obtain⟨bA,aq⟩:=bb _ _ (i' aY);rw[i' aY];subst bA;subst aq;clear bb;unfold gn');have bc:=ap.size;simp only[World.size_alloc]at bc;have bd:Below w.heap.size w y:=((Below.refl _ _).alloc (Nat.le_refl _) _).trans (ap.mono (by simp));have be:=(ap.block w.heap.size (by simp)).trans (heap_alloc_new w _);obtain⟨D,aF⟩:∃g,g=y.heap.size:=⟨_,rfl⟩;rw[<-aF];refine C' (fun x=>x.heap[w.heap.size]? =some (.cells #[.int .i64 0, .int .i64 0, .int .i64 0, .slice none 0 0] 187 (0,0))/\x.heap[D]? =some (.cells #[.int .u32 h2.o, .int .u64 h2.c, .int .i64 h2.a, .int .i64 h2.b, .int .i64 h2.d] 217 (0,0))/\Below w.heap.size w x) ?_ ?_
 ·exact⟨(hao _ _ (by omega)).trans be,by rw[aF];exact heap_alloc_new _ _,bd.alloc (by omega) _⟩
 have bX:w.heap.size < D:=by omega
 clear be bd bc ap aF aX;rintro x ⟨h0,h5,bf⟩;have bg:x.cell? ⟨D,0,none⟩=some (.int .u32 h2.o):=m' (i:=0) h5;have bh:=t' h0;have bi:=t' h5;have aG:=t' bf;have bB:=lt_of_block h5;clear h0 h5 bf;go_upto_region 7 with (go_at_call 147;refine((i' aE) _ (i' aG)).mono ?_;rintro ab au ⟨rv,rfl,M,av⟩;replace M:=M _ rfl);have M:=ap' M (B':=w.heap.size) (by omega);have aH:Below w.heap.size w au:=(i' aG).trans (av.mono (by omega));have bj:=(av.block _ (by omega)).trans (i' bh);have aI:=(av.block _ (by omega)).trans (i' bi);obtain⟨O,Q,rfl,_⟩:=(ao'.of_own (ap' M (Nat.zero_le _))).shape;have aJ:=t' M;have aK:=t' aH;have bk:=t' bj;have aL:=t' aI;have bl:=aH.size;have bC:=lt_of_block aI;clear M aH bj aI av aG bh bi aE bg bB;refine Q' (by kernel_rfl)
  [fun f _=>f=v,fun f u=>∃p,f= .pointer (some ⟨p,0,none⟩)/\or' w.heap.size L p u,fun f _=>f= .pointer (some ⟨D,0,none⟩),fun f _=>f= .pointer (some ⟨D,0,none⟩),fun f _=>f= .int .u32 h2.o,fun f _=>f= .int .u32 (h2.o+1:Nat),fun f _=>f= .agg #[.int .u32 (h2.o+1:Nat), .int .u64 0],fun f _=>f= .int .i64 k2,
   fun f u=>∃p,f= .agg #[.pointer (some ⟨p,0,none⟩), .int .u32 (h2.o+1:Nat), .int .u64 0, .int .i64 k2]/\or' w.heap.size L p u,fun f u=>∃s,f= .pointer (some ⟨s,0,none⟩)/\nD' (h2.o+1) k2 w.heap.size L s u,fun f u=>∃s,f= .pointer (some ⟨s,0,none⟩)/\nD' (h2.o+1) k2 w.heap.size L s u]
  [[(0,none)],[(30,some 0)],[(5,none)],[(32,some 2)],[(33,some 3)],[(34,some 4)],[(35,some 5)],[(6,none)],[(31,some 1),(36,some 6),(37,some 7)],[(38,some 8)],[(39,some 9)]] [some 30,some 31,some 32,some 33,some 34,some 35,some 36,some 37,some 38,some 39,some 9] [false,false,false,false,false,false,false,false,false,true,false,false,false,false,false,false,false,false,false,false,false,false,false,false,false,false,false,false,false,false,true,true,true,true,true,true,true,true,true,true,false,false,false,false,false,false,false,false,false]
  []
  (by kernel_rfl) (by kernel_rfl) (by kernel_rfl) (by kernel_rfl) (by kernel_rfl) ?_ ?_ ?_ ?_
 ·repeat' (first|exact J' _|exact(fun _ _ _ h r=>h.imp fun _ h=>⟨h.1,fv' h.2 r⟩)|exact(fun _ _ _ h r=>h.imp fun _ h=>⟨h.1,nE' h.2 r⟩)|exact trivial|apply And.intro)
 ·exact trivial
 ·refine⟨?_,?_,?_,?_,?_,?_,?_,?_,?_,?_,?_,trivial⟩;all_goals
   intro a u r F;have z5:=r.blk (i' aL) (aa' (by intro q ad;cases ad));have I:Below w.heap.size w u:=(i' aK).trans ((r.below (B:=au.heap.size) (Nat.le_refl _) (fun j _ h=>by obtain⟨q,ad,_⟩:=h;cases ad)).mono bl);have bg:u.cell? ⟨D,0,none⟩=some (.int .u32 h2.o):=m' (i:=0) z5;have Z:=t' I;clear z5 r I;simp only[I',List.getD_cons_zero,List.getD_cons_succ,Array.getD_eq_getD_getElem?]at F;try simp at F
  ·go_simp;exact⟨_,rfl,Far.refl _ _,rfl⟩
  ·have bm:=t' ((i' ba) u (i' Z));have ax:=(i' Z).size;unfold y' at bm;go_simp;refine(i' bm).mono ?_;rintro ab ay ⟨p,lv,rfl,k1,k2,k3⟩;exact⟨_,rfl,A' k2,p,rfl,lv,k1,fun k U=>Nat.le_trans ax (k3 k U)⟩
  iterate 6
   ·go_simp;exact⟨_,rfl,Far.refl _ _,rfl⟩
  ·obtain⟨⟨p,H,J⟩,F⟩:=F;have ah:=t' J;clear J;go_simp;exact⟨_,rfl,Far.refl _ _,p,rfl,i' ah⟩
  ·obtain⟨p,H,J⟩:=F;have ah:=t' J;have ax:=(i' Z).size;clear J;go_simp;refine⟨_,rfl,A' ((Below.refl _ _).alloc (Nat.le_refl _) _),_,rfl,p,fv' (i' ah) ((Below.refl _ _).alloc (Nat.le_refl _) _),ax,heap_alloc_new _ _⟩
  ·obtain⟨s,hs,J⟩:=F;have ah:=t' J;clear J;go_simp;exact⟨_,rfl,Far.refl _ _,s,rfl,i' ah⟩
 ·intro z u hF V;obtain⟨s,bD,dp,⟨lv,aa,bE⟩,bF,X⟩:=V.2.2.2.2.2.2.2.2.2.2.1;have I:Below au.heap.size au u:=hF.below (Nat.le_refl _) (fun j _ h=>by obtain⟨q,ad,_⟩:=h;cases ad);have ST:cC' u s dp ⟨h2.o+1,0,k2,⟨L,0,false⟩⟩ lv (.slice none 0 0):=⟨X,aa,by show h2.o+1 < _;omega,by simp,i' bw⟩;have az:∀k,StU s dp lv (.slice none 0 0) k->w.heap.size<=k:=by
   rintro k (rfl|U)
   ·exact bF
   ·exact bE k U
  have z0:=(I.block _ (by omega)).trans (i' bk);have z5:=(I.block _ bC).trans (i' aL);have aq:u.cell? ⟨D,2,none⟩=some (.int .i64 h2.a):=m' (i:=2) z5;have bn:u.cell? ⟨D,3,none⟩=some (.int .i64 h2.b):=m' (i:=3) z5;have bo:u.cell? ⟨D,4,none⟩=some (.int .i64 h2.d):=m' (i:=4) z5;have aM:=t' (cg' u s dp _ lv _ ST h2.a h2.b h2.d (by omega) (by omega) (by omega));have ai:=aw' (w':=u) (i' aJ) (fun g G=>I.block g (World.ownsRow.lt (i' aJ) g G).2);have aN:=t' ai;have Z:=t' ((i' aK).trans (I.mono bl));have bp:=t' z0;have bq:=t' z5;have aA:¬StU s dp lv (.slice none 0 0) w.heap.size:=by
   rintro(h|h)
   ·rw[<-h,z0]at X;cases X
   ·exact dY' aa z0 (by decide) (by decide) (by decide) h
  have bG:¬StU s dp lv (.slice none 0 0) D:=by
   rintro(h|h)
   ·rw[<-h,z5]at X;cases X
   ·exact dY' aa z5 (by decide) (by decide) (by decide) h
  have bH:∀g,(Value.slice O (m - 2) Q).ownBlock=some g->¬StU s dp lv (.slice none 0 0) g:=by
   rintro g G (h|h|h|h)
   ·exact(ao'.of_own (ap' ai (Nat.zero_le _))).ne X (by decide) (by rw[G,h])
   ·exact(ao'.of_own (ap' ai (Nat.zero_le _))).ne aa.blk (by decide) (by rw[G,h])
   ·exact(ao'.of_own (ap' ai (Nat.zero_le _))).ty (ao'.of_own aa.row) (by decide) G h
   ·cases h
  have ax:=I.size;clear V hF I z0 z5 aa X ai aJ aK bk aL ba ST;simp only[R',bD];generalize z 30=bY;generalize z 31=bZ;generalize z 32=ca;generalize z 33=cb;generalize z 34=cc;generalize z 35=cd;generalize z 36=ce;generalize z 37=cf;generalize z 38=cg;generalize z 39=ch;go_simp;unfold y' at aM;go_upto_region 9 with (go_at_call 149;refine(i' aM).mono ?_;rintro ab ay ⟨rfl,Y,k1,k2,k3⟩;replace k1:=t' k1;replace k2:=t' k2;replace k3:=t' k3);have aj:=i' k3;have z0:=aj.blk (i' bp) aA;have z5:=aj.blk (i' bq) bG;have br:=aw' (w':=ay) (i' aN) (fun g G=>aj.rest g (World.ownsRow.lt (i' aN) g G).2 (bH g G));have aO:Below w.heap.size w ay:=(i' Z).trans (aj.below (by omega) (fun k U h=>by have:=az k h;omega));have aP:=t' br;have bI:=t' aO;have aQ:=t' z0;have bJ:=t' z5;have ci:=aO.size;have cj:=lt_of_block z5;have ck:=lt_of_block z0;clear aj z0 z5 br aO aN Z bp bq aq bn bo aM;refine Q' (by kernel_rfl)
   [fun f _=>f= .pointer (some ⟨s,0,none⟩),fun f _=>f= .pointer (some ⟨D,2,none⟩),fun f _=>f= .agg #[.int .i64 h2.a, .int .i64 h2.b, .int .i64 h2.d],fun f _=>f= .slice O (m - 2) Q,fun f _=>f= .agg #[.int .i64 h2.a, .int .i64 h2.b, .int .i64 h2.d, .slice O (m - 2) Q],fun f _=>f= .pointer (some ⟨s,0,none⟩),
    fun _ q=>q.heap[w.heap.size]? =some (.cells #[.int .i64 h2.a, .int .i64 h2.b, .int .i64 h2.d, .slice O (m - 2) Q] 187 (0,0)),fun f _=>f= .int .i64 0]
   [[(9,none)],[(5,none)],[(45,some 1)],[(8,none)],[(46,some 2),(47,some 3)],[(44,some 0)],[(3,none),(48,some 4)],[]] [some 44,some 45,some 46,some 47,some 48,some 2,none,some 4] [false,false,true,false,true,false,false,false,false,false,false,false,false,false,false,false,false,false,false,false,false,false,false,false,false,false,false,false,false,false,false,false,false,false,false,false,false,false,false,false,false,false,false,false,true,true,true,true,true]
   [(6,fun k=>k=w.heap.size)]
   (by kernel_rfl) (by kernel_rfl) (by kernel_rfl) (by kernel_rfl) (by kernel_rfl) ?_ ?_ ?_ ?_
  ·repeat' (first|exact J' _|exact ba' _ _|exact trivial|apply And.intro)
  ·repeat' (first|exact trivial|exact .inl rfl|exact .inr (.inr (ak' _ _))|apply And.intro)
  ·refine⟨?_,?_,?_,?_,?_,?_,?_,?_,trivial⟩;all_goals
    intro a q r F;have aB:=r.blk (i' bJ) (aa' (by intro p H;simp at H;subst H;intro (e:D=w.heap.size);omega));have aq:q.cell? ⟨D,2,none⟩=some (.int .i64 h2.a):=m' (i:=2) aB;have bn:q.cell? ⟨D,3,none⟩=some (.int .i64 h2.b):=m' (i:=3) aB;have bo:q.cell? ⟨D,4,none⟩=some (.int .i64 h2.d):=m' (i:=4) aB;clear aB;simp only[I',List.getD_cons_zero,List.getD_cons_succ,Array.getD_eq_getD_getElem?]at F;try simp at F
   iterate 6
    ·clear r;go_simp;exact⟨_,rfl,Far.refl _ _,rfl⟩
   ·have aC:=r.blk (i' aQ) (by rintro⟨p,H,g1,g2,cl⟩;simp at H;subst H;exact g1 rfl);clear r;rw[if_pos (by rfl)];refine wp_store_row 187 (.tmp 3) (.tmp 48) rfl w.heap.size #[.int .i64 h2.a, .int .i64 h2.b, .int .i64 h2.d, .slice O (m - 2) Q] (by simp[Act.eval,F]) (by simp[Act.eval,F]) 187 _ aC (by rw[lM'];rfl) (by simp) (by rw[Array.all_eq_true_iff_forall_mem];intro f hu;simp at hu;rcases hu with rfl|rfl|rfl|rfl <;> rfl) ?_;exact⟨_,rfl,ac' (.head _) (aR' _ _ _),setRow_heap _ _ _ _ _ _ aC⟩
   ·clear r;go_simp;exact⟨_,rfl,Far.refl _ _,rfl⟩
  ·intro z q hF V;have bK:=V.2.2.2.2.2.1;have ak:=V.2.2.2.2.2.2.1;have bL:=V.2.2.2.2.2.2.2.1;have aC:q.cell? ⟨w.heap.size,0,none⟩=some (.int .i64 h2.a):=m' (i:=0) ak;have bM:q.cell? ⟨w.heap.size,1,none⟩=some (.int .i64 h2.b):=m' (i:=1) ak;have bN:q.cell? ⟨w.heap.size,2,none⟩=some (.int .i64 h2.d):=m' (i:=2) ak;have bO:q.cell? ⟨w.heap.size,3,none⟩=some (.slice O (m - 2) Q):=m' (i:=3) ak;have hF:Far (fun k=>k=w.heap.size) ay q:=hF.mono (fun k _ h=>by obtain⟨p,H,h⟩:=h;simp at H;subst H;exact h);have bP:=t' hF;clear V hF ak;simp only[R',bK,bL];generalize z 44=cm;generalize z 45=cn;generalize z 46=co;generalize z 47=cp;generalize z 48=cq;go_simp;go_wp2;refine bodyPost_ret (v:= .tuple #[.pointer (some ⟨s,0,none⟩), .agg #[.int .i64 h2.a, .int .i64 h2.b, .int .i64 h2.d, .slice O (m - 2) Q], .int .i64 0]) (by simp[results,Tryz.results102,go_sem,aC,bM,bN,bO]) rfl ?_;have hF:=i' bP;have bQ:=i' k2;have bR:∀k,StU s dp lv Y k->w.heap.size<=k:=by
    rintro k (h|h|h|h)
    ·exact az k (.inl h)
    ·exact az k (.inr (.inl h))
    ·exact az k (.inr (.inr (.inl h)))
    ·rcases bQ with k2|k2|⟨g,k2,k5⟩
     ·rw[k2]at h;cases h
     ·rw[k2]at h;cases h
     ·rw[k2]at h;cases h;omega
   have ac:¬StU s dp lv Y w.heap.size:=by
    rintro(h|h|h|h)
    ·exact aA (.inl h)
    ·exact aA (.inr (.inl h))
    ·exact aA (.inr (.inr (.inl h)))
    ·exact(i' k1).dk.un.ne (i' aQ) (by decide) h
   exact⟨s,dp,lv,Y,_,rfl,(i' k1).far hF (fun k U e=>ac (by rw[<-e];exact U)),bR,aw' (i' aP) (fun g G=>hF.rest g (World.ownsRow.lt (i' aP) g G).2 (fun e=>(ao'.of_own (ap' (i' aP) (Nat.zero_le _))).ne (i' aQ) (by decide) (by rw[G,e]))),(i' bI).trans (hF.below (by omega) (fun k U e=>by omega))⟩
section
variable {w x y:World} {p:Nat} {g g2:Nat->Nat} {tk tk2:Nat} {wel wel2 fen fen2:Bool} {free free2:List Nat} {sh sh2:Nat->List (Nat×Value)} {arr:Array Value} {s:Nat} {nv mv:Nat->Value} {fv rv:Value}
theorem wh' (r:iB' w p g tk wel fen free sh arr s nv mv fv rv) {i:Nat} (hi:i < 9) {M:List (Nat×Value)} (h:bY' w x p (4+i * 2) 151 arr (nv i) (mv i) M):
  ∃O nv' mv',iB' x p g tk wel fen free (fun t=>if t=i then M else sh t) O s nv' mv' fv rv/\(∀k,KaU p nv' mv' fv k->KaU p nv mv fv k\/w.heap.size<=k)/\Far (fun k=>k=p\/ShU (nv i) (mv i) k) w x:=by
 obtain⟨⟨nv',mv',S,Q,U⟩,hF⟩:=h;have V:=r.sz;have u:∀j,j≠4+i * 2->j≠4+i * 2+1->((arr.setIfInBounds (4+i * 2) nv').setIfInBounds (4+i * 2+1) mv')[j]? =arr[j]? :=fun j h1 h2=>by rw[Array.getElem?_setIfInBounds_ne (by omega),Array.getElem?_setIfInBounds_ne (by omega)]
 have H:∀k,ShU nv' mv' k->ShU (nv i) (mv i) k\/w.heap.size<=k:=by
  rintro k (f|f)
  ·rcases Q with h|h|⟨g,h,D⟩
   ·rw[h]at f;cases f
   ·exact .inl (.inl (by rw[<-h];exact f))
   ·rw[h]at f;cases f;exact .inr D
  ·rcases U with h|⟨g,h,D⟩
   ·exact .inl (.inr (by rw[<-h];exact f))
   ·rw[h]at f;cases f;exact .inr D
 have X:fv.ownBlock≠some p:=r.fr.ne r.blk (by decide);refine⟨(arr.setIfInBounds (4+i * 2) nv').setIfInBounds (4+i * 2+1) mv',fun t=>if t=i then nv' else nv t,fun t=>if t=i then mv' else mv t,
  ⟨S.blk,by simpa using V,?_,?_,?_,?_,?_,?_,?_,?_,?_,?_,?_,?_,?_⟩,?_,hF⟩
 ·rw[u _ (by omega) (by omega)];exact r.a0
 ·intro j hj;rw[u _ (by omega) (by omega)];exact r.ag j hj
 ·intro j hj;show _=some (if j=i then nv' else nv j);by_cases e:j=i
  ·subst e;rw[if_pos rfl];exact S.c0
  ·rw[if_neg e,u _ (by omega) (by omega)];exact r.an j hj
 ·intro j hj;show _=some (if j=i then mv' else mv j);by_cases e:j=i
  ·subst e;rw[if_pos rfl];exact S.c1
  ·rw[if_neg e,u _ (by omega) (by omega)];exact r.am j hj
 ·rw[u _ (by omega) (by omega)];exact r.af
 ·rw[u _ (by omega) (by omega)];exact r.at'
 ·rw[u _ (by omega) (by omega)];exact r.aw
 ·rw[u _ (by omega) (by omega)];exact r.ae
 ·rw[u _ (by omega) (by omega)];exact r.ar
 ·exact r.fr.far hF (fun g D h=>h.elim (fun h=>X (by rw[D,h])) (fun h=>r.apf i hi g h D))
 ·intro j hj;show aJ' x (if j=i then nv' else nv j) (if j=i then mv' else mv j) (if j=i then M else sh j);by_cases e:j=i
  ·rw[if_pos e,if_pos e,if_pos e];exact S.sh
  ·rw[if_neg e,if_neg e,if_neg e];refine(r.shs j hj).far hF (fun k f h=>?_);rcases h with h|h
   ·exact(r.shs j hj).ne r.blk (by decide) (by rw[<-h];exact f)
   ·exact r.aps j i hj hi e k f h
 ·intro j hj b F;replace F:ShU (if j=i then nv' else nv j) (if j=i then mv' else mv j) b:=F;by_cases e:j=i
  ·rw[if_pos e,if_pos e]at F;rcases H b F with h|h
   ·exact r.apf i hi b h
   ·intro Y;have:=r.fr.lt b Y;omega
  ·rw[if_neg e,if_neg e]at F;exact r.apf j hj b F
 ·intro j z hj I G k f;replace f:ShU (if j=i then nv' else nv j) (if j=i then mv' else mv j) k:=f;show ¬ShU (if z=i then nv' else nv z) (if z=i then mv' else mv z) k;by_cases h1:j=i
  ·subst h1;rw[if_pos rfl,if_pos rfl]at f;rw[if_neg (fun e=>G e.symm),if_neg (fun e=>G e.symm)];intro J;rcases H k f with h|h
   ·exact r.aps j z hj I G k h J
   ·have:=(r.shs z I).lt k J;omega
  ·rw[if_neg h1,if_neg h1]at f;by_cases h2:z=i
   ·subst h2;rw[if_pos rfl,if_pos rfl];intro J;rcases H k J with h|h
    ·exact r.aps j z hj I G k f h
    ·have:=(r.shs j hj).lt k f;omega
   ·rw[if_neg h2,if_neg h2];exact r.aps j z hj I G k f
 ·rintro k (rfl|f|⟨j,hj,f⟩)
  ·exact .inl (.inl rfl)
  ·exact .inl (.inr (.inl f))
  ·have f:ShU (if j=i then nv' else nv j) (if j=i then mv' else mv j) k:=f;by_cases e:j=i
   ·rw[if_pos e,if_pos e]at f;exact(H k f).elim (fun h=> .inl (.inr (.inr ⟨i,hi,h⟩))) .inr
   ·rw[if_neg e,if_neg e]at f;exact .inl (.inr (.inr ⟨j,hj,f⟩))
theorem uO' (f:iB' w p g tk wel fen free sh arr s nv mv fv rv) (v:Value) (hF:Far (fun k=>fv.ownBlock=some k) w x) (D:ao' x 3 1 v free2.length (H' free2)) (hl:Loc w fv v):
  ∃J,iB' (x.setCell ⟨p,22,none⟩ v) p g tk wel fen free2 sh J s nv mv v rv/\(∀k,KaU p nv mv v k->KaU p nv mv fv k\/w.heap.size<=k)/\Far (fun k=>k=p\/fv.ownBlock=some k) w (x.setCell ⟨p,22,none⟩ v):=by
 have hs:=O' x p 22 v;have u:∀j,j≠22->(arr.setIfInBounds 22 v)[j]? =arr[j]? :=fun j hj=>Array.getElem?_setIfInBounds_ne (fun e=>hj e.symm);have M:22 < arr.size:=by rw[f.sz];omega
 have O:fv.ownBlock≠some p:=f.fr.ne f.blk (by decide);have F:=hF.blk f.blk O;have Q:v.ownBlock≠some p:=D.ne F (by decide);have G:Far (fun k=>k=p\/fv.ownBlock=some k) w (x.setCell ⟨p,22,none⟩ v):=(hF.mono (fun _ _ h=> .inr h)).trans hs (fun _ _ h=> .inl h);refine⟨arr.setIfInBounds 22 v,⟨af' F,by simpa using f.sz,?_,?_,?_,?_,?_,?_,?_,?_,?_,?_,?_,?_,f.aps⟩,?_,G⟩
 ·rw[u _ (by omega)];exact f.a0
 ·intro j hj;rw[u _ (by omega)];exact f.ag j hj
 ·intro j hj;rw[u _ (by omega)];exact f.an j hj
 ·intro j hj;rw[u _ (by omega)];exact f.am j hj
 ·simp[M]
 ·rw[u _ (by omega)];exact f.at'
 ·rw[u _ (by omega)];exact f.aw
 ·rw[u _ (by omega)];exact f.ae
 ·rw[u _ (by omega)];exact f.ar
 ·exact D.far hs (fun g U e=>Q (by rw[U,e]))
 ·intro j hj;refine(f.shs j hj).far G (fun k r e=>?_);rcases e with rfl|e
  ·exact(f.shs j hj).ne f.blk (by decide) r
  ·exact f.apf j hj k r e
 ·intro j hj b H z;rcases hl with h|h|⟨g',h,I⟩
  ·rw[h]at z;cases z
  ·rw[h]at z;exact f.apf j hj b H z
  ·rw[h]at z;cases z;have:=(f.shs j hj).lt b H;omega
 ·rintro k (rfl|r|r)
  ·exact .inl (.inl rfl)
  ·rcases hl with h|h|⟨g',h,I⟩
   ·rw[h]at r;cases r
   ·exact .inl (.inr (.inl (by rw[<-h];exact r)))
   ·rw[h]at r;cases r;exact .inr I
  ·exact .inl (.inr (.inr r))
end
def toV (e:Mod.Pe):Nat×Value:=(e.1,bZ' e.2.1 e.2.2)
theorem mE':∀ (b:Nat) (k:List (ByteArray×Nat)) (p:List Nat),aB' b k p=(Mod.keptP b k p).map toV
 | _,[],_=>by simp[aB',Mod.keptP]
 | _,_:: _,[]=>by simp[aB',Mod.keptP]
 |b,x::f,q::r=>by rw[aM',Mod.keptP,List.map_cons,mE' (b+1) f r];rfl
theorem pr' (e:Mod.Pe):∀l:List Mod.Pe,aV' (l.map toV) e.1 (bZ' e.2.1 e.2.2)=(Mod.insP l e).map toV
 |[]=>rfl
 |y::f=>by
  rw[List.map_cons,aV',Mod.insP];have h1:(toV y).1=y.1:=rfl;rw[h1];rcases Nat.lt_trichotomy e.1 y.1 with c|c|c
  ·have c1:¬e.1=y.1:=by omega
   simp[c,c1,toV]
  ·have c2:¬e.1 < y.1:=by omega
   simp[c,toV]
  ·have c1:¬e.1=y.1:=by omega
   have c2:¬e.1 < y.1:=by omega
   simp[c1,c2,pr' e f]
theorem tY' (l:List Mod.Pe):(l.map toV).map (·.1)=l.map (·.1):=by
 rw[List.map_map];rfl
theorem tZ' (l:List Mod.Pe):na' (l.map toV):=fun x f=>by
 obtain⟨e,_,rfl⟩:=List.mem_map.1 f;exact⟨e.2.1,e.2.2,rfl⟩
def et' (l:Mod.Ld) (k:Nat):List (Nat×Value):=if k % 3=0 then(l.sh (k / 3)).map toV else []
theorem dt' (l:Mod.Ld) (i:Nat):et' l (i * 3)=(l.sh i).map toV:=by
 unfold et';rw[if_pos (by omega),show i * 3 / 3=i by omega]
theorem ua' (l:Mod.Ld) (i:Nat) (f:List Mod.Pe):(fun t=>if t=i * 3 then f.map toV else et' l t)=et' {l with sh:=fun j=>if j=i then f else l.sh j}:=by
 funext t;unfold et';by_cases h:t=i * 3
 ·subst h;rw[if_pos rfl,if_pos (by omega),show i * 3 / 3=i by omega];simp
 ·rw[if_neg h];by_cases h2:t % 3=0
  ·rw[if_pos h2,if_pos h2];have:¬t / 3=i:=by omega
   simp[this]
  ·rw[if_neg h2,if_neg h2]
namespace Mod
theorem insP_length (e:Pe):∀l:List Pe,(insP l e).length<=l.length+1
 |[]=>by simp[insP]
 |y::f=>by
  have:=insP_length e f;unfold insP;split
  ·simp
  ·split
   ·simp
   ·simp;omega
theorem ldAll_app (g:Nat->Nat):∀ (rs f:List Rc) (x:Nat) (l:Ld),ldAll g (rs++f) x l=match ldAll g rs x l with
  |none=>none
  |some r=>ldAll g f (x+rs.length) r
 |[],f,x,l=>by simp[ldAll]
 |u::rs,f,x,l=>by
  rw[List.cons_append,ldAll,ldAll,List.length_cons,show x+(rs.length+1)=x+1+rs.length by omega];cases ldStep g x u l with
  |none=>rfl
  |some r=>exact ldAll_app g rs f (x+1) r
theorem ldAll_step {g:Nat->Nat} {rs:List Rc} {j:Nat} {f:Rc} {l:Ld} (r:rs[j]? =some f) (h:ldAll g (rs.take j) 0 ld0=some l):ldAll g (rs.take (j+1)) 0 ld0=ldStep g j f l:=by
 obtain⟨hj,e⟩:=List.getElem?_eq_some_iff.1 r;rw[List.take_succ_eq_append_getElem hj,e,ldAll_app,h];simp only[List.length_take];rw[show 0+min j rs.length=j by omega];unfold ldAll;cases ldStep g j f l with
 |none=>rfl
 |some u=>rfl
theorem ldAll_bad {g:Nat->Nat} {rs:List Rc} {j:Nat} (h:ldAll g (rs.take j) 0 ld0=none):ldAll g rs 0 ld0=none:=by
 have:=ldAll_app g (rs.take j) (rs.drop j) 0 ld0;rw[List.take_append_drop,h]at this;exact this
theorem ldStep_len {g:Nat->Nat} {x:Nat} {f:Rc} {l r:Ld} (h:ldStep g x f l=some r):r.free.length<=l.free.length+1/\∀i,(r.sh i).length<=(l.sh i).length+1:=by
 unfold ldStep at h;split at h
 ·cases h;exact⟨by simp,fun i=>Nat.le_succ _⟩
 ·split at h
  ·cases h
  ·cases h;refine⟨by simp,fun i=>?_⟩;simp only
   split
   ·rename_i e;have:=insP_length (f.q,f.b,x) (l.sh f.s);rw[e];exact this
   ·omega
theorem ldAll_len {g:Nat->Nat}:∀ (rs:List Rc) (x:Nat) (l f:Ld),ldAll g rs x l=some f->f.free.length<=l.free.length+rs.length/\∀i,(f.sh i).length<=(l.sh i).length+rs.length
 |[],_,l,f,h=>by cases h;exact⟨by simp,fun i=>by simp⟩
 |r::rs,x,l,f,h=>by
  unfold ldAll at h;cases hs:ldStep g x r l with
  |none=>rw[hs]at h;cases h
  |some u=>rw[hs]at h;obtain⟨a1,z⟩:=ldStep_len hs;obtain⟨F,D⟩:=ldAll_len rs (x+1) u f h;refine⟨by simp;omega,fun i=>?_⟩;have:=z i;have:=D i;simp;omega
theorem insP_mem {e y:Pe}:∀ {l:List Pe},y∈insP l e->y=e\/y∈l
 |[],h=>by simp[insP]at h;exact .inl h
 |f::r,h=>by
  unfold insP at h;split at h
  ·cases h with
   |head=>exact .inl rfl
   |tail _ h=>exact .inr (.tail _ h)
  ·split at h
   ·cases h with
    |head=>exact .inl rfl
    |tail _ h=>exact .inr h
   ·cases h with
    |head=>exact .inr (.head _)
    |tail _ h=>exact(insP_mem h).imp id (fun h=> .tail _ h)
theorem ldAll_inv {g:Nat->Nat} (R:Nat->Pe->Prop):∀ (rs:List Rc) (x:Nat) (l u:Ld),ldAll g rs x l=some u->(∀i,∀e∈l.sh i,R i e)->(∀j f,rs[j]? =some f->¬f.q<=g f.s->R f.s (f.q,f.b,x+j))->∀i,∀e∈u.sh i,R i e
 |[],_,l,u,h,h1,_=>by cases h;exact h1
 |f::rs,x,l,u,h,h1,h2=>by
  unfold ldAll at h;cases hs:ldStep g x f l with
  |none=>rw[hs]at h;cases h
  |some D=>
   rw[hs]at h;refine ldAll_inv R rs (x+1) D u h ?_ (fun j F hj z=>by have:=h2 (j+1) F (by simpa using hj) z;rw[show x+1+j=x+(j+1) by omega];exact this);unfold ldStep at hs;split at hs
   ·cases hs;exact h1
   ·rename_i z;split at hs
    ·cases hs
    ·cases hs;intro i e r;simp only at r;split at r
     ·rename_i hi;subst hi;rcases insP_mem r with rfl|r
      ·exact h2 0 f rfl z
      ·exact h1 _ e r
     ·exact h1 i e r
def ldRes (g:Nat->Nat) (rs:List Rc):Option Ld:=match ldAll g rs 0 ld0 with
 |none=>none
 |some l=>if okP (l.sh 0) (g 0)=true/\okP (l.sh 1) (g 1)=true/\okP (l.sh 2) (g 2)=true then some l else none
end Mod
def gK' (w x:World) (p s:Nat) (g:Nat->Nat) (l:Mod.Ld):Prop:=
 ∃arr nv mv fv,iB' x p g 0 false false l.free (et' l) arr s nv mv fv (.slice none 0 0)/\Far (fun k=>k=p) w x/\∀k,KaU p nv mv fv k->k=p\/w.heap.size<=k
theorem gK'.below {w x y:World} {p s:Nat} {g:Nat->Nat} {l:Mod.Ld} (h:gK' w x p s g l) (f:Below x.heap.size x y):gK' w y p s g l:=by
 obtain⟨arr,nv,mv,fv,h1,h2,h3⟩:=h;exact⟨arr,nv,mv,fv,h1.far (A' (E:=fun _=>False) f) (fun _ _ h=>h),h2.trans (A' (E:=fun _=>False) f) (fun _ _ h=>h.elim),h3⟩
theorem qZ' {w:World} {p s:Nat} {g:Nat->Nat} {l:Mod.Ld} {arr:Array Value} {nv mv:Nat->Value} {fv rv:Value} (K:iB' w p g 0 false false l.free (et' l) arr s nv mv fv rv) {i:Nat} (hi:i < 3):
  Calls Tryz.prog 88 #[y' p, .int .i64 i] w fun u w'=>u= .returned (.int .i64 (Mod.lastP (l.sh i) (g i):Nat))/\∃n,w'=w.drewN n:=by
 have f:=mn' K.blk (K.an (i * 3) (by omega)) (K.shs (i * 3) (by omega));rw[dt',show 4+i * 3 * 2=4+i * 6 by omega]at f;obtain⟨m,z,r,f⟩:∃ (m:Nat) (z:Bool),max m (g i)=Mod.lastP (l.sh i) (g i)/\Calls Tryz.prog 129 #[.pointer (some ⟨p,4+i * 6,none⟩)] w fun e w'=>e= .returned (.tuple #[.int .i64 m, .bool z])/\∃n,w'=w.drewN n:=by
  unfold Mod.lastP;rw[List.getLast?_map]at f;cases D:(l.sh i).getLast? with
  |none=>rw[D]at f;exact⟨0,false,rfl,f⟩
  |some x=>rw[D]at f;exact⟨x.1,true,rfl,f⟩
 have H:w.cell? ⟨p,1+i,none⟩=some (.int .i64 (g i)):=by rw[m' K.blk,K.ag i hi]
 obtain⟨n,F⟩:∃n,n=Mod.lastP (l.sh i) (g i):=⟨_,rfl⟩;rw[<-F]at r ⊢;obtain⟨b,G⟩:∃b,b=g i:=⟨_,rfl⟩;rw[<-G]at r H;have I:max (m:Int) (b:Int)=(n:Int):=by omega
 have J:=t' f;have M:(0:Int)<=(i:Int):=by omega
 have O:(i:Int) < 3:=by omega
 clear K f F G r;unfold y';go_enter Tryz.func88,Tryz.ntmps88;go_wp2_with (go_at_call 129;refine(i' J).mono ?_;rintro u y ⟨rfl,q,rfl⟩);go_ret;exact⟨by first|rfl|simp[I],q,rfl⟩
theorem ub' {w:World} {p s:Nat} {g:Nat->Nat} {arr:Array Value} (u:w.heap[p]? =some (.cells arr 151 (0,0))) (z:arr=(((oS' s (.slice none 0 0) (.slice none 0 0)).setIfInBounds 1 (.int .i64 (g 0))).setIfInBounds 2 (.int .i64 (g 1))).setIfInBounds 3 (.int .i64 (g 2))):gK' w w p s g Mod.ld0:=by
 have D:arr.size=27:=by rw[z];rfl
 have F:∀k,et' Mod.ld0 k=[]:=fun k=>by unfold et' Mod.ld0;split <;> rfl
 have f:∀j,j≠1->j≠2->j≠3->arr[j]? =(oS' s (.slice none 0 0) (.slice none 0 0))[j]? :=fun j h1 h2 h3=>by rw[z,Array.getElem?_setIfInBounds_ne (fun e=>h3 e.symm),Array.getElem?_setIfInBounds_ne (fun e=>h2 e.symm),Array.getElem?_setIfInBounds_ne (fun e=>h1 e.symm)]
 refine⟨arr,fun _=> .slice none 0 0,fun _=> .map none, .slice none 0 0,⟨u,D,?_,fun i hi=>?_,fun k r=>?_,fun k r=>?_,?_,?_,?_,?_,?_,jY' _ _ _,fun k r=>by rw[F];exact fq' _,fun k r j hj=>?_,fun j k _ _ _ b u=>?_⟩,Far.refl _ _,?_⟩
 ·rw[f _ (by omega) (by omega) (by omega)];rfl
 ·obtain rfl|rfl|rfl:i=0\/i=1\/i=2:=by omega
  all_goals
   rw[z];rfl
 ·rw[f _ (by omega) (by omega) (by omega)];exact((mx' s _ _).2 k r).1
 ·rw[f _ (by omega) (by omega) (by omega)];exact((mx' s _ _).2 k r).2
 ·rw[f _ (by omega) (by omega) (by omega)];rfl
 ·rw[f _ (by omega) (by omega) (by omega)];rfl
 ·rw[f _ (by omega) (by omega) (by omega)];rfl
 ·rw[f _ (by omega) (by omega) (by omega)];rfl
 ·rw[f _ (by omega) (by omega) (by omega)];rfl
 ·rcases hj with h|h <;> cases h
 ·rcases u with h|h <;> cases h
 ·rintro k (h|h|⟨i,_,h⟩)
  ·exact .inl h
  ·cases h
  ·rcases h with h|h <;> cases h
theorem ra' {w:World} {p s g cap m:Nat} {r:Nat->Nat} {rs:List Mod.Rc} (aS:gK' w w p s r Mod.ld0) (aT:w.ownsRow 0 155 3 (.slice (some ⟨g,0,none⟩) m cap) m (cJ' rs)) (bw:rs.length=m) (cI:m<=24)
  (bz:∀f∈rs,f=Mod.rc0\/f.fits) (bA:∀i,i < 3->r i<=2147483647):
  Calls Tryz.prog 103 #[y' p, .slice (some ⟨g,0,none⟩) m cap] w fun f w'=>f= .returned (.bool (Mod.ldRes r rs).isSome)/\Far (fun k=>k=p) w w'/\∀l,Mod.ldRes r rs=some l->gK' w w' p s r l:=by
 have U:∃arr,w.heap[p]? =some (.cells arr 151 (0,0)):=by obtain⟨arr,_,_,_,K,_⟩:=aS;exact⟨arr,K.blk⟩
 obtain⟨cJ,U⟩:=U;have bB:0 < m->g≠p:=fun _ e=>by have:=(ao'.of_own aT).ne U (by decide);exact this (by rw[e];rfl)
 have bC:∀j f,rs[j]? =some f->w.cell? ⟨g,j * 3,none⟩=some (.int .i64 f.s)/\w.cell? ⟨g,j * 3+1,none⟩=some (.int .i64 f.q)/\w.cell? ⟨g,j * 3+2,none⟩=some (.string f.b):=by
  intro j f hj;have bD:=(List.getElem?_eq_some_iff.1 hj).1;obtain⟨cK,cL,e,_,_,av⟩:=(ao'.of_own aT).shape;obtain⟨g',cM,aI,av⟩:=av (by omega);rw[aI]at e;injection e with e;injection e with e;injection e with e ce;subst e ce;have aU:=dq' rs;have:=iO' rs j f hj;refine⟨?_,?_,?_⟩
  ·have h:=av (j * 3) (by omega);rw[Nat.zero_add]at h;rw[h];exact this.1
  ·have h:=av (j * 3+1) (by omega);rw[Nat.zero_add]at h;rw[h];exact this.2.1
  ·have h:=av (j * 3+2) (by omega);rw[Nat.zero_add]at h;rw[h];exact this.2.2
 have cf:=t' bC;have cg:=t' bB;have cN:=lt_of_block U;have bE:=t' aS;have bF:=t' bz;have aV:=t' bw;have bG:=t' bA;clear aT bC bB aS bz bw bA U;unfold y';go_enter Tryz.func103,Tryz.ntmps103;go_wp2;go_loopw[5,6,7,12] (fun _ _ _ i wr=>∃j:Nat,j<=m/\i= .int .i64 j/\∃l,Mod.ldAll r (rs.take j) 0 Mod.ld0=some l/\gK' w wr p s r l) (fun _ _ _ i _=>m - (intOf i).toNat)
 case atStart=>exact⟨0,by omega,rfl,_,rfl,i' bE⟩
 case round=>
  obtain⟨j,hj,rfl,l,ax,D⟩:=hrel;clear bE;by_cases ch:j < m
  ·obtain⟨f,aj⟩:∃f,rs[j]? =some f:=⟨_,List.getElem?_eq_getElem (by have:=i' aV;omega)⟩;obtain⟨aW,bH,aI⟩:=(i' cf) j f aj;have V:=Mod.ldAll_step aj ax;have aX:=Mod.ldAll_len _ _ _ _ ax;have aY:=(i' bF) f (List.mem_of_getElem? aj);have ci:f.s < 3:=by
    rcases aY with h|h
    ·rw[h];show 0 < 3;omega
    ·exact h.1
   have cj:g < w.heap.size:=World.block_lt_of_cell? _ _ aW;have aJ:wr.heap[g]? =w.heap[g]? :=by obtain⟨_,_,_,_,_,hF,_⟩:=D;exact hF.rest g cj ((i' cg) (by omega))
   have ck:=(World.cell?_of_block (w:=w) aJ:wr.cell? ⟨g,j * 3,none⟩= _).trans aW;have cl:=(World.cell?_of_block (w:=w) aJ:wr.cell? ⟨g,j * 3+1,none⟩= _).trans bH;have aZ:=(World.cell?_of_block (w:=w) aJ:wr.cell? ⟨g,j * 3+2,none⟩= _).trans aI;have cO:l.free.length<=24:=by have:=aX.1;simp[Mod.ld0]at this;omega
   have cP:(l.sh f.s).length<=24:=by have:=aX.2 f.s;simp[Mod.ld0]at this;omega
   have z:=t' D;have ak:=t' V;have bI:=t' aY;clear aJ aW bH aI D ax V aj aX aY;obtain⟨ao,ba⟩:∃ao,ao=wr.heap.size:=⟨_,rfl⟩;have cm:p < wr.heap.size:=by obtain⟨_,_,_,_,K,_⟩:=i' z;exact lt_of_block K.blk
   have cQ:ao≠p:=by omega
   go_upto_region 4 with fail
   rw[<-ba];refine C' (fun x=>x.heap[ao]? =some (.cells #[.int .i64 f.s, .int .i64 f.q, .string f.b] 155 (0,0))/\gK' w x p s r l) ?_ ?_
   ·rw[ba];exact⟨heap_alloc_new _ _,(i' z).below ((Below.refl _ _).alloc (Nat.le_refl _) _)⟩
   clear ck cl aZ ba z cm;rintro x ⟨F,aK⟩;have r0:=m' (i:=0) F;have X:=m' (i:=1) F;have ay:=m' (i:=2) F;simp at r0 X ay;have ab:=t' F;have z:=t' aK;obtain⟨arr,nv,mv,fv,K,u,N⟩:=aK;have bb:x.cell? ⟨p,1+f.s,none⟩=some (.int .i64 (r f.s)):=by rw[m' K.blk,K.ag f.s ci]
   have s0:(0:Int)<=(f.s:Int):=by omega
   have cR:(f.s:Int) < 3:=by omega
   obtain⟨az,bc⟩:∃az,az=r f.s:=⟨_,rfl⟩;rw[<-bc]at bb;have bJ:=t' bc;clear K u N F bc;by_cases Y:f.q<=az
   ·have bd:(f.q:Int)<=(az:Int):=by omega
    have be:Hid (Mod.ldAll r (rs.take (j+1)) 0 Mod.ld0=some {l with free:=l.free++[j]}):=by show _= _;rw[i' ak];unfold Mod.ldStep;rw[if_pos (by rw[<-i' bJ];exact Y)]
    clear ak Y;go_quiet (fail);go_upto_region 5 with fail;refine C' (fun y=>gK' w y p s r l) ((i' z).below (below_drewN (Below.refl _ _) _)) ?_;clear r0 X ay ab z bb bd;intro y D;obtain⟨arr,nv,mv,fv,K,u,N⟩:=D;obtain⟨G,bf⟩:∃G,G=l.free.length:=⟨_,rfl⟩;obtain⟨aA,aB,ac,_⟩:=K.fr.shape;have aC:=K.fr;rw[<-bf]at ac aC;have cS:G<=24:=by omega
    have cT:y.cell? ⟨p,22,none⟩=some (.slice aA G aB):=by rw[m' K.blk,K.af,ac]
    rw[ac]at aC;have cn:=fun aD=>t' (aC.keep (w':=y.alloc aD) (fun g co=>hao _ _ (aC.lt g co)));have bK:=K.fr.ne K.blk (by decide);have cp:∀aD O Z,ao' Z 3 1 O (G+1) (H' l.free++[.int .i64 j])->App (y.alloc aD) Z (.slice aA G aB) O->∃aL aM,O= .slice aL (G+1) aM/\Z.frozen? ⟨p,22,none⟩=false/\Z.cell? ⟨p,22,none⟩=some (.slice aA G aB)/\
      Hid (gK' w (Z.setCell ⟨p,22,none⟩ O) p s r {l with free:=l.free++[j]}):=by
     intro aD O Z h1 h2;obtain⟨aL,aM,cq,_⟩:=h1.shape;have bg:Far (fun k=>(Value.slice aA G aB).ownBlock=some k) y Z:=(A' (E:=fun k=>(Value.slice aA G aB).ownBlock=some k) ((Below.refl _ _).alloc (Nat.le_refl _) aD)).trans (bl' h2.grown) (fun _ _ h=>h);rw[<-ac]at bg;have U:=bg.blk K.blk bK;have cr:Loc y fv O:=by rw[ac];exact gQ' (w:=y) (by simp) h2
     have cs:(l.free++[j]).length=G+1:=by rw[List.length_append,<-bf];rfl
     obtain⟨bh,K',bi,bj⟩:=uO' (free2:=l.free++[j]) K O bg (by rw[cs,show H' (l.free++[j])=H' l.free++[.int .i64 j] by simp[H']];exact h1) cr;refine⟨aL,aM,cq,D' (i:=22) U,?_,t' ⟨bh,nv,mv,O,K',?_,fun k ad=>?_⟩⟩
     ·rw[m' U,K.af,ac]
     ·refine u.trans bj (fun k ad h=>?_);rcases h with h|h
      ·exact h
      ·rcases N k (.inr (.inl h))with h|h
       ·exact h
       ·omega
     ·rcases bi k ad with h|h
      ·exact N k h
      ·exact .inr (Nat.le_trans u.size h)
    clear K u N aC ac bf bK;go_upto_region 10 with (at_builtin;refine gU' rfl (.tmp 31) (.tmp 33) 26 rfl 3 _ 1 8 Tryz.underlying26 tv' rfl _ G (H' l.free) (i' (cn _)) rfl ⟨y.heap.size,0,none⟩ 1 1 [.int .i64 j] rfl rfl bP' (by intro cU hu;simp at hu;subst hu;rfl) (by omega) (by omega) (by omega) ?_;intro O Z h1 h2;obtain⟨aL,aM,rfl,cV,cW,cu⟩:=cp _ _ _ h1 h2;clear h1 h2;go_simp);go_wp2;exact⟨⟨j+1,by omega,by go_num,_,i' be,i' cu⟩,by simp[intOf];omega⟩
   ·have bd:¬ (f.q:Int)<=(az:Int):=by omega
    have bL:f.fits:=by
     rcases i' bI with h|h
     ·exfalso;rw[h]at Y;exact Y (Nat.zero_le _)
     ·exact h
    have cX:=t' bL;have bM:Hid (¬f.q<=r f.s):=by rw[<-i' bJ];exact t' Y
    clear bL Y bI;go_quiet (fail);go_upto_region 6 with fail;go_quiet (fail);go_upto_region 7 with fail;refine C' (fun y=>y.heap[ao]? =some (.cells #[.int .i64 f.s, .int .i64 f.q, .string f.b] 155 (0,0))/\gK' w y p s r l) ⟨i' ab,(i' z).below (below_drewN (below_drewN (Below.refl _ _) _) _)⟩ ?_;clear r0 X ay ab z bb bd;rintro y ⟨F,D⟩;have X:=m' (i:=1) F;simp at X;have ab:=t' F;have z:=t' D;obtain⟨arr,nv,mv,fv,K,u,N⟩:=D;have aN:=to' K.blk (K.am (f.s * 3) (by omega)) (K.shs (f.s * 3) (by omega)) (by rw[dt'];exact tZ' _) (f.q:Int);rw[dt',fn',tY',show 4+f.s * 3 * 2=4+f.s * 6 by omega]at aN;obtain⟨Q,bk⟩:∃Q,Q=((l.sh f.s).map (·.1)).contains f.q:=⟨_,rfl⟩;rw[<-bk]at aN;have bl:=t' aN;have bN:=t' bk;clear K u N F aN bk;cases Q with
    |true=>
     have aa:Hid (Mod.ldRes r rs=none):=by have h:=i' ak;unfold Mod.ldStep at h;rw[if_neg (i' bM),<-i' bN,if_pos rfl]at h;show _= _;unfold Mod.ldRes;rw[Mod.ldAll_bad h]
     have cv:Hid (Far (fun k=>k=p) w y):=by obtain⟨_,_,_,_,_,u,_⟩:=i' z;exact u
     clear ak z;go_wp2_with (go_at_call 150;refine(i' bl).mono ?_;rintro e aZ ⟨rfl,ah⟩;replace ah:=t' ah);go_ret;refine⟨bt' (by rw[i' aa];rfl),(i' cv).trans (A' (E:=fun _=>False) (i' ah)) (fun _ _ h=>h.elim),fun bm h=>?_⟩;rw[i' aa]at h;cases h
    |false=>
     have be:Hid (Mod.ldAll r (rs.take (j+1)) 0 Mod.ld0=some {l with sh:=fun i=>if i=f.s then Mod.insP (l.sh f.s) (f.q,f.b,j)else l.sh i}):=by show _= _;rw[i' ak];unfold Mod.ldStep;rw[if_neg (i' bM),<-i' bN,if_neg (by simp)]
     clear ak;go_upto_region 9 with (go_at_call 150;refine(i' bl).mono ?_;rintro e aZ ⟨rfl,ah⟩);refine C' (fun y=>y.heap[ao]? =some (.cells #[.int .i64 f.s, .int .i64 f.q, .string f.b] 155 (0,0))/\gK' w y p s r l) ⟨(ah.block _ (lt_of_block (i' ab))).trans (i' ab),(i' z).below ah⟩ ?_;clear ah bl ab z X;rintro bO ⟨F,D⟩;have X:=m' (i:=1) F;have ay:=m' (i:=2) F;simp at X ay;have z:=t' D;obtain⟨arr,nv,mv,fv,K,u,N⟩:=D;have bP:ew' bO p (4+f.s * 3 * 2) 151 arr (nv (f.s * 3)) (mv (f.s * 3)) ((l.sh f.s).map toV):=⟨K.blk,K.an _ (by omega),K.am _ (by omega),by have:=K.shs (f.s * 3) (by omega);rw[dt']at this;exact this,by decide⟩;have aE:=oo' bP (by simp;omega) f.q f.b j;have bn:=pr' (f.q,f.b,j) (l.sh f.s);simp only at bn;rw[bn]at aE;unfold bZ' at aE;rw[show 4+f.s * 3 * 2=4+f.s * 6 by omega]at aE;have bQ:∀ai,bY' bO ai p (4+f.s * 6) 151 arr (nv (f.s * 3)) (mv (f.s * 3)) ((Mod.insP (l.sh f.s) (f.q,f.b,j)).map toV)->gK' w ai p s r {l with sh:=fun i=>if i=f.s then Mod.insP (l.sh f.s) (f.q,f.b,j)else l.sh i}:=by
      intro ai V;rw[show 4+f.s * 6=4+f.s * 3 * 2 by omega]at V;obtain⟨bh,nv',mv',K',bi,bj⟩:=wh' K (by omega) V;refine⟨bh,nv',mv',fv,?_,?_,fun k ad=>?_⟩
      ·have:=ua' l f.s (Mod.insP (l.sh f.s) (f.q,f.b,j));rw[this]at K';exact K'
      ·refine u.trans bj (fun k ad h=>?_);rcases h with h|h
       ·exact h
       ·rcases N k (.inr (.inr ⟨f.s * 3,by omega,h⟩))with h|h
        ·exact h
        ·omega
      ·rcases bi k ad with h|h
       ·exact N k h
       ·exact .inr (Nat.le_trans u.size h)
     have cw:=fun ai h=>t' (bQ ai h);have cx:=t' aE;clear K u N F bP aE bn bQ z;go_wp2_with (go_at_call 90;refine(i' cx).mono ?_;rintro e ai ⟨rfl,V⟩;have cy:=cw ai V;clear V);exact⟨⟨j+1,by omega,by go_num,_,i' be,i' cy⟩,by simp[intOf];omega⟩
  ·have bD:j=m:=by omega
   have aO:Mod.ldAll r rs 0 Mod.ld0=some l:=by rw[<-ax,List.take_of_length_le (by have:=i' aV;omega)]
   have aU:=Mod.ldAll_len _ _ _ _ aO;have bR:∀i,∀e∈l.sh i,e.1<=2147483647:=Mod.ldAll_inv (fun _ e=>e.1<=2147483647) _ _ _ _ aO (fun i e cz=>by cases cz) (fun k f aj _=>by
    rcases(i' bF) f (List.mem_of_getElem? aj)with h|h
    ·rw[h];exact Nat.zero_le _
    ·exact h.2.2.1)
   have bS:∀t,t < 3->(l.sh t).length<=24:=fun t _=>by have:=aU.2 t;have:=i' aV;simp[Mod.ld0]at *;omega
   have bT:∀t,t < 3->Mod.lastP (l.sh t) (r t)<=2147483647:=fun t bU=>by
    have h1:=(i' bG) t bU;unfold Mod.lastP;cases Y:(l.sh t).getLast? with
    |none=>simp only;omega
    |some e=>
     have:=bR t e (List.mem_of_getLast? Y);simp only
     omega
   have aP:=t' (And.intro aO (And.intro bS bT));obtain⟨ap,bo⟩:∃ap,ap=wr:=⟨_,rfl⟩;rw[<-bo]at D;have cA:=t' bo;have z:=t' D;have cY:¬ (j:Int) < (m:Int):=by omega
   clear bo D aO bS bT aU bR ax bD ch;go_wp2;go_loopw[8,9,57] (fun _ _ i wr2=>∃t:Nat,t<=3/\i= .int .i64 t/\Below ap.heap.size ap wr2/\∀k,k < t->Mod.okP (l.sh k) (r k)=true) (fun _ _ i _=>3 - (intOf i).toNat)
   case atStart=>exact⟨0,by omega,rfl,by rw[i' cA];exact Below.refl _ _,fun k ad=>by omega⟩
   case round=>
    obtain⟨t,bU,rfl,Q,aq⟩:=hrel;by_cases aF:t < 3
    ·have cB:=(i' z).below Q;obtain⟨arr,nv,mv,fv,K,u,N⟩:=cB;have bp:=t' (qZ' K aF);have M:=t' Q;have cC:=(i' aP).2.2 t aF;have cD:=(i' aP).2.1 t aF;have cE:=(i' bG) t aF;have cZ:(0:Int)<=(t:Int):=by omega
     have db:(t:Int) < 3:=by omega
     obtain⟨H,bq⟩:∃H,H=Mod.lastP (l.sh t) (r t):=⟨_,rfl⟩;obtain⟨I,aQ⟩:∃I,I=(l.sh t).length:=⟨_,rfl⟩;obtain⟨J,aR⟩:∃J,J=r t:=⟨_,rfl⟩;have bV:Mod.okP (l.sh t) (r t)=(decide (H<=1073741824) &&decide (H=J+I)):=by rw[bq,aQ,aR];rfl
     rw[<-bq]at bp cC;rw[<-aQ]at cD;rw[<-aR]at cE;have au:=t' (And.intro aq bV);have bW:=t' (And.intro aQ aR);clear K u N Q bq aQ aR aq bV;have dc:IntKind.i64.wrap ((J:Int)+(I:Int))=(J:Int)+(I:Int):=by rw[IntKind.wrap_i64];omega
     have aa:Hid (Mod.okP (l.sh t) (r t)=false->Mod.ldRes r rs=none):=by
      refine t' (fun h=>?_);unfold Mod.ldRes;rw[(i' aP).1];simp only
      rw[if_neg];rintro⟨bX,bY,bZ⟩;obtain rfl|rfl|rfl:t=0\/t=1\/t=2:=by omega
      ·rw[h]at bX;cases bX
      ·rw[h]at bY;cases bY
      ·rw[h]at bZ;cases bZ
     unfold y' at *;go_upto_region 15 with (go_at_call 88;refine(i' bp).mono ?_;rintro f y ⟨rfl,q,rfl⟩);refine C' (fun x=>Below ap.heap.size ap x) ((i' M).trans (below_drewN (Below.refl _ _) _ |>.mono (i' M).size)) ?_;clear M bp;intro x br;have aK:=(i' z).below br;obtain⟨arr,nv,mv,fv,K,u,N⟩:=aK;have M:=t' br;have bt:∀n,Calls Tryz.prog 143 #[.pointer (some ⟨p,4+t * 3 * 2,none⟩)] (x.drewN n) fun e w'=>e= .returned (.int .i64 ((et' l (t * 3)).length:Nat))/\w'=x.drewN n:=fun n=>op' (w:=x.drewN n) K.blk (K.an (t * 3) (by omega)) ((K.shs (t * 3) (by omega)).far (ag' (fun _=>False) x n) (fun _ _ h=>h));have ca:(et' l (t * 3)).length=I:=by rw[dt',List.length_map,(i' bW).1]
     rw[ca,show 4+t * 3 * 2=4+t * 6 by omega]at bt;have bu:=fun n=>t' (bt n);have c1:x.cell? ⟨p,1+t,none⟩=some (.int .i64 J):=by rw[m' K.blk,K.ag t aF,(i' bW).2]
     clear K u N br bt ca;by_cases c2:(1073741824:Int) < (H:Int)
     ·have aG:=(i' aa) (by rw[(i' au).2,decide_eq_false (show ¬H<=1073741824 by omega)];rfl);have aH:=t' aG;clear aG aa au;go_quiet (first|(go_at_call 143;exact Calls.quiet_of_same (i' (bu _))));go_wp2;go_ret;refine⟨bt' (by rw[i' aH];rfl),?_,fun bm h=>?_⟩
      ·obtain⟨_,_,_,_,_,u,_⟩:=i' z;exact u.trans (A' (E:=fun _=>False) ((i' M).trans (below_drewN (Below.refl _ _) _ |>.mono (i' M).size))) (fun _ _ h=>h.elim)
      ·rw[i' aH]at h;cases h
     ·by_cases c3:(H:Int)=(J:Int)+(I:Int)
      ·have cF:((H:Int) != (J:Int)+(I:Int))=false:=by simp[c3]
       have cG:Hid (Mod.okP (l.sh t) (r t)=true):=by show _= _;rw[(i' au).2,decide_eq_true (show H<=1073741824 by omega),decide_eq_true (show H=J+I by omega)];rfl
       clear aa c3;go_quiet (first|(go_at_call 143;exact Calls.quiet_of_same (i' (bu _))));go_wp2;refine⟨⟨t+1,by omega,by go_num,(i' M).trans (below_drewN (Below.refl _ _) _ |>.mono (i' M).size),fun k ad=>?_⟩,by simp[intOf];omega⟩;by_cases e:k=t
       ·rw[e];exact i' cG
       ·exact(i' au).1 k (by omega)
      ·have cF:((H:Int) != (J:Int)+(I:Int))=true:=by simp;omega
       have aG:=(i' aa) (by rw[(i' au).2,decide_eq_false (show ¬H=J+I by omega)];simp);have aH:=t' aG;clear aG aa au c3;go_quiet (first|(go_at_call 143;exact Calls.quiet_of_same (i' (bu _))));go_wp2;go_ret;refine⟨bt' (by rw[i' aH];rfl),?_,fun bm h=>?_⟩
       ·obtain⟨_,_,_,_,_,u,_⟩:=i' z;exact u.trans (A' (E:=fun _=>False) ((i' M).trans (below_drewN (Below.refl _ _) _ |>.mono (i' M).size))) (fun _ _ h=>h.elim)
       ·rw[i' aH]at h;cases h
    ·have cH:t=3:=by omega
     subst cH;have cb:Mod.ldRes r rs=some l:=by
      unfold Mod.ldRes;rw[(i' aP).1];simp only
      rw[if_pos ⟨aq 0 (by omega),aq 1 (by omega),aq 2 (by omega)⟩]
     have cc:=t' cb;have cd:=t' ((i' z).below Q);clear cb aq Q z;go_wp2;go_ret;refine⟨bt' (by rw[i' cc];rfl),?_,fun bm h=>?_⟩
     ·obtain⟨_,_,_,_,_,u,_⟩:=i' cd;exact u
     ·rw[i' cc]at h;cases h;exact i' cd
end Go.Proofs.YtamafdcnbcoegaaGreat
namespace Go.Proofs.YtamafdcnbcoegaaGreat
namespace Mod
def cnt (l:Nat->List ByteArray):Nat:=(l 0).length+(l 1).length+(l 2).length
def logAdd (l:Nat->List ByteArray) (s:Nat) (b:ByteArray):Nat->List ByteArray:=fun j=>if j=s then l s++[b]else l j
theorem cnt_add (l:Nat->List ByteArray) (s:Nat) (b:ByteArray) (hs:s < 3):cnt (logAdd l s b)=cnt l+1:=by
 unfold cnt logAdd;obtain rfl|rfl|rfl:s=0\/s=1\/s=2:=by omega
 all_goals
  simp;try omega
def skLd:List Rc->Nat->(Nat->List ByteArray)->Option (Nat->List ByteArray)
 |[],_,l=>some l
 |f::rs,x,l=>if f.q=0 then skLd rs (x+1) l else if x=cnt l/\f.q=(l f.s).length+1 then skLd rs (x+1) (logAdd l f.s f.b)else none
def skLoad (L:List UInt8):Option Sk:=
 match openSt L with
 |none=>none
 |some (h,_,rs)=>if h.b=0/\h.d=0 then(match skLd rs 0 (fun _=>[])with
  |none=>none
  |some l=>some {epoch:=h.a,logs:=l,held:=[]})else none
theorem skLd_app:∀ (rs f:List Rc) (x:Nat) (l:Nat->List ByteArray),skLd (rs++f) x l=match skLd rs x l with
  |none=>none
  |some r=>skLd f (x+rs.length) r
 |[],f,x,l=>by simp[skLd]
 |u::rs,f,x,l=>by
  rw[List.cons_append,skLd,skLd,List.length_cons,show x+(rs.length+1)=x+1+rs.length by omega];split
  ·exact skLd_app rs f (x+1) l
  ·split
   ·exact skLd_app rs f (x+1) _
   ·rfl
theorem skLd_zero:∀ (n x:Nat) (l:Nat->List ByteArray),skLd (List.replicate n rc0) x l=some l
 |0,_,_=>rfl
 |n+1,x,l=>by rw[List.replicate_succ,skLd,if_pos (show rc0.q=0 from rfl)];exact skLd_zero n (x+1) l
theorem skLd_gap:∀ (rs:List Rc) (x:Nat) (l f:Nat->List ByteArray),cnt l < x->skLd rs x l=some f->f=l/\∀u∈rs,u.q=0
 |[],x,l,f,_,h=>by cases h;exact⟨rfl,fun u r=>by cases r⟩
 |u::rs,x,l,f,D,h=>by
  rw[skLd]at h;split at h
  ·rename_i h0;obtain⟨e,i⟩:=skLd_gap rs (x+1) l f (by omega) h;exact⟨e,fun z r=>by
    cases r with
    |head=>exact h0
    |tail _ r=>exact i z r⟩
  ·rw[if_neg (by omega)]at h;cases h
theorem skLd_some:∀ (rs:List Rc) (x:Nat) (l u:Nat->List ByteArray),cnt l=x->(∀f∈rs,f.s < 3)->skLd rs x l=some u->
  ∃n,n<=rs.length/\cnt u=x+n/\skLd (rs.take n) x l=some u/\(∀y,y < n->∃f,rs[y]? =some f/\f.q≠0)/\∀y,n<=y->∀f,rs[y]? =some f->f.q=0
 |[],x,l,u,D,_,h=>by cases h;exact⟨0,Nat.le_refl _,D,rfl,fun y F=>by omega,fun y _ f r=>by simp at r⟩
 |f::rs,x,l,u,D,hs,h=>by
  have J:=h;rw[skLd]at h;split at h
  ·rename_i h0;obtain⟨e,i⟩:=skLd_gap rs (x+1) l u (by omega) h;subst e;refine⟨0,Nat.zero_le _,D,rfl,fun y F=>by omega,fun y _ z r=>?_⟩;cases y with
   |zero=>simp at r;rw[<-r];exact h0
   |succ y=>exact i z (List.mem_of_getElem? (by simpa using r))
  ·rename_i h0;split at h
   ·rename_i h1;obtain⟨n,M,O,G,H,I⟩:=skLd_some rs (x+1) _ u (by rw[cnt_add _ _ _ (hs f (.head _)),D]) (fun z r=>hs z (.tail _ r)) h;refine⟨n+1,by simp;omega,by omega,?_,fun y F=>?_,fun y F z r=>?_⟩
    ·rw[List.take_succ_cons,skLd,if_neg h0,if_pos h1];exact G
    ·cases y with
     |zero=>exact⟨f,rfl,h0⟩
     |succ y=>exact H y (by omega)
    ·cases y with
     |zero=>omega
     |succ y=>exact I y (by omega) z (by simpa using r)
   ·cases h
structure SkDisk (L:List UInt8) (op ct hd e:Nat) (logs:Nat->List ByteArray):Prop where
 ok:DiskOk L op ct hd (fun i=>if i=0 then e else 0) 122
 rcs:∃ord:List Rc,ord.length=cnt logs/\cnt logs<=120/\(∀r∈ord,r.fits)/\skLd ord 0 (fun _=>[])=some logs/\∀x,x < 120->RecAt (sec L (2+x)) op (ord.getD x rc0)
theorem SkDisk.loads {L:List UInt8} {op ct hd e:Nat} {logs:Nat->List ByteArray} (h:SkDisk L op ct hd e logs) (r:op<=1073741824):skLoad L=some {epoch:=e,logs:=logs,held:=[]}:=by
 obtain⟨f,H,I,J,u,z⟩:=h.rcs;obtain⟨c,D⟩:=h.ok.opens r (fun x=>f.getD x rc0) (fun x F=>z x F);have G:(List.range (122 - 2)).map (fun x=>f.getD x rc0)=f++List.replicate (120 - f.length) rc0:=by
  apply List.ext_getElem?;intro i;rw[List.getElem?_map,List.getElem?_append,List.getElem?_replicate];by_cases hi:i < 120
  ·rw[List.getElem?_range (by omega)];by_cases hl:i < f.length
   ·rw[if_pos hl];simp[List.getD_eq_getElem?_getD,hl]
   ·rw[if_neg hl,if_pos (by omega)];simp[List.getD_eq_getElem?_getD,List.getElem?_eq_none (by omega:f.length<=i)]
  ·rw[List.getElem?_eq_none (by simp;omega),if_neg (by omega),if_neg (by omega)];rfl
 unfold skLoad;rw[D];simp only
 rw[if_pos (by simp),G,skLd_app,u];simp only
 rw[skLd_zero];simp
theorem SkDisk.commit {L:List UInt8} {op ct hd e:Nat} {logs:Nat->List ByteArray} (h:SkDisk L op ct hd e logs) {s:Nat} {b:ByteArray} (hs:s < 3) (z:b.size<=20) (f:cnt logs < 120) (D:ct+1 < 18446744073709551616):
  SkDisk (setSec L (2+cnt logs) (sealR op (ct+1) ⟨s,(logs s).length+1,b⟩)) op (ct+1) hd e (logAdd logs s b):=by
 obtain⟨r,F,Q,H,I,J⟩:=h.rcs;have u:(sealR op (ct+1) ⟨s,(logs s).length+1,b⟩).length=64:=length_sealR z;have U:(logs s).length<=cnt logs:=by
  unfold cnt;obtain rfl|rfl|rfl:s=0\/s=1\/s=2:=by omega
  all_goals omega
 have G:Rc.fits ⟨s,(logs s).length+1,b⟩:=⟨hs,by show 1<=(logs s).length+1;omega,by show(logs s).length+1<= _;omega,z⟩;refine⟨h.ok.record u (by omega) D,r++[⟨s,(logs s).length+1,b⟩],by rw[cnt_add _ _ _ hs];simp[F],by rw[cnt_add _ _ _ hs];omega,?_,?_,fun x M=>?_⟩
 ·intro O f;rw[List.mem_append]at f;rcases f with f|f
  ·exact H O f
  ·rw[List.mem_singleton]at f;rw[f];exact G
 ·rw[skLd_app,I];simp only
  rw[skLd,if_neg (by show ¬ (logs s).length+1=0;omega),if_pos ⟨by omega,rfl⟩,skLd]
 ·have hl:=h.ok.len;by_cases e:x=cnt logs
  ·subst e;rw[sec_set u (by omega),List.getD_eq_getElem?_getD,List.getElem?_append_right (by omega),F,Nat.sub_self];exact .inr ⟨op,ct+1,h.ok.op1,Nat.le_refl _,h.ok.opm,D,G,rfl⟩
  ·rw[sec_other u (by omega) (by omega)];have:(r++[Rc.mk s ((logs s).length+1) b]).getD x rc0=r.getD x rc0:=by
    rw[List.getD_eq_getElem?_getD,List.getD_eq_getElem?_getD,List.getElem?_append];split
    ·rfl
    ·rw[List.getElem?_eq_none (by simp;omega),List.getElem?_eq_none (by omega)]
   rw[this];exact J x M
theorem SkDisk.epoch {L:List UInt8} {op ct hd e:Nat} {logs:Nat->List ByteArray} (h:SkDisk L op ct hd e logs) {f:Nat} (J:f<=2147483647) (r:ct+1 < 18446744073709551616):
  SkDisk (setSec L (1 - hd) (sealH ⟨op,ct+1,f,0,0⟩)) op (ct+1) (1 - hd) f logs:=by
 obtain⟨u,z,D,F,G,H⟩:=h.rcs;have hl:=h.ok.len;refine⟨h.ok.numbers (g':=fun i=>if i=0 then f else 0) (fun i _=>by show(if i=0 then f else 0)<= _;split <;> omega) r,u,z,D,F,G,fun x I=>?_⟩;rw[sec_other (length_sealH _) (by omega) (by omega)];exact H x I
theorem skLoad_some {L:List UInt8} {a:Sk} (h:skLoad L=some a):∃hd at' rs,openSt L=some (hd,at',rs)/\hd.b=0/\hd.d=0/\a.epoch=hd.a/\a.held=[]/\skLd rs 0 (fun _=>[])=some a.logs:=by
 unfold skLoad at h;cases f:openSt L with
 |none=>rw[f]at h;cases h
 |some p=>
  obtain⟨hd,at',rs⟩:=p;rw[f]at h;simp only at h;split at h
  ·rename_i h0;cases hl:skLd rs 0 (fun _=>[])with
   |none=>rw[hl]at h;cases h
   |some l=>rw[hl]at h;cases h;exact⟨hd,at',rs,rfl,h0.1,h0.2,rfl,rfl,hl⟩
  ·cases h
theorem skDisk_opened {L:List UInt8} {a:Sk} {hd:Hd} {at':Nat} {rs:List Rc} (I:openSt L=some (hd,at',rs)) (J:hd.b=0) (hd0:hd.d=0) (hl:skLd rs 0 (fun _=>[])=some a.logs) (M:L.length=7808):
  SkDisk (openL L hd at') (hd.o+1) 1 (1 - at') hd.a a.logs:=by
 obtain⟨O,r⟩:=openSt_some I;rw[M]at r;obtain⟨ab,F⟩:=recsFrom_some _ _ r;have G:∀x,x < 120->RecAt (sec L (2+x)) (hd.o+1) (rs.getD x rc0):=fun x f=>by obtain⟨k1,k2⟩:=F x f;rw[Nat.zero_add]at k1 k2;rw[List.getD_eq_getElem?_getD,k2];exact(recAt_ok k1).up (by omega)
 have Q:∀u∈rs,u.s < 3:=fun u r=>by obtain⟨x,f,e⟩:=List.mem_iff_getElem.1 r;obtain⟨k1,k2⟩:=F x (by omega);rw[List.getElem?_eq_getElem f,e]at k2;cases k2;exact(recOk_small k1).1
 obtain⟨n,ac,ad,U,V,X⟩:=skLd_some rs 0 _ _ (by rfl) Q hl;have Y:=opened_ok O (m:=122) (by omega) (by omega);refine⟨?_,rs.take n,by simp;omega,by omega,fun u r=>?_,U,fun x f=>?_⟩
 ·have:hd.num=fun i=>if i=0 then hd.a else 0:=by
   funext i;unfold Hd.num;split
   ·rfl
   ·split
    ·exact J
    ·exact hd0
  rw[<-this];exact Y
 ·obtain⟨x,f,e⟩:=List.mem_iff_getElem.1 r;have z:x < n:=by simp at f;omega
  obtain⟨H,h1,h2⟩:=V x z;have h3:rs.getD x rc0=H:=by rw[List.getD_eq_getElem?_getD,h1];rfl
  have h4:u=H:=by rw[<-e];simp only[List.getElem_take];rw[List.getElem?_eq_getElem (by omega)]at h1;cases h1;rfl
  have:=G x (by omega);rw[h3,<-h4]at this;rcases this with ⟨_,Z⟩|⟨_,_,_,_,_,_,D,_⟩
  ·rw[<-h4,Z]at h2;exact absurd rfl h2
  ·exact D
 ·rw[openL_other (m:=122) (by omega) (by omega) (by omega)];have h0:=G x f;by_cases z:x < n
  ·have:(rs.take n).getD x rc0=rs.getD x rc0:=by rw[List.getD_eq_getElem?_getD,List.getD_eq_getElem?_getD,List.getElem?_take,if_pos z]
   rw[this];exact h0
  ·have:(rs.take n).getD x rc0=rc0:=by rw[List.getD_eq_getElem?_getD,List.getElem?_eq_none (by simp;omega)];rfl
   rw[this];have ah:=X x (by omega) (rs.getD x rc0) (by rw[List.getD_eq_getElem?_getD,List.getElem?_eq_getElem (by omega)];rfl);rcases h0 with ⟨aa,_⟩|⟨_,_,_,_,_,_,D,_⟩
   ·exact .inl ⟨aa,rfl⟩
   ·have:=D.2.1;omega
end Mod
end Go.Proofs.YtamafdcnbcoegaaGreat
namespace Go.Proofs.YtamafdcnbcoegaaGreat
open Go.RowKit
def vR' (B:Nat) (b:ByteArray) (v:Value) (w:World):Prop:=∃g,v= .slice (some ⟨g,0,none⟩) 1 1/\B<=g/\w.heap[g]? =some (.cells #[.string b] 9 (0,0))
theorem ps' (B:Nat) (b:ByteArray):bA' (vR' B b):=fun _ _ _ h f=>by
 obtain⟨g,e,h1,h2⟩:=h;exact⟨g,e,h1,(f.block g (lt_of_block h2)).trans h2⟩
theorem hX' {B:Nat} {b:ByteArray} {E:Nat->Prop} (f:∀k,E k->k < B):aU' E (vR' B b):=fun _ _ _ h hF=>by
 obtain⟨g,e,h1,h2⟩:=h;exact⟨g,e,h1,hF.blk h2 (fun e=>by have:=f _ e;omega)⟩
def vS' (w0:World) (fv:Value) (n:Nat) (xs:List Value) (v:Value) (w:World):Prop:=ao' w 9 1 v n xs/\Loc w0 fv v/\w0.heap.size<=w.heap.size
theorem pt' (w0:World) (fv:Value) (n:Nat) (xs:List Value):bA' (vS' w0 fv n xs):=fun _ _ _ h f=>
 ⟨h.1.keep (fun g r=>f.block g (h.1.lt g r)),h.2.1,Nat.le_trans h.2.2 f.size⟩
theorem nF' {w0:World} {fv:Value} {n:Nat} {xs:List Value} {E:Nat->Prop} (r:∀k,E k->k < w0.heap.size/\fv.ownBlock≠some k):aU' E (vS' w0 fv n xs):=fun _ _ _ h hF=>
 ⟨h.1.far hF (fun g f e=>by
  obtain⟨h1,h2⟩:=r g e;rcases h.2.1 with h3|h3|⟨k,h3,h4⟩
  ·rw[h3]at f;cases f
  ·rw[h3]at f;exact h2 f
  ·rw[h3]at f;cases f;omega),h.2.1,Nat.le_trans h.2.2 hF.size⟩
theorem sJ' (s q:Nat) (b:ByteArray) (r:q≠0) (w:World):(binOp .eql 155 (.agg #[.int .i64 s, .int .i64 q, .string b]) (.agg #[.int .i64 0, .int .i64 0, .string ⟨#[]⟩])).run Tryz.prog w= .ok (.bool false) w:=by
 have f:((q:Int) ==0)=false:=by simp;omega
 rw[run_eql_struct,run_equalIn_struct w 9999 155 _ _ (by kernel_rfl) (by kernel_rfl)];cases hs:((s:Int) ==0) <;> simp[go_sem,f,hs]
theorem rb' (w:World):(binOp .eql 155 (.agg #[.int .i64 0, .int .i64 0, .string ⟨#[]⟩]) (.agg #[.int .i64 0, .int .i64 0, .string ⟨#[]⟩])).run Tryz.prog w= .ok (.bool true) w:=by kernel_rfl
def hY' (w x:World) (p e s:Nat) (logs:Nat->List ByteArray):Prop:=
 ∃arr lv,fy' x p e logs (fun _=>[]) arr s lv (fun _=> .slice none 0 0) (fun _=> .map none) (.slice none 0 0)/\Far (fun k=>k=p) w x/\∀i,i < 3->∀g,(lv i).ownBlock=some g->w.heap.size<=g
theorem hY'.below {w x y:World} {p e s:Nat} {logs:Nat->List ByteArray} (h:hY' w x p e s logs) (f:Below x.heap.size x y):hY' w y p e s logs:=by
 obtain⟨arr,lv,h1,h2,h3⟩:=h;exact⟨arr,lv,h1.far (A' (E:=fun _=>False) f) (fun _ _ h=>h),h2.trans (A' (E:=fun _=>False) f) (fun _ _ h=>h.elim),h3⟩
def ef' (s e:Nat) (rv:Value):Array Value:= #[y' s, .int .i64 e, .slice none 0 0, .slice none 0 0, .map none, .slice none 0 0, .slice none 0 0, .map none, .slice none 0 0, .slice none 0 0, .map none,rv]
theorem uc' {w:World} {p e s:Nat} (r:w.heap[p]? =some (.cells (ef' s e (.slice none 0 0)) 176 (0,0))) (u:e<=2147483647):hY' w w p e s (fun _=>[]):=by
 have h3:∀i,i < 3->(ef' s e (.slice none 0 0))[2+i * 3]? =some (.slice none 0 0)/\(ef' s e (.slice none 0 0))[2+i * 3+1]? =some (.slice none 0 0)/\(ef' s e (.slice none 0 0))[2+i * 3+2]? =some (.map none):=by
  intro i hi;obtain rfl|rfl|rfl:i=0\/i=1\/i=2:=by omega
  all_goals exact⟨rfl,rfl,rfl⟩
 refine⟨_,fun _=> .slice none 0 0,⟨r,rfl,rfl,rfl,fun i hi=>(h3 i hi).1,fun i hi=>(h3 i hi).2.1,fun i hi=>(h3 i hi).2.2,rfl,fun i hi=>jY' _ _ _,fun i hi=>fq' _,(fun i hi x z=>by cases z),(fun i j _ _ _ g f=>by cases f),fun i j _ _ _ k D=>?_,by simp,u⟩,Far.refl _ _,fun i _ g f=>by cases f⟩;rcases D with h|h <;> cases h
theorem sK' {rs:List Mod.Rc} {j:Nat} {f:Mod.Rc} {l:Nat->List ByteArray} (r:rs[j]? =some f) (h:Mod.skLd (rs.take j) 0 (fun _=>[])=some l):
  Mod.skLd (rs.take (j+1)) 0 (fun _=>[])=if f.q=0 then some l else if j=Mod.cnt l/\f.q=(l f.s).length+1 then some (Mod.logAdd l f.s f.b)else none:=by
 obtain⟨hj,e⟩:=List.getElem?_eq_some_iff.1 r;rw[List.take_succ_eq_append_getElem hj,e,Mod.skLd_app,h];simp only[List.length_take];rw[show 0+min j rs.length=j by omega];rfl
theorem pu' {rs:List Mod.Rc} {j:Nat} (h:Mod.skLd (rs.take j) 0 (fun _=>[])=none):Mod.skLd rs 0 (fun _=>[])=none:=by
 have:=Mod.skLd_app (rs.take j) (rs.drop j) 0 (fun _=>[]);rw[List.take_append_drop,h]at this;exact this
theorem nG' {w:World} {p e s g cap m:Nat} {rs:List Mod.Rc} (aD:w.heap[p]? =some (.cells (ef' s e (.slice none 0 0)) 176 (0,0))) (V:w.ownsRow 0 155 3 (.slice (some ⟨g,0,none⟩) m cap) m (cJ' rs)) (ba:rs.length=m) (ci:m<=120)
  (bb:∀f∈rs,f=Mod.rc0\/f.fits) (bc:e<=2147483647):
  Calls Tryz.prog 108 #[y' p, .slice (some ⟨g,0,none⟩) m cap] w fun f w'=>f= .returned (.bool (Mod.skLd rs 0 (fun _=>[])).isSome)/\Far (fun k=>k=p) w w'/\∀logs,Mod.skLd rs 0 (fun _=>[])=some logs->hY' w w' p e s logs:=by
 have bd:0 < m->g≠p:=fun _ e=>by have:=(ao'.of_own V).ne aD (by decide);exact this (by rw[e];rfl)
 have be:∀j f,rs[j]? =some f->w.cell? ⟨g,j * 3,none⟩=some (.int .i64 f.s)/\w.cell? ⟨g,j * 3+1,none⟩=some (.int .i64 f.q)/\w.cell? ⟨g,j * 3+2,none⟩=some (.string f.b):=by
  intro j f hj;have bf:=(List.getElem?_eq_some_iff.1 hj).1;obtain⟨X,cj,e,_,_,ao⟩:=(ao'.of_own V).shape;obtain⟨g',ck,aE,ao⟩:=ao (by omega);rw[aE]at e;injection e with e;injection e with e;injection e with e bE;subst e bE;have cl:=dq' rs;have:=iO' rs j f hj;refine⟨?_,?_,?_⟩
  ·have h:=ao (j * 3) (by omega);rw[Nat.zero_add]at h;rw[h];exact this.1
  ·have h:=ao (j * 3+1) (by omega);rw[Nat.zero_add]at h;rw[h];exact this.2.1
  ·have h:=ao (j * 3+2) (by omega);rw[Nat.zero_add]at h;rw[h];exact this.2.2
 have bF:=t' be;have bG:=t' bd;have cm:=lt_of_block aD;have bg:=t' (uc' aD bc);have bH:=t' bb;have bh:=t' ba;clear V be bd aD bb ba bc;unfold y';go_enter Tryz.func108,Tryz.ntmps108;go_wp2;go_loopw[5,6,7,10] (fun _ _ _ i wr=>∃j:Nat,j<=m/\i= .int .i64 j/\∃logs,Mod.skLd (rs.take j) 0 (fun _=>[])=some logs/\hY' w wr p e s logs) (fun _ _ _ i _=>m - (intOf i).toNat)
 case atStart=>exact⟨0,by omega,rfl,_,rfl,i' bg⟩
 case round=>
  obtain⟨j,hj,rfl,logs,aF,I⟩:=hrel;clear bg;by_cases cn:j < m
  ·obtain⟨f,ap⟩:∃f,rs[j]? =some f:=⟨_,List.getElem?_eq_getElem (by have:=i' bh;omega)⟩;obtain⟨aM,bi,aE⟩:=(i' bF) j f ap;have bj:=sK' ap aF;have aG:=(i' bH) f (List.mem_of_getElem? ap);have bI:g < w.heap.size:=World.block_lt_of_cell? _ _ aM;have aH:wr.heap[g]? =w.heap[g]? :=by obtain⟨_,_,_,hF,_⟩:=I;exact hF.rest g bI ((i' bG) (by omega))
   have bJ:=(World.cell?_of_block (w:=w) aH:wr.cell? ⟨g,j * 3,none⟩= _).trans aM;have bK:=(World.cell?_of_block (w:=w) aH:wr.cell? ⟨g,j * 3+1,none⟩= _).trans bi;have bL:=(World.cell?_of_block (w:=w) aH:wr.cell? ⟨g,j * 3+2,none⟩= _).trans aE;have z:=t' I;have aq:=t' bj;have co:=t' ap;clear aH aM bi aE I aF bj ap;obtain⟨O,aI⟩:∃O,O=wr.heap.size:=⟨_,rfl⟩;have cp:=t' aI;go_upto_region 4 with fail;rw[<-aI];refine C' (fun x=>x.heap[O]? =some (.cells #[.int .i64 f.s, .int .i64 f.q, .string f.b] 155 (0,0))/\O < x.heap.size/\hY' w x p e s logs) ?_ ?_
   ·rw[aI];exact⟨heap_alloc_new _ _,by simp,(i' z).below ((Below.refl _ _).alloc (Nat.le_refl _) _)⟩
   clear bJ bK bL aI z;rintro x ⟨u,bM,bk⟩;have r0:=m' (i:=0) u;have Y:=m' (i:=1) u;have Z:=m' (i:=2) u;simp at r0 Y Z;have aa:=t' u;have z:=t' bk;clear u bk;by_cases ab:f.q=0
   ·have bN:f=Mod.rc0:=by
     rcases aG with h|h
     ·exact h
     ·have:=h.2.1;omega
    have bl:=rb';have au:Hid (Mod.skLd (rs.take (j+1)) 0 (fun _=>[])=some logs):=by show _= _;rw[i' aq,if_pos ab]
    subst bN;unfold Mod.rc0 at r0 Y Z;simp only at r0 Y Z;clear aq ab aG;go_wp2;go_roundw
    case rel=>exact⟨j+1,by omega,by go_num,logs,i' au,i' z⟩
    case measure=>simp[intOf];omega
   ·have ac:f.fits:=by
     rcases aG with h|h
     ·rw[h]at ab;exact absurd rfl ab
     ·exact h
    have bl:=sJ' f.s f.q f.b ab;obtain⟨D,bm,bn,bo⟩:=ac;have s0:(0:Int)<=(f.s:Int):=by omega
    have cq:(f.s:Int) < 3:=by omega
    have aN:=t' (And.intro ab (And.intro bm (And.intro bn bo)));clear ab bm bn bo aG;go_upto_region 5 with fail;go_quiet (fail);go_upto_region 6 with fail;refine C' (fun y=>y.heap[O]? =some (.cells #[.int .i64 f.s, .int .i64 f.q, .string f.b] 155 (0,0))/\hY' w y p e s logs) ⟨i' aa,(i' z).below (below_drewN (Below.refl _ _) _)⟩ ?_;clear r0 Y Z aa z bl bM;rintro y ⟨u,I⟩;have Y:=m' (i:=1) u;have Z:=m' (i:=2) u;simp at Y Z;have bO:=lt_of_block u;have aa:=t' u;have z:=t' I;obtain⟨arr,lv,K,ad,N⟩:=I;obtain⟨X,ah,ai,av⟩:=K.logc D;have aO:=K.loglen D;have bP:(logs 0).length+(logs 1).length+(logs 2).length<=120:=K.cnt;have aj:=fun n=>t' (eo' (w:=y.drewN n) (K.far (ag' (fun _=>False) y n) (fun _ _ h=>h)));have ax:=fun n=>t' (dn' (y.drewN n) p (2+f.s * 3) _ ah X av (by omega));have Q:=t' (And.intro K (And.intro ad (And.intro N ai)));have aP:Mod.cnt logs=(logs 0).length+(logs 1).length+(logs 2).length:=rfl;clear K ad N ai av u;obtain⟨ay,aQ⟩:∃ay,ay=(logs 0).length+(logs 1).length+(logs 2).length:=⟨_,rfl⟩;obtain⟨az,au⟩:∃az,az=(logs f.s).length+1:=⟨_,rfl⟩;rw[<-aQ]at aj aP bP;rw[<-au]at ax;have aA:=t' (And.intro aP (And.intro au aQ));clear aP aQ au;unfold y' at aj;by_cases c1:j=ay
    ·have bQ:((j:Int) != (ay:Int))=false:=by simp[c1]
     by_cases c2:f.q=az
     ·have bR:((f.q:Int) != (az:Int))=false:=by simp[c2]
      have aR:=t' (And.intro c1 c2);clear c1 c2;go_quiet (first
       |(go_at_call 157;exact Calls.quiet_of_same (i' (aj _)))
       |(go_at_call 158;exact Calls.quiet_of_same (i' (ax _))))
      go_upto_region 8 with fail
      refine C' (fun ak=>ak.heap[O]? =some (.cells #[.int .i64 f.s, .int .i64 f.q, .string f.b] 155 (0,0))/\hY' w ak p e s logs) ⟨i' aa,(i' z).below (below_drewN (Below.refl _ _) _)⟩ ?_;clear Y Z aa z Q aj ax aO bO;rintro ak ⟨u,I⟩;obtain⟨arr,lv,K,ad,N⟩:=I;obtain⟨X,ah,ai,av⟩:=K.logc D;have aO:=K.loglen D;have cr:=lt_of_block u;have cs:=lt_of_block K.blk;have V:=K.lgs f.s D;have aJ:=K.lgs f.s D |>.ne K.blk (by decide);have bS:=K.lgs f.s D |>.ne u (by decide);have bT:=fun g r=>V.lt g r;have bU:¬O=p:=fun e=>by have h:=K.blk;rw[<-e,u]at h;injection h with h;injection h with _ h _;exact absurd h (by decide)
      obtain⟨F,aS⟩:∃F,F=(logs f.s).length:=⟨_,rfl⟩;rw[<-aS]at ai aO V av;have Q:=t' K;have bp:=t' (And.intro ad N);have aa:=t' u;have aK:=t' ai;have bV:=t' V;have bW:=t' aS;clear K ad N u ai V av aS;refine Q' (by kernel_rfl)
       [fun v _=>v= .pointer (some ⟨p,2+f.s * 3,none⟩),fun v _=>v= .pointer (some ⟨p,2+f.s * 3,none⟩),fun v _=>v= .pointer (some ⟨p,2+f.s * 3,none⟩),fun v _=>v= .pointer (some ⟨p,2+f.s * 3,none⟩),fun v _=>v= .slice X F ah,fun v _=>v= .pointer (some ⟨O,2,none⟩),fun v _=>v= .string f.b,vR' ak.heap.size f.b,vS' ak (lv f.s) (F+1) (aK' (logs f.s)++[.string f.b]),fun v _=>v= .pointer (some ⟨p,2+f.s * 3,none⟩),fun v _=>v= .pointer (some ⟨p,2+f.s * 3,none⟩),
        fun _ aT=>hY' w aT p e s (Mod.logAdd logs f.s f.b)]
       [[(7,none)],[(7,none)],[(36,some 1)],[(37,some 2)],[(38,some 3)],[(6,none)],[(40,some 5)],[(41,some 6)],[(39,some 4),(42,some 7)],[(35,some 0)],[(44,some 9)],[(45,some 10),(43,some 8)]] [some 35,some 36,some 37,some 38,some 39,some 40,some 41,some 42,some 43,some 44,some 45,none] [false,false,false,false,false,false,false,false,false,false,false,false,false,false,false,false,false,false,false,false,false,false,false,false,false,false,false,false,false,false,false,false,false,false,false,true,true,true,true,true,true,true,true,true,true,true,false]
       [(8,fun k=>(lv f.s).ownBlock=some k),(11,fun k=>k=p)]
       (by kernel_rfl) (by kernel_rfl) (by kernel_rfl) (by kernel_rfl) (by kernel_rfl) ?_ ?_ ?_ ?_
      ·repeat' (first|exact J' _|exact ps' _ _|exact pt' _ _ _ _|exact(fun _ _ _ h aB=>h.below aB)|exact trivial|apply And.intro)
      ·repeat' (first|exact trivial|exact .inl rfl|exact .inr (.inr (ak' _ _))|exact .inr (.inr (hX' (fun g r=>bT g r)))|exact .inr (.inr (hX' (fun g (r:g=p)=>by omega)))|exact .inr (.inr (nF' (fun g (r:g=p)=>⟨by omega,by rw[r];exact aJ⟩)))|exact .inr (.inl (show ar' _ 11 8=true by decide+kernel))|apply And.intro)
      ·refine⟨?_,?_,?_,?_,?_,?_,?_,?_,?_,?_,?_,?_,trivial⟩;all_goals
        intro a' J aB ac;have aU:=aB.size;have aL:=t' aB;clear aB;simp only[I',List.getD_cons_zero,List.getD_cons_succ,Array.getD_eq_getD_getElem?]at ac;try simp at ac
       iterate 4
        ·go_simp;exact⟨_,rfl,Far.refl _ _,rfl⟩
       ·have U:=(i' aL).blk (i' Q).blk (by
         rintro⟨q,G,g1,g2,M⟩;simp at G;rcases G with rfl|rfl
         ·exact aJ M
         ·exact absurd (show ar' _ 11 4=false from g2) (by decide+kernel))
        have bq:J.cell? ⟨p,2+f.s * 3,none⟩=some (.slice X F ah):=by rw[m' U,(i' Q).al f.s D,i' aK]
        clear U;go_simp;exact⟨_,rfl,Far.refl _ _,rfl⟩
       ·go_simp;exact⟨_,rfl,Far.refl _ _,rfl⟩
       ·have U:=(i' aL).blk (i' aa) (by
         rintro⟨q,G,g1,g2,M⟩;simp at G;rcases G with rfl|rfl
         ·exact bS M
         ·exact bU M)
        have bq:J.cell? ⟨O,2,none⟩=some (.string f.b):=m' (i:=2) U;clear U;go_simp;exact⟨_,rfl,Far.refl _ _,rfl⟩
       ·go_simp;exact⟨_,rfl,A' ((Below.refl _ _).alloc (Nat.le_refl _) _),_,rfl,aU,heap_alloc_new J _⟩
       ·have bX:=(i' bV).far (i' aL) (by
         rintro g r ⟨q,G,g1,g2,M⟩;simp at G;rcases G with rfl|rfl
         ·exact g1 rfl
         ·have M:g=p:=M;exact aJ (by rw[r,M]))
        obtain⟨g,r,cu,bY⟩:=ac.2;have bZ:ao' J 9 1 (.slice X F ah) F (aK' (logs f.s)):=by rw[<-i' aK];exact bX
        refine gz' rfl (.tmp 39) (.tmp 42) 45 rfl 9 _ 1 16 Tryz.underlying45 mX' rfl (.slice X F ah) F (aK' (logs f.s)) bZ (by simp[Act.eval,ac]) ⟨g,0,none⟩ 1 1 [.string f.b] (by simp[Act.eval,r]) rfl ?_ (by intro aT hu;simp at hu;subst hu;rfl) (by omega) (by omega) (by omega) ?_
        ·intro k aT br;rw[cE',m' bY,Nat.zero_add];simpa using br
        ·intro ca w' g1 g2;have aV:=g2.grown;rw[<-i' aK]at aV g2;exact⟨ca,rfl,ac' (.head _) (bl' aV),g1,gQ' aU g2,Nat.le_trans aU aV.size⟩
       ·go_simp;exact⟨_,rfl,Far.refl _ _,rfl⟩
       ·go_simp;exact⟨_,rfl,Far.refl _ _,rfl⟩
       ·have aW:Far (fun k=>(lv f.s).ownBlock=some k) ak J:=(i' aL).mono (by
         rintro k _ ⟨q,G,g1,g2,M⟩;simp at G;rcases G with rfl|rfl
         ·exact M
         ·exact absurd rfl g1)
        have U:=aW.blk (i' Q).blk aJ;have cv:J.frozen? ⟨p,2+f.s * 3,none⟩=false:=D' U;have bq:J.cell? ⟨p,2+f.s * 3,none⟩=some (.slice X F ah):=by rw[m' U,(i' Q).al f.s D,i' aK]
        obtain⟨cw,aX⟩:=ac;obtain⟨cb,cc,cd,_⟩:=aX.1.shape;have bt:=t' aX;have bu:=t' aW;clear aX U aW;rw[cd]at bt;go_simp;refine⟨ac' (.tail _ (.head _)) (O' J p (2+f.s * 3) _),?_⟩;obtain⟨ce,bw,_⟩:=i' bt;have bz:=(i' bp).1;have aY:=(i' bp).2;have cf:(logs 0).length+(logs 1).length+(logs 2).length < 120:=by have h1:=(i' aA).2.2;have h2:=(i' aR).1;omega
        have cg:=oE' (i' Q) f.s D f.b (.slice cb (F+1) cc) (i' bu) (by rw[<-i' bW,show aK' (logs f.s++[f.b])=aK' (logs f.s)++[.string f.b] by simp[aK']];exact ce) bw cf;have aZ:Far (fun k=>k=p) w J:=bz.trans (i' bu) (fun k br h=>absurd (aY f.s D k h) (by omega));refine⟨_,_,cg,aZ.trans (O' J p (2+f.s * 3) _) (fun _ _ h=>h),fun i hi g r=>?_⟩;split at r
        ·rcases bw with h3|h3|⟨k,h3,h4⟩
         ·rw[h3]at r;cases r
         ·rw[h3]at r;exact aY f.s D g r
         ·rw[h3]at r;cases r;have:=bz.size;omega
        ·exact aY i hi g r
      ·intro H z3 aZ bA;have bB:=bA.2.2.2.2.2.2.2.2.2.2.2.1;have ch:=t' bB;clear bB bA aZ;simp only[R'];generalize H 35=cx;generalize H 36=cy;generalize H 37=v37;generalize H 38=cz;generalize H 39=cA;generalize H 40=v40;generalize H 41=cB;generalize H 42=cC;generalize H 43=cD;generalize H 44=cE;generalize H 45=cF;go_wp2;go_roundw
       case rel=>refine⟨j+1,by omega,by go_num,_,?_,i' ch⟩;rw[i' aq,if_neg (i' aN).1,if_pos ⟨by rw[(i' aA).1];exact(i' aR).1,by rw[(i' aR).2];exact(i' aA).2.1⟩]
       case measure=>simp[intOf];omega
     ·have bR:((f.q:Int) != (az:Int))=true:=by simp;omega
      have aC:Hid (Mod.skLd rs 0 (fun _=>[])=none):=by refine t' (pu' (j:=j+1) ?_);rw[i' aq,if_neg (i' aN).1,if_neg (fun h=>c2 (by rw[h.2,(i' aA).2.1]))]
      clear c1 c2;go_quiet (first
       |(go_at_call 157;exact Calls.quiet_of_same (i' (aj _)))
       |(go_at_call 158;exact Calls.quiet_of_same (i' (ax _))))
      go_wp2;go_ret;refine⟨bt' (by rw[i' aC];rfl),(i' Q).2.1.trans (ag' (fun _=>False) y _) (fun _ _ h=>h.elim),fun l h=>?_⟩;rw[i' aC]at h;cases h
    ·have bQ:((j:Int) != (ay:Int))=true:=by simp;omega
     have aC:Hid (Mod.skLd rs 0 (fun _=>[])=none):=by refine t' (pu' (j:=j+1) ?_);rw[i' aq,if_neg (i' aN).1,if_neg (fun h=>c1 (by rw[h.1,(i' aA).1]))]
     clear c1;go_quiet (first
      |(go_at_call 157;exact Calls.quiet_of_same (i' (aj _)))
      |(go_at_call 158;exact Calls.quiet_of_same (i' (ax _))))
     go_wp2;go_ret;refine⟨bt' (by rw[i' aC];rfl),(i' Q).2.1.trans (ag' (fun _=>False) y _) (fun _ _ h=>h.elim),fun l h=>?_⟩;rw[i' aC]at h;cases h
  ·have bf:j=m:=by omega
   have bC:Mod.skLd rs 0 (fun _=>[])=some logs:=by rw[<-aF,List.take_of_length_le (by have:=i' bh;omega)]
   have bD:=t' bC;have z:=t' I;clear bC aF I bf;go_wp2;go_ret;refine⟨bt' (by rw[i' bD];rfl),?_,fun l h=>?_⟩
   ·obtain⟨_,_,_,ad,_⟩:=i' z;exact ad
   ·rw[i' bD]at h;cases h;exact i' z
theorem hY'.behind {w x y:World} {p e s:Nat} {logs:Nat->List ByteArray} (h:hY' x y p e s logs) (f:Below w.heap.size w x):hY' w y p e s logs:=by
 obtain⟨arr,lv,h1,h2,h3⟩:=h;exact⟨arr,lv,h1,(A' (E:=fun k=>k=p) f).trans h2 (fun _ _ h=>h),fun i hi g r=>Nat.le_trans f.size (h3 i hi g r)⟩
def cw' (L:List UInt8) (h:Mod.Hd) (at':Nat):Mod.Stv:=⟨h.o+1,1,1 - at',⟨Mod.openL L h at',0,false⟩⟩
theorem mF' (L:List UInt8) (h:Mod.Hd) (at':Nat):((⟨h.o+1,0,at',⟨L,0,false⟩⟩:Mod.Stv).putNumbers h.a h.b h.d).2=cw' L h at':=by
 unfold Mod.Stv.putNumbers Mod.Dk.put cw' Mod.openL Mod.sealH;simp[Mod.Stv.next]
theorem rM' {L:List UInt8} {last n:Nat} {rs:List Mod.Rc} (h:Mod.recsFrom L last 0 n=some rs):∀f∈rs,f=Mod.rc0\/f.fits:=by
 intro f r;obtain⟨h1,h2⟩:=Mod.recsFrom_some n 0 h;obtain⟨x,u,e⟩:=List.mem_iff_getElem.1 r;obtain⟨k1,k2⟩:=h2 x (by omega);rw[List.getElem?_eq_getElem u,e]at k2;cases k2;rcases Mod.recAt_ok k1 with ⟨_,z⟩|⟨_,_,_,_,_,_,D,_⟩
 ·exact .inl z
 ·exact .inr D
theorem uP' {w x:World} {p e s dp:Nat} {logs:Nat->List ByteArray} {dlv duv rv:Value} {st:Mod.Stv} (h:hY' w x p e s logs) (hs:cC' x s dp st dlv duv) (hl:st.dk.bytes.length=7808) (z:∀k,StU s dp dlv duv k->k≠p)
  {y:World} (D:y=x.setCell ⟨p,11,none⟩ rv) {R:Obj} (F:ao' (y.alloc R) 179 2 rv 2 (aY' p)):
  ∃c,aL' (y.alloc R) p e logs (fun _=>[]) st c/\(∀k,PkU p c k->k=p\/w.heap.size<=k\/StU s dp dlv duv k\/rv.ownBlock=some k):=by
 obtain⟨arr,lv,K,J,N⟩:=h;subst D;have G:=O' x p 11 rv;have r:Below (x.setCell ⟨p,11,none⟩ rv).heap.size (x.setCell ⟨p,11,none⟩ rv) ((x.setCell ⟨p,11,none⟩ rv).alloc R):=(Below.refl _ _).alloc (Nat.le_refl _) _;have u:Far (fun k=>k=p) x ((x.setCell ⟨p,11,none⟩ rv).alloc R):=G.trans (A' (E:=fun _=>False) r) (fun _ _ h=>h.elim);have f:∀j,j≠11->(arr.setIfInBounds 11 rv)[j]? =arr[j]? :=fun j hj=>Array.getElem?_setIfInBounds_ne (fun e=>hj e.symm);refine⟨⟨arr.setIfInBounds 11 rv,s,dp,lv,fun _=> .slice none 0 0,fun _=> .map none,rv,dlv,duv⟩,⟨⟨?_,by simpa using K.sz,?_,?_,?_,?_,?_,?_,?_,fun i hi=>fq' _,K.are,K.apl,K.aps,K.cnt,K.ep⟩,?_,F,hl⟩,?_⟩
 ·exact(r.block p (by simp;exact lt_of_block K.blk)).trans (af' K.blk)
 ·rw[f _ (by omega)];exact K.a0
 ·rw[f _ (by omega)];exact K.a1
 ·intro i hi;rw[f _ (by omega)];exact K.al i hi
 ·intro i hi;rw[f _ (by omega)];exact K.an i hi
 ·intro i hi;rw[f _ (by omega)];exact K.am i hi
 ·have:=K.sz;simp[this]
 ·intro i hi;exact(K.lgs i hi).far u (fun g H e=>(K.lgs i hi).ne K.blk (by decide) (by rw[H,e]))
 ·exact hs.far u (fun k I e=>z k I e)
 ·rintro k ((h|⟨i,hi,h⟩|⟨i,hi,h⟩)|h|h)
  ·exact .inl h
  ·exact .inr (.inl (N i hi k h))
  ·rcases h with h|h <;> cases h
  ·exact .inr (.inr (.inl h))
  ·exact .inr (.inr (.inr h))
end Go.Proofs.YtamafdcnbcoegaaGreat
