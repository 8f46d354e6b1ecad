/-
  Part 5 of a proof: D10, D11, D12, D13, D14, D15, D16, D17, Y7, Y8, Y9, Y10, Y11, T1, X12, X13, X14, X16, G4, G5, MonoCut, T2, U1, U2, F1.
-/
import Derived.Laws.Cover3
import Derived.Deep.RegionLaw
import Derived.Test.YtamafdcnbcoegabGreatCm4
set_option maxRecDepth 100000
set_option maxHeartbeats 40000000
namespace Go.Proofs.YtamafdcnbcoegabGreat
open Go.RowKit
theorem dU' (w:World) (s dp k:Nat) (S:List UInt8) (aa:S.length=64) (e:Int) (R Q:World->Prop) (E:Nat->Prop)
  (hs:∀y,Below w.heap.size w y\/R y->y.cell? ⟨s,0,none⟩=some (A' dp))
  (U:∀y,Below w.heap.size w y->Calls Tryz.prog 169 #[A' dp, .int .i64 k, .agg (bv S).toArray] y fun D w'=>D= .returned (.int .i64 e)/\R w'/\Far E y w')
  (ab:∀y r,R y->Below y.heap.size y r->R r)
  (V:∀y,R y->Calls Tryz.prog 170 #[A' dp] y fun D w'=>D= .returned (.tuple #[])/\Q w'):
  Calls Tryz.prog 123 #[A' s, .int .i64 k, .agg (bv S).toArray] w fun D w'=>D= .returned (.int .i64 e)/\Q w':=by
 unfold A' at *;have X:=y' hs;have ac:=y' U;have ad:=y' V;clear hs U V;go_enter Tryz.func123,Tryz.ntmps123;go_upto_region 1 with fail;refine H' (fun x=>x.heap[w.heap.size]? =some (.cells (bv S).toArray 214 (0,0))/\Below w.heap.size w x) ⟨heap_alloc_new w _,(Below.refl _ _).alloc (Nat.le_refl _) _⟩ ?_;rintro x ⟨h0,Y⟩;have ap:=lt_of_block h0;have ah:=y' h0;have I:=y' Y;clear h0 Y;refine Z' (by kernel_rfl)
  [fun v _=>v= .pointer (some ⟨s,0,none⟩),fun v _=>v= .pointer (some ⟨s,0,none⟩),fun v _=>v= .pointer (some ⟨s,0,none⟩),fun v _=>v= .pointer (some ⟨dp,0,none⟩),fun v _=>v= .int .i64 k,fun v _=>v= .agg (bv S).toArray,fun v y=>v= .int .i64 e/\R y,fun v _=>v= .int .i64 e]
  [[(0,none)],[(8,some 0)],[(9,some 1)],[(10,some 2)],[(1,none)],[(5,none)],[(11,some 3),(12,some 4),(13,some 5)],[(14,some 6)]] [some 8,some 9,some 10,some 11,some 12,some 13,some 14,some 7] [false,false,false,false,false,false,false,true,true,true,true,true,true,true,true,false,false,false,false,false,false]
  [(6,E)]
  (by kernel_rfl) (by kernel_rfl) (by kernel_rfl) (by kernel_rfl) (by kernel_rfl) ?_ ?_ ?_ ?_
 ·repeat' (first|exact O' _|exact(fun _ y r h F=>⟨h.1,ab y r h.2 F⟩)|exact trivial|apply And.intro)
 ·repeat' (first|exact trivial|exact .inl rfl|exact .inr (.inr (an' _ _))|apply And.intro)
 ·refine⟨?_,?_,?_,?_,?_,?_,?_,?_,trivial⟩;all_goals
   intro a r F G;simp only[M',List.getD_cons_zero,List.getD_cons_succ,Array.getD_eq_getD_getElem?]at G;try simp at G
  ·go_simp;exact⟨_,rfl,Far.refl _ _,rfl⟩
  ·go_simp;exact⟨_,rfl,Far.refl _ _,rfl⟩
  ·go_simp;exact⟨_,rfl,Far.refl _ _,rfl⟩
  ·have H:Below w.heap.size w r:=(i' I).trans ((F.below (B:=x.heap.size) (Nat.le_refl _) (by rintro j hj ⟨q,z,g1,g2,Z⟩;simp at z;subst z;exact absurd (show av' _ 6 3=false from g2) (by decide+kernel))).mono (i' I).size);have c0:=(i' X) r (.inl H);clear H;go_simp;exact⟨_,rfl,Far.refl _ _,rfl⟩
  ·go_simp;exact⟨_,rfl,Far.refl _ _,rfl⟩
  ·have ai:=F.blk (i' ah) (by rintro⟨q,z,g1,g2,Z⟩;simp at z;subst z;exact absurd (show av' _ 6 5=false from g2) (by decide+kernel));rw[if_pos (by rfl)];refine cw' (.tmp 5) rfl w.heap.size (by simp[Act.eval,G]) 214 S aa ai ?_;exact⟨_,rfl,Far.refl _ _,rfl⟩
  ·have H:Below w.heap.size w r:=(i' I).trans ((F.below (B:=x.heap.size) (Nat.le_refl _) (by rintro j hj ⟨q,z,g1,g2,Z⟩;simp at z;subst z;exact g1 rfl)).mono (i' I).size);have M:=y' ((i' ac) r H);clear H;go_simp;refine(i' M).mono ?_;rintro D aq ⟨rfl,aj,hF⟩;exact⟨_,rfl,aj' (.head _) hF,rfl,aj⟩
  ·obtain⟨G,_⟩:=G;go_simp;exact⟨_,rfl,Far.refl _ _,rfl⟩
 ·intro f r hF O;have J:=O.2.2.2.2.2.2.1;have ak:=O.2.2.2.2.2.2.2.1;have au:=y' J.2;have c0:=(i' X) r (.inr J.2);have M:=y' ((i' ad) r J.2);clear O hF J;simp only[Y',ak];generalize f 8=av;generalize f 9=ax;generalize f 10=ay;generalize f 11=az;generalize f 12=aA;generalize f 13=aB;generalize f 14=aC;go_simp;go_wp2_with (go_at_call 170;refine(i' M).mono ?_;rintro D u ⟨rfl,ao⟩);go_ret;exact⟨rfl,ao⟩
theorem el' {w:World} {dp s:Nat} {d:Mod.Dk} {lv z:Value} (r:eg' w dp d lv z) {c:Array Value} {t:TypeId} {fr:Nat×Nat} (hs:w.heap[s]? =some (.cells c t fr)) (h1:233≠t) (h2:5≠t) (h3:254≠t):¬DkU dp lv z s:=by
 rintro(h|h|h)
 ·subst h;have:=r.blk;rw[hs]at this;injection this with this;injection this with _ this _;exact h1 this.symm
 ·exact(as'.of_own r.row).ne hs h2 h
 ·exact r.un.ne hs h3 h
theorem fI' (w:World) (s dp:Nat) (lv F a b c:Value) (d:Mod.Dk) (k:Nat) (S:List UInt8) (O:S.length=64) (V:64 * k+64<=d.bytes.length)
  (hs:w.heap[s]? =some (.cells #[A' dp,a,b,c] 190 (0,0))) (r:eg' w dp d lv F):
  Calls Tryz.prog 123 #[A' s, .int .i64 k, .agg (bv S).toArray] w fun G w'=>G= .returned (.int .i64 (d.put k S).1)/\
   ∃M,eg' w' dp (d.put k S).2 lv M/\Loc w F M/\Far (DkU dp lv F) w w':=by
 have Y:=el' r hs (by decide) (by decide) (by decide);have ac:=r.lt;have c0:∀y,Far (DkU dp lv F) w y->y.cell? ⟨s,0,none⟩=some (A' dp):=fun y hF=>t' (i:=0) (hF.blk hs Y);by_cases hd:d.dead=true
 ·rw[Mod.Dk.put,if_pos hd];have z:=r.blk;rw[hd]at z;refine(dU' w s dp k S O 3 (fun y=>Below w.heap.size w y) (fun y=>Below w.heap.size w y) (fun _=>False) ?_ ?_ ?_ ?_).mono ?_
  ·rintro y (h|h)
   ·exact c0 y (C' h)
   ·exact c0 y (C' h)
  ·intro y D;refine(kO' y dp lv F d.armed k S ((D.block _ (lt_of_block z)).trans z)).mono ?_;rintro G I ⟨rfl,U⟩;exact⟨rfl,D.trans (U.mono D.size),C' U⟩
  ·exact fun y I h z=>h.trans (z.mono h.size)
  ·intro y D;refine(nh' y dp lv F d.armed ((D.block _ (lt_of_block z)).trans z)).mono ?_;rintro G I ⟨rfl,rfl⟩;exact⟨rfl,D⟩
  ·rintro G y ⟨rfl,D⟩;exact⟨rfl,F,r.far (C' (E:=fun _=>False) D) (fun _ _ h=>h), .inr (.inl rfl),C' D⟩
 ·have hd:d.dead=false:=by cases h:d.dead with|true=>exact absurd h hd|false=>rfl
  have z:=r.blk;rw[hd]at z;by_cases Q:d.armed=1
  ·rw[Mod.Dk.put,if_neg (by simp[hd]),if_pos Q];rw[Q]at z;refine(dU' w s dp k S O 4 (fun y=>y.heap[dp]? =some (.cells #[lv,F, .int .i64 1, .bool true] 233 (0,0))/\Far (fun j=>j=dp) w y) (fun y=>y.heap[dp]? =some (.cells #[lv,F, .int .i64 1, .bool true] 233 (0,0))/\Far (fun j=>j=dp) w y) (fun j=>j=dp) ?_ ?_ ?_ ?_).mono ?_
   ·rintro y (h|h)
    ·exact c0 y (C' h)
    ·exact c0 y (h.2.mono (fun _ _ e=> .inl e))
   ·intro y D;refine(kP' y dp lv F k S ((D.block _ (lt_of_block z)).trans z)).mono ?_;rintro G I ⟨rfl,U,hF⟩;exact⟨rfl,⟨U,(C' (E:=fun j=>j=dp) D).trans hF (fun _ _ h=>h)⟩,hF⟩
   ·exact fun y I h z=>⟨(z.block _ (lt_of_block h.1)).trans h.1,h.2.trans (C' (E:=fun _=>False) z) (fun _ _ h=>h.elim)⟩
   ·intro y D;refine(nh' y dp lv F 1 D.1).mono ?_;rintro G I ⟨rfl,rfl⟩;exact⟨rfl,D⟩
   ·rintro G y ⟨rfl,D,hF⟩;refine⟨rfl,F,⟨by rw[Q];exact D,ay' r.row (fun g H=>hF.rest g (World.ownsRow.lt r.row g H).2 (fun e=>(as'.of_own r.row).ne z (by decide) (by rw[H,e]))),r.un.far hF (fun g H e=>r.un.ne z (by decide) (by rw[H,e])),r.len,r.arm⟩, .inr (.inl rfl),hF.mono (fun _ _ e=> .inl e)⟩
  ·rw[Mod.Dk.put,if_neg (by simp[hd]),if_neg Q];have ad:=r.un.ne z (by decide);have Z:=(as'.of_own r.row).ne z (by decide);refine(dU' w s dp k S O 0 (fun y=>ws' w dp lv F (d.armed - 1:Nat) (.int .i64 k::bv S) y/\Far (fun j=>j=dp\/F.ownBlock=some j) w y)
    (fun y=>∃M,eg' y dp {bytes:=Mod.setSec d.bytes k S,armed:=d.armed - 1,dead:=false} lv M/\Loc w F M/\Far (DkU dp lv F) w y) (fun j=>j=dp\/F.ownBlock=some j) ?_ ?_ ?_ ?_).mono ?_
   ·rintro y (h|h)
    ·exact c0 y (C' h)
    ·exact c0 y (h.2.mono (fun _ _ e=>e.elim .inl (fun e=> .inr (.inr e))))
   ·intro y D;refine(oa' y dp lv F d.armed k S O Q r.arm ((D.block _ (lt_of_block z)).trans z) (r.un.keep (fun g H=>D.block g (r.un.lt g H)))).mono ?_;rintro G I ⟨rfl,⟨v,g1,g2,J,X⟩,hF⟩;exact⟨rfl,⟨⟨v,g1,g2,bH' J D.size,Nat.le_trans D.size X⟩,(C' (E:=fun j=>j=dp\/F.ownBlock=some j) D).trans hF (fun _ _ h=>h)⟩,hF⟩
   ·exact fun y I h z=>⟨jM' w dp lv F _ _ undef y I h.1 z,h.2.trans (C' (E:=fun _=>False) z) (fun _ _ h=>h.elim)⟩
   ·rintro y ⟨⟨v,g1,g2,J,X⟩,hF⟩;have aa:=ay' r.row (w':=y) (fun g H=>hF.rest g (World.ownsRow.lt r.row g H).2 (by
     rintro(e|e)
     ·exact Z (by rw[H,e])
     ·exact(as'.of_own r.row).ty r.un (by decide) H e))
    refine(uS' y dp lv v _ k S d.bytes O V r.len.2 g1 g2 aa).mono ?_;rintro G I ⟨rfl,M,k1,k2,k3,k4,k5⟩;refine⟨rfl,M,⟨k1,k4,k3,by rw[Mod.length_setSec O V];exact r.len,by have:=r.arm;show d.armed - 1<= _;omega⟩,?_,?_⟩
    ·rcases J with J|J|⟨g,J,ab⟩
     ·exact .inl (by rw[k2];exact J)
     ·exact .inr (.inl (by rw[k2];exact J))
     ·exact .inr (.inr ⟨g,by rw[k2];exact J,ab⟩)
    ·refine(hF.mono (fun _ _ e=>e.elim .inl (fun e=> .inr (.inr e)))).trans k5 (fun j _ e=>e.elim .inl (fun e=> .inr (.inl e)))
   ·rintro G y ⟨rfl,h⟩;exact⟨rfl,h⟩
structure cM' (w:World) (s dp:Nat) (st:Mod.Stv) (lv uv:Value):Prop where
 blk:w.heap[s]? =some (.cells #[A' dp, .int .u32 st.opening, .int .u64 st.count, .int .i64 st.head] 190 (0,0))
 dk:eg' w dp st.dk lv uv
 op:st.opening < 4294967296
 ct:st.count < 18446744073709551616
 hd:st.head<=1
def StU (s dp:Nat) (lv r:Value) (k:Nat):Prop:=k=s\/DkU dp lv r k
theorem cM'.sep {w:World} {s dp:Nat} {st:Mod.Stv} {lv r:Value} (h:cM' w s dp st lv r):¬DkU dp lv r s:=el' h.dk h.blk (by decide) (by decide) (by decide)
theorem cM'.far {E:Nat->Prop} {w x:World} {s dp:Nat} {st:Mod.Stv} {lv r:Value} (h:cM' w s dp st lv r) (z:Far E w x) (D:∀k,StU s dp lv r k->¬E k):cM' x s dp st lv r:=
 ⟨z.blk h.blk (D s (.inl rfl)),h.dk.far z (fun k F=>D k (.inr F)),h.op,h.ct,h.hd⟩
theorem cM'.lt {w:World} {s dp:Nat} {st:Mod.Stv} {lv r:Value} (h:cM' w s dp st lv r):∀k,StU s dp lv r k->k < w.heap.size:=by
 rintro k (rfl|z)
 ·exact lt_of_block h.blk
 ·exact h.dk.lt k z
theorem cm' (w:World) (s dp:Nat) (st:Mod.Stv) (lv D:Value) (H:cM' w s dp st lv D) (a b d:Nat) (aA:a < 4294967296) (z:b < 4294967296) (hd:d < 4294967296):
  Calls Tryz.prog 114 #[A' s, .agg #[.int .i64 a, .int .i64 b, .int .i64 d]] w fun ac w'=>ac= .returned (.int .i64 (st.putNumbers a b d).1)/\
   ∃I,cM' w' s dp (st.putNumbers a b d).2 lv I/\Loc w D I/\Far (StU s dp lv D) w w':=by
 have ak:=lt_of_block H.blk;have ao:st.next < 18446744073709551616:=Nat.mod_lt _ (by omega)
 have aW:=H.dk.len;have X:64 * (1 - st.head)+64<=st.dk.bytes.length:=by omega
 have ap:=Mod.length_sealB st.opening st.next (inside:=Mod.headIn a b d) (by rw[Mod.length_headIn];omega)
 have aX:=H.hd;have O:=y' H;unfold A' at *;go_enter Tryz.func114,Tryz.ntmps114;have Q:=fun r=>(heap_alloc_old w r ak).trans H.blk;have c1:∀r,(w.alloc r).cell? ⟨s,3,none⟩=some (.int .i64 st.head):=fun r=>t' (i:=3) (Q r);have c2:∀r,(w.alloc r).cell? ⟨s,2,none⟩=some (.int .u64 st.count):=fun r=>t' (i:=2) (Q r);have aB:w.cell? ⟨s,3,none⟩=some (.int .i64 st.head):=t' (i:=3) H.blk;have aC:w.cell? ⟨s,2,none⟩=some (.int .u64 st.count):=t' (i:=2) H.blk;have aD:∀r,(w.alloc r).frozen? ⟨s,3,none⟩=false:=fun r=>I' (i:=3) (Q r);have aE:∀r,(w.alloc r).frozen? ⟨s,2,none⟩=false:=fun r=>I' (i:=2) (Q r);have g1:w.frozen? ⟨s,3,none⟩=false:=I' (i:=3) H.blk;have g2:w.frozen? ⟨s,2,none⟩=false:=I' (i:=2) H.blk;clear H Q;have aF:IntKind.i64.wrap (1 - (st.head:Int))=1 - (st.head:Int):=by rw[IntKind.wrap_i64];omega
 go_upto_region 3 with fail
 have aq:IntKind.u64.wrap ((st.count:Int)+1)=((st.next:Nat):Int):=by rw[IntKind.wrap_u64,Mod.Stv.next];omega
 have au:1 - (st.head:Int)=((1 - st.head:Nat):Int):=by omega
 refine H' (fun x=>x.heap[s]? =some (.cells #[.pointer (some ⟨dp,0,none⟩), .int .u32 st.opening, .int .u64 st.next, .int .i64 (1 - st.head:Nat)] 190 (0,0))/\x.heap[w.heap.size]? =some (.cells #[.int .i64 a, .int .i64 b, .int .i64 d] 100 (0,0))/\eg' x dp st.dk lv D/\Far (fun k=>k=s) w x/\w.heap.size < x.heap.size) ?_ ?_
 ·rw[aq,au];have hF:Far (fun k=>k=s) w (((w.setCell ⟨s,3,none⟩ (.int .i64 (1 - st.head:Nat))).setCell ⟨s,2,none⟩ (.int .u64 st.next)).alloc (.cells #[.int .i64 a, .int .i64 b, .int .i64 d] 100)):=
   ((S' w s 3 _).trans (S' _ s 2 _) (fun _ _ h=>h)).trans (C' ((Below.refl _ _).alloc (Nat.le_refl _) _)) (fun _ _ h=>h)
  refine⟨?_,?_,(i' O).dk.far hF (fun k X e=>(i' O).sep (by rw[<-e];exact X)),hF,by simp⟩
  ·rw[hao _ _ (by simp;exact ak)];have h1:=ah' (j:=3) (v:= .int .i64 (1 - st.head:Nat)) (i' O).blk;have h2:=ah' (j:=2) (v:= .int .u64 st.next) h1;simpa[A']using h2
  ·have:=heap_alloc_new ((w.setCell ⟨s,3,none⟩ (.int .i64 (1 - st.head:Nat))).setCell ⟨s,2,none⟩ (.int .u64 st.next)) (.cells #[.int .i64 a, .int .i64 b, .int .i64 d] 100);simpa using this
 rintro x ⟨h0,h1,J,hF,aY⟩;have aZ:=lt_of_block h0;have av:¬DkU dp lv D s:=el' J h0 (by decide) (by decide) (by decide);have aG:¬DkU dp lv D w.heap.size:=el' J h1 (by decide) (by decide) (by decide);have ba:=J.lt;obtain⟨M,Y⟩:∃M,M=Mod.sealB st.opening st.next (Mod.headIn a b d):=⟨_,rfl⟩
 rw[<-Y]at ap;have ad:=fun y (z:y.heap[s]? = _) (J:eg' y dp st.dk lv D)=>y' (fI' y s dp lv D (.int .u32 st.opening) (.int .u64 st.next) (.int .i64 (1 - st.head:Nat)) st.dk (1 - st.head) M ap X z J);have ax:=fun y=>y' (hX' st.opening st.next a b d y (i' O).op ao aA z hd);rw[<-Y]at ax;obtain⟨U,ah⟩:∃U,U=(st.dk.put (1 - st.head) M).1:=⟨_,rfl⟩;obtain⟨Z,ai⟩:∃Z,Z=(st.dk.put (1 - st.head) M).2:=⟨_,rfl⟩;rw[<-ah,<-ai]at ad;have aH:=y' (And.intro Y (And.intro ah ai));have ay:=y' h0;have aI:=y' h1;have aJ:=y' J;have aK:=y' hF;clear Y ah ai h0 h1 J hF c1 c2 aB aC aD aE g1 g2 aF aq au;unfold A' at ad;refine Z' (by kernel_rfl)
  [fun v _=>v= .pointer (some ⟨s,0,none⟩),fun v _=>v= .pointer (some ⟨s,0,none⟩),fun v _=>v= .pointer (some ⟨s,0,none⟩),fun v _=>v= .pointer (some ⟨s,3,none⟩),fun v _=>v= .int .i64 (1 - st.head:Nat),
   fun v _=>v= .pointer (some ⟨s,0,none⟩),fun v _=>v= .pointer (some ⟨s,0,none⟩),fun v _=>v= .pointer (some ⟨s,1,none⟩),fun v _=>v= .agg #[.int .u32 st.opening, .int .u64 st.next],fun v _=>v= .agg #[.int .i64 a, .int .i64 b, .int .i64 d],
   fun v _=>v= .agg #[.int .u32 st.opening, .int .u64 st.next, .int .i64 a, .int .i64 b, .int .i64 d],fun v _=>v= .agg (bv M).toArray,fun v y=>v= .int .i64 U/\∃I,eg' y dp Z lv I/\Loc x D I,fun v _=>v= .int .i64 U]
  [[(0,none)],[(0,none)],[(23,some 1)],[(24,some 2)],[(25,some 3)],[(0,none)],[(27,some 5)],[(28,some 6)],[(29,some 7)],[(3,none)],[(30,some 8),(31,some 9)],[(32,some 10)],[(22,some 0),(26,some 4),(33,some 11)],[(34,some 12)]] [some 22,some 23,some 24,some 25,some 26,some 27,some 28,some 29,some 30,some 31,some 32,some 33,some 34,some 4] [false,false,false,false,true,false,false,false,false,false,false,false,false,false,false,false,false,false,false,false,false,false,true,true,true,true,true,true,true,true,true,true,true,true,true]
  [(12,DkU dp lv D)]
  (by kernel_rfl) (by kernel_rfl) (by kernel_rfl) (by kernel_rfl) (by kernel_rfl) ?_ ?_ ?_ ?_
 ·repeat' (first|exact O' _|exact(fun _ y F h z=>⟨h.1,h.2.imp fun I h=>⟨h.1.far (C' (E:=fun _=>False) z) (fun _ _ h=>h),h.2⟩⟩)|exact trivial|apply And.intro)
 ·repeat' (first|exact trivial|exact .inl rfl|exact .inr (.inr (an' _ _))|apply And.intro)
 ·refine⟨?_,?_,?_,?_,?_,?_,?_,?_,?_,?_,?_,?_,?_,?_,trivial⟩;all_goals
   intro a' F z aa;have z0:=z.blk (i' ay) (ae' (by intro q G;simp at G;subst G;exact av));have ab:=z.blk (i' aI) (ae' (by intro q G;simp at G;subst G;exact aG));have bb:F.cell? ⟨s,1,none⟩=some (.int .u32 st.opening):=t' (i:=1) z0;have bc:F.cell? ⟨s,2,none⟩=some (.int .u64 st.next):=t' (i:=2) z0;have be:F.cell? ⟨s,3,none⟩=some (.int .i64 (1 - st.head:Nat)):=t' (i:=3) z0;have bf:F.cell? ⟨w.heap.size,0,none⟩=some (.int .i64 a):=t' (i:=0) ab;have bg:F.cell? ⟨w.heap.size,1,none⟩=some (.int .i64 b):=t' (i:=1) ab;have bh:F.cell? ⟨w.heap.size,2,none⟩=some (.int .i64 d):=t' (i:=2) ab;have aL:=y' z0;clear z0 ab;simp only[M',List.getD_cons_zero,List.getD_cons_succ,Array.getD_eq_getD_getElem?]at aa;try simp at aa
  iterate 11
   ·clear z;go_simp;exact⟨_,rfl,Far.refl _ _,rfl⟩
  ·clear z;go_simp;refine(i' (ax F)).mono ?_;rintro ac aM ⟨rfl,aN⟩;exact⟨_,rfl,C' aN,rfl⟩
  ·have az:=(i' aJ).far z (by rintro k X ⟨q,G,g1,g2,bi⟩;simp at G;subst G;exact g1 rfl);have aO:=y' (i' (ad F (i' aL) az));have aP:=z.size;clear z az;go_simp;refine(i' aO).mono ?_;rintro ac aM ⟨rfl,I,k1,k2,k3⟩;exact⟨_,rfl,aj' (.head _) k3,rfl,I,k1,bH' k2 aP⟩
  ·clear z;obtain⟨aa,_⟩:=aa;go_simp;exact⟨_,rfl,Far.refl _ _,rfl⟩
 ·intro f F V aj;obtain⟨_,I,k1,k2⟩:=aj.2.2.2.2.2.2.2.2.2.2.2.2.1;have aQ:=aj.2.2.2.2.2.2.2.2.2.2.2.2.2.1;have V:Far (DkU dp lv D) x F:=V.mono (fun b _ h=>by obtain⟨q,G,h⟩:=h;simp at G;subst G;exact h);have z0:=V.blk (i' ay) av;have aR:=y' (And.intro k1 (And.intro k2 (And.intro V z0)));clear aj k1 k2 V z0;simp only[Y',aQ];generalize f 22=bj;generalize f 23=bk;generalize f 24=bl;generalize f 25=bm;generalize f 26=bn;generalize f 27=bo;generalize f 28=bp;generalize f 29=bq;generalize f 30=br;generalize f 31=bt;generalize f 32=bu;generalize f 33=bw;generalize f 34=bz;go_simp;go_wp2;go_ret;obtain⟨k1,k2,k3,k4⟩:=i' aR;obtain⟨aS,aT,aU⟩:=i' aH;have aV:st.putNumbers a b d=(U,{st with head:=1 - st.head,count:=st.next,dk:=Z}):=by unfold Mod.Stv.putNumbers;rw[<-aS,<-aT,<-aU]
  rw[aV];exact⟨rfl,I,⟨k4,k1,(i' O).op,ao,by show 1 - st.head<=1;omega⟩,bH' k2 (by omega),((i' aK).mono (fun _ _ e=> .inl e)).trans k3 (fun _ _ e=> .inr e)⟩
theorem ds' (w:World) (s dp:Nat) (st:Mod.Stv) (lv F:Value) (J:cM' w s dp st lv F) (z sm q:Nat) (body:ByteArray) (aC:64 * (2+z)+64<=st.dk.bytes.length) (aD:sm < 256) (D:q < 4294967296) (aE:body.size<=20):
  Calls Tryz.prog 80 #[A' s, .int .i64 z, .agg #[.int .i64 sm, .int .i64 q, .string body]] w fun ad w'=>ad= .returned (.int .i64 (st.putRecord z sm q body.data.toList).1)/\
   ∃G,cM' w' s dp (st.putRecord z sm q body.data.toList).2 lv G/\Loc w F G/\Far (StU s dp lv F) w w':=by
 have ao:=lt_of_block J.blk;have ap:st.next < 18446744073709551616:=Nat.mod_lt _ (by omega)
 have ba:=J.dk.len;have aq:=Mod.length_sealB st.opening st.next (inside:=Mod.recIn sm q body.data.toList) (by rw[Mod.length_recIn];simp;omega)
 have aF:=J.hd;have Q:=y' J;unfold A' at *;go_enter Tryz.func80,Tryz.ntmps80;have ah:=fun I=>(heap_alloc_old w I ao).trans J.blk;have c2:∀I,(w.alloc I).cell? ⟨s,2,none⟩=some (.int .u64 st.count):=fun I=>t' (i:=2) (ah I);have aG:w.cell? ⟨s,2,none⟩=some (.int .u64 st.count):=t' (i:=2) J.blk;have aH:∀I,(w.alloc I).frozen? ⟨s,2,none⟩=false:=fun I=>I' (i:=2) (ah I);have g2:w.frozen? ⟨s,2,none⟩=false:=I' (i:=2) J.blk;clear J ah;have aI:IntKind.i64.wrap (2+(z:Int))=2+(z:Int):=by rw[IntKind.wrap_i64];omega
 go_upto_region 2 with fail
 have au:IntKind.u64.wrap ((st.count:Int)+1)=((st.next:Nat):Int):=by rw[IntKind.wrap_u64,Mod.Stv.next];omega
 refine H' (fun x=>x.heap[s]? =some (.cells #[.pointer (some ⟨dp,0,none⟩), .int .u32 st.opening, .int .u64 st.next, .int .i64 st.head] 190 (0,0))/\x.heap[w.heap.size]? =some (.cells #[.int .i64 sm, .int .i64 q, .string body] 150 (0,0))/\eg' x dp st.dk lv F/\Far (fun k=>k=s) w x/\w.heap.size < x.heap.size) ?_ ?_
 ·rw[au];have hF:Far (fun k=>k=s) w ((w.setCell ⟨s,2,none⟩ (.int .u64 st.next)).alloc (.cells #[.int .i64 sm, .int .i64 q, .string body] 150)):=
   (S' w s 2 _).trans (C' ((Below.refl _ _).alloc (Nat.le_refl _) _)) (fun _ _ h=>h)
  refine⟨?_,?_,(i' Q).dk.far hF (fun k av e=>(i' Q).sep (by rw[<-e];exact av)),hF,by simp⟩
  ·rw[hao _ _ (by simp;exact ao)];have h2:=ah' (j:=2) (v:= .int .u64 st.next) (i' Q).blk;simpa[A']using h2
  ·have:=heap_alloc_new (w.setCell ⟨s,2,none⟩ (.int .u64 st.next)) (.cells #[.int .i64 sm, .int .i64 q, .string body] 150);simpa using this
 rintro x ⟨h0,h1,M,hF,bb⟩;have bc:=lt_of_block h0;have ax:¬DkU dp lv F s:=el' M h0 (by decide) (by decide) (by decide);have aJ:¬DkU dp lv F w.heap.size:=el' M h1 (by decide) (by decide) (by decide);obtain⟨O,X⟩:∃O,O=Mod.sealB st.opening st.next (Mod.recIn sm q body.data.toList):=⟨_,rfl⟩
 rw[<-X]at aq;have Y:=fun y (r:y.heap[s]? = _) (M:eg' y dp st.dk lv F)=>y' (fI' y s dp lv F (.int .u32 st.opening) (.int .u64 st.next) (.int .i64 st.head) st.dk (2+z) O aq aC r M);have ay:=fun y=>y' (fy' st.opening st.next sm q body y (i' Q).op ap aD D aE);rw[<-X]at ay;obtain⟨U,ai⟩:∃U,U=(st.dk.put (2+z) O).1:=⟨_,rfl⟩;obtain⟨Z,aj⟩:∃Z,Z=(st.dk.put (2+z) O).2:=⟨_,rfl⟩;rw[<-ai,<-aj]at Y;have aK:=y' (And.intro X (And.intro ai aj));have az:=y' h0;have aL:=y' h1;have aM:=y' M;have aN:=y' hF;obtain⟨aa,aA⟩:∃aa,aa=2+z:=⟨_,rfl⟩;rw[<-aA]at Y;have aO:2+(z:Int)=(aa:Int):=by omega
 rw[aO]at aI;clear aA;clear X ai aj h0 h1 M hF c2 aG aH g2 au;unfold A' at Y;refine Z' (by kernel_rfl)
  [fun v _=>v= .pointer (some ⟨s,0,none⟩),fun v _=>v= .int .i64 z,fun v _=>v= .int .i64 aa,fun v _=>v= .pointer (some ⟨s,0,none⟩),fun v _=>v= .pointer (some ⟨s,0,none⟩),fun v _=>v= .pointer (some ⟨s,1,none⟩),fun v _=>v= .agg #[.int .u32 st.opening, .int .u64 st.next],fun v _=>v= .agg #[.int .i64 sm, .int .i64 q, .string body],
   fun v _=>v= .agg (bv O).toArray,fun v y=>v= .int .i64 U/\∃G,eg' y dp Z lv G/\Loc x F G,fun v _=>v= .int .i64 U]
  [[(0,none)],[(1,none)],[(17,some 1)],[(0,none)],[(19,some 3)],[(20,some 4)],[(21,some 5)],[(5,none)],[(22,some 6),(23,some 7)],[(16,some 0),(18,some 2),(24,some 8)],[(25,some 9)]] [some 16,some 17,some 18,some 19,some 20,some 21,some 22,some 23,some 24,some 25,some 6] [false,false,false,false,false,false,true,false,false,false,false,false,false,false,false,false,true,true,true,true,true,true,true,true,true,true]
  [(9,DkU dp lv F)]
  (by kernel_rfl) (by kernel_rfl) (by kernel_rfl) (by kernel_rfl) (by kernel_rfl) ?_ ?_ ?_ ?_
 ·repeat' (first|exact O' _|exact(fun _ y H h r=>⟨h.1,h.2.imp fun G h=>⟨h.1.far (C' (E:=fun _=>False) r) (fun _ _ h=>h),h.2⟩⟩)|exact trivial|apply And.intro)
 ·repeat' (first|exact trivial|exact .inl rfl|exact .inr (.inr (an' _ _))|apply And.intro)
 ·refine⟨?_,?_,?_,?_,?_,?_,?_,?_,?_,?_,?_,trivial⟩;all_goals
   intro a' H r ab;have z0:=r.blk (i' az) (ae' (by intro q D;simp at D;subst D;exact ax));have ac:=r.blk (i' aL) (ae' (by intro q D;simp at D;subst D;exact aJ));have be:H.cell? ⟨s,1,none⟩=some (.int .u32 st.opening):=t' (i:=1) z0;have bf:H.cell? ⟨s,2,none⟩=some (.int .u64 st.next):=t' (i:=2) z0;have bg:H.cell? ⟨w.heap.size,0,none⟩=some (.int .i64 sm):=t' (i:=0) ac;have bh:H.cell? ⟨w.heap.size,1,none⟩=some (.int .i64 q):=t' (i:=1) ac;have bi:H.cell? ⟨w.heap.size,2,none⟩=some (.string body):=t' (i:=2) ac;have aP:=y' z0;clear z0 ac;simp only[M',List.getD_cons_zero,List.getD_cons_succ,Array.getD_eq_getD_getElem?]at ab;try simp at ab
  iterate 2
   ·clear r;go_simp;exact⟨_,rfl,Far.refl _ _,rfl⟩
  ·clear r;go_simp;exact⟨_,rfl,Far.refl _ _,rfl⟩
  iterate 5
   ·clear r;go_simp;exact⟨_,rfl,Far.refl _ _,rfl⟩
  ·clear r;go_simp;refine(i' (ay H)).mono ?_;rintro ad aQ ⟨rfl,aR⟩;exact⟨_,rfl,C' aR,rfl⟩
  ·have aB:=(i' aM).far r (by rintro k av ⟨q,D,g1,g2,bj⟩;simp at D;subst D;exact g1 rfl);have aS:=y' (i' (Y H (i' aP) aB));have aT:=r.size;clear r aB;go_simp;refine(i' aS).mono ?_;rintro ad aQ ⟨rfl,G,k1,k2,k3⟩;exact⟨_,rfl,aj' (.head _) k3,rfl,G,k1,bH' k2 aT⟩
  ·clear r;obtain⟨ab,_⟩:=ab;go_simp;exact⟨_,rfl,Far.refl _ _,rfl⟩
 ·intro f H V ak;obtain⟨_,G,k1,k2⟩:=ak.2.2.2.2.2.2.2.2.2.1;have aU:=ak.2.2.2.2.2.2.2.2.2.2.1;have V:Far (DkU dp lv F) x H:=V.mono (fun b _ h=>by obtain⟨q,D,h⟩:=h;simp at D;subst D;exact h);have z0:=V.blk (i' az) ax;have aV:=y' (And.intro k1 (And.intro k2 (And.intro V z0)));clear ak k1 k2 V z0;simp only[Y',aU];generalize f 16=bk;generalize f 17=bl;generalize f 18=bm;generalize f 19=bn;generalize f 20=bo;generalize f 21=bp;generalize f 22=bq;generalize f 23=br;generalize f 24=bt;generalize f 25=bu;go_simp;go_wp2;go_ret;obtain⟨k1,k2,k3,k4⟩:=i' aV;obtain⟨aW,aX,aY⟩:=i' aK;have aZ:st.putRecord z sm q body.data.toList=(U,{st with count:=st.next,dk:=Z}):=by unfold Mod.Stv.putRecord;rw[<-aW,<-aX,<-aY]
  rw[aZ];exact⟨rfl,G,⟨k4,k1,(i' Q).op,ap,aF⟩,bH' k2 (by omega),((i' aN).mono (fun _ _ e=> .inl e)).trans k3 (fun _ _ e=> .inr e)⟩
theorem ai' {w:World} {s dp:Nat} {st:Mod.Stv} {lv F:Value} (z:cM' w s dp st lv F):
  Calls Tryz.prog 66 #[A' s] w fun r w'=>r= .returned (.bool st.dk.dead)/\w'=w:=by
 have c0:w.cell? ⟨s,0,none⟩=some (A' dp):=t' (i:=0) z.blk;have c3:w.cell? ⟨dp,3,none⟩=some (.bool st.dk.dead):=t' (i:=3) z.dk.blk;unfold A' at *;clear z;have D:∀y:World,y=w->Calls Tryz.prog 102 #[.pointer (some ⟨dp,0,none⟩)] y fun r w'=>r= .returned (.bool st.dk.dead)/\w'=w:=by rintro y rfl;clear c0;go_enter Tryz.func102,Tryz.ntmps102;go_wp2;go_ret;exact⟨rfl,rfl⟩
 have D:=y' D;clear c3;go_enter Tryz.func66,Tryz.ntmps66;go_wp2_with (go_at_call 102;refine((i' D) _ rfl).mono ?_;rintro r y ⟨rfl,rfl⟩);go_ret;exact⟨rfl,rfl⟩
theorem jc' {w:World} {s dp:Nat} {st:Mod.Stv} {lv z:Value} (r:cM' w s dp st lv z):
  Calls Tryz.prog 84 #[A' s] w fun D w'=>D= .returned (.int .i64 st.opening)/\w'=w:=by
 have c0:w.cell? ⟨s,1,none⟩=some (.int .u32 st.opening):=t' (i:=1) r.blk;have F:IntKind.i64.wrap (st.opening:Int)=(st.opening:Int):=by have:=r.op;rw[IntKind.wrap_i64];omega
 unfold A' at *;clear r;go_enter Tryz.func84,Tryz.ntmps84;go_wp2;go_ret;exact⟨by simp,rfl⟩
theorem tL' (w:World):(isAgg 214).run Tryz.prog w= .ok true w:=by
 simp[isAgg,run_underlying Tryz.underlying214]
theorem gX' {z:Array Oper} {rest:List Oper} {o:Oper} {a:Act} {w:World} {D:Exit->Act->World->Prop} (F:o.guard=none) (x:Operand) (G:o.op= .load 214 x)
  (r:Addr) (H:a.eval x= .pointer (some r)) (S:List UInt8) (I:S.length=64) (J:∀j v,(bv S)[j]? =some v->w.cell? (r.add j)=some v)
  (h:wpList Tryz.prog z D rest (a.put o.dst (.agg (bv S).toArray)) w):wpList Tryz.prog z D (o::rest) a w:=by
 refine wpList_plain F fun K hK=>?_;unfold Oper.wp execOp;simp only[G,H,Instr.loadAt,Instr.sureAddr,Sem.run_bind,Sem.run_pure,Result.andThen_ok,dT' w r 214 (bv S) J (tL' w) (by rw[iX',ap',I])];exact hK _ _ h
theorem ig' (w:World) (v:Value) (L:List UInt8) (k:Nat) (U:ab' w v L) (G:64 * k+64<=L.length) (V:L.length<=10000):
  Calls Tryz.prog 160 #[v, .int .i64 k] w fun X w'=>X= .returned (.agg (bv ((L.drop (k * 64)).take 64)).toArray)/\Below w.heap.size w w':=by
 obtain⟨ac,cap,rfl,h1,h2,h3⟩:=U;obtain⟨b,off,rfl,z⟩:=h3 (by omega);obtain⟨n,D⟩:∃n,n=L.length:=⟨_,rfl⟩;rw[<-D]at G V h1 h2 z ⊢;have r:((L.drop (k * 64)).take 64).length=64:=by rw[List.length_take,List.length_drop,<-D];omega
 have F:∀j v,(bv ((L.drop (k * 64)).take 64))[j]? =some v->w.cell? ⟨b,off+k * 64+j,none⟩=some v:=by
  intro j v hj;have H:j < 64:=by have:=(List.getElem?_eq_some_iff.1 hj).1;rw[ap',r]at this;exact this
  rw[iW' (by rw[r];exact H)]at hj;cases hj;have:=z (k * 64+j) (by omega);rw[<-Nat.add_assoc]at this;rw[this];simp[List.getD_eq_getElem?_getD,H,List.getElem?_drop]
 obtain⟨S,I⟩:∃S,S=(L.drop (k * 64)).take 64:=⟨_,rfl⟩;rw[<-I]at r F ⊢;have J:=y' F;clear F z I D;have i0:(0:Int)<=(k:Int) * 64:=by omega
 have ad:(k:Int) * 64<=(k:Int) * 64+64:=by omega
 have i2:(k:Int) * 64+64<=(n:Int):=by omega
 have i3:(k:Int) * 64+64<=(cap:Int):=by omega
 have ah:((k:Int) * 64).toNat=k * 64:=by omega
 have ai:((k:Int) * 64+64).toNat=k * 64+64:=by omega
 have aj:IntKind.i64.wrap ((k:Int) * 64)=(k:Int) * 64:=by rw[IntKind.wrap_i64];omega
 have ak:IntKind.i64.wrap ((k:Int)+1)=(k:Int)+1:=by rw[IntKind.wrap_i64];omega
 have ao:IntKind.i64.wrap (((k:Int)+1) * 64)=(k:Int) * 64+64:=by rw[IntKind.wrap_i64];omega
 have ap:¬cap=k * 64:=by omega
 have aq:∀y:World,(Instr.arrayAt 214 (.slice (some ⟨b,off+k * 64,none⟩) 64 (cap - k * 64))).run Tryz.prog y= .ok (.pointer (some ⟨b,off+k * 64,none⟩)) y:=fun y=>by simp[Instr.arrayAt,run_underlying Tryz.underlying214]
 go_enter Tryz.func160,Tryz.ntmps160;go_upto_region 1 with fail;refine H' (fun x=>x.heap[w.heap.size]? =some (.cells (bv aS').toArray 214 (0,0))/\(∀j v,(bv S)[j]? =some v->x.cell? ⟨b,off+k * 64+j,none⟩=some v)/\Below w.heap.size w x) ?_ ?_
 ·refine⟨fx' (heap_alloc_new _ _) (by kernel_rfl),fun j v hj=>?_,(Below.refl _ _).alloc (Nat.le_refl _) _⟩;have h:=(i' J) j v hj;exact(World.cell?_alloc_lt w _ ⟨b,off+k * 64+j,none⟩ (World.block_lt_of_cell? _ _ h)).trans h
 rintro x ⟨h0,M,O⟩;have Y:=y' h0;have Z:=y' M;have Q:=y' O;have au:=lt_of_block h0;clear h0 M O J;go_wp2_with (first
  |(refine gX' rfl (.tmp 12) rfl ⟨b,off+k * 64,none⟩ rfl S r (by intro j v hj;rw[cO'];exact(i' Z) j v hj) ?_)
  |(refine cW' rfl (.tmp 4) (.tmp 13) rfl w.heap.size rfl S r rfl 214 _ (by simp[ap',az']) (i' Y) ?_;intro z4 aa ab;go_simp))
 exact bodyPost_ret (ej' Tryz.results160 _ _ w.heap.size _ _ r rfl aa) rfl ⟨rfl,(i' Q).trans (ab.below (i' Q).size (fun k G e=>by omega))⟩
theorem kW':Tryz.prog.built 214 []=some (bv aS').toArray:=by kernel_rfl
theorem cb' {r:Array Oper} {rest:List Oper} {o:Oper} {a:Act} {w:World} {z:Exit->Act->World->Prop} (D:o.guard=none) (F:o.op= .build 214 #[])
  (h:wpList Tryz.prog r z rest (a.put o.dst (.agg (bv aS').toArray)) w):wpList Tryz.prog r z (o::rest) a w:=by
 refine wpList_build D 214 #[] F ?_ ?_
 ·simp[kW']
 ·simpa[kW']using h
theorem my' (w:World):Calls Tryz.prog 159 #[.agg (bv aS').toArray] w fun z w'=>
  z= .returned (.tuple #[.agg #[.int .u32 0, .int .u64 0, .int .i64 0, .int .i64 0, .int .i64 0], .bool true])/\Below w.heap.size w w':=by
 have D:=fun y=>iY' (S:=aS') (T:=aS') az' az' y;rw[decide_eq_true rfl]at D;go_enter Tryz.func159,Tryz.ntmps159;go_upto_region 1 with fail;refine H' (fun x=>x.heap[w.heap.size]? =some (.cells (bv aS').toArray 214 (0,0))/\x.heap[w.heap.size+1]? =some (.cells #[.int .u32 0, .int .u64 0, .int .i64 0, .int .i64 0, .int .i64 0] 199 (0,0))/\Below w.heap.size w x) (ca' _ _ _) ?_;rintro x ⟨h0,h1,r⟩;have F:x.cell? ⟨w.heap.size+1,0,none⟩=some (.int .u32 0):=t' (i:=0) h1;have G:x.cell? ⟨w.heap.size+1,1,none⟩=some (.int .u64 0):=t' (i:=1) h1;have H:x.cell? ⟨w.heap.size+1,2,none⟩=some (.int .i64 0):=t' (i:=2) h1;have I:x.cell? ⟨w.heap.size+1,3,none⟩=some (.int .i64 0):=t' (i:=3) h1;have J:x.cell? ⟨w.heap.size+1,4,none⟩=some (.int .i64 0):=t' (i:=4) h1;have U:x.frozen? ⟨w.heap.size+1,0,none⟩=false:=I' (i:=0) h1;have V:x.frozen? ⟨w.heap.size+1,1,none⟩=false:=I' (i:=1) h1;have X:x.frozen? ⟨w.heap.size+1,2,none⟩=false:=I' (i:=2) h1;have Y:x.frozen? ⟨w.heap.size+1,3,none⟩=false:=I' (i:=3) h1;have Z:x.frozen? ⟨w.heap.size+1,4,none⟩=false:=I' (i:=4) h1;have M:=y' h0;have O:=y' r;clear h0 h1 r;go_wp2_with (first
  |(refine bW' rfl (.tmp 1) rfl w.heap.size rfl 214 aS' az' (i' M) ?_)
  |(refine cb' rfl rfl ?_;go_simp))
 refine bodyPost_ret (v:= .tuple #[.agg #[.int .u32 0, .int .u64 0, .int .i64 0, .int .i64 0, .int .i64 0], .bool true]) (by simp[results,Tryz.results159,go_sem,F,G,H,I,J]) rfl ⟨rfl,?_⟩;have Q:=i' O;exact((((Q.setCell (p:=⟨w.heap.size+1,0,none⟩) (by simp) _).setCell (p:=⟨w.heap.size+1,1,none⟩) (by simp) _).setCell (p:=⟨w.heap.size+1,2,none⟩) (by simp) _).setCell (p:=⟨w.heap.size+1,3,none⟩) (by simp) _).setCell (p:=⟨w.heap.size+1,4,none⟩) (by simp) _
theorem kq' (w:World) (last:Nat):Calls Tryz.prog 162 #[.agg (bv aS').toArray, .int .u32 last] w fun z w'=>
  z= .returned (.tuple #[.agg #[.int .i64 0, .int .i64 0, .string ⟨#[]⟩], .bool true])/\Below w.heap.size w w':=by
 have D:=fun y=>iY' (S:=aS') (T:=aS') az' az' y;rw[decide_eq_true rfl]at D;go_enter Tryz.func162,Tryz.ntmps162;go_upto_region 1 with fail;refine H' (fun x=>x.heap[w.heap.size]? =some (.cells (bv aS').toArray 214 (0,0))/\x.heap[w.heap.size+1]? =some (.cells #[.int .i64 0, .int .i64 0, .string ⟨#[]⟩] 150 (0,0))/\Below w.heap.size w x) (ca' _ _ _) ?_;rintro x ⟨h0,h1,r⟩;have F:x.cell? ⟨w.heap.size+1,0,none⟩=some (.int .i64 0):=t' (i:=0) h1;have G:x.cell? ⟨w.heap.size+1,1,none⟩=some (.int .i64 0):=t' (i:=1) h1;have H:x.cell? ⟨w.heap.size+1,2,none⟩=some (.string ⟨#[]⟩):=t' (i:=2) h1;have O:x.frozen? ⟨w.heap.size+1,0,none⟩=false:=I' (i:=0) h1;have Q:x.frozen? ⟨w.heap.size+1,1,none⟩=false:=I' (i:=1) h1;have U:x.frozen? ⟨w.heap.size+1,2,none⟩=false:=I' (i:=2) h1;have I:=y' h0;have J:=y' r;clear h0 h1 r;go_wp2_with (first
  |(refine bW' rfl (.tmp 2) rfl w.heap.size rfl 214 aS' az' (i' I) ?_)
  |(refine cb' rfl rfl ?_;go_simp))
 refine bodyPost_ret (v:= .tuple #[.agg #[.int .i64 0, .int .i64 0, .string ⟨#[]⟩], .bool true]) (by simp[results,Tryz.results162,go_sem,F,G,H]) rfl ⟨rfl,?_⟩;have M:=i' J;exact((M.setCell (p:=⟨w.heap.size+1,0,none⟩) (by simp) _).setCell (p:=⟨w.heap.size+1,1,none⟩) (by simp) _).setCell (p:=⟨w.heap.size+1,2,none⟩) (by simp) _
namespace Mod
def newer (o c r z:Nat):Bool:=if o≠r then decide (r < o)else decide (z < c)
end Mod
theorem jO' (o c r z:Nat) (w:World):Calls Tryz.prog 161 #[.agg #[.int .u32 o, .int .u64 c], .agg #[.int .u32 r, .int .u64 z]] w fun D w'=>D= .returned (.bool (Mod.newer o c r z))/\Below w.heap.size w w':=by
 by_cases h:o=r
 ·subst h;go_enter Tryz.func161,Tryz.ntmps161;go_wp2;go_ret;exact⟨by simp[Mod.newer],((Below.refl _ _).alloc (Nat.le_refl _) _).alloc (by simp) _⟩
 ·have F:¬ (o:Int)=(r:Int):=by omega
  have G:((o:Int) == (r:Int))=false:=by simp;omega
  go_enter Tryz.func161,Tryz.ntmps161;go_wp2;go_ret;exact⟨by simp[Mod.newer,h],((Below.refl _ _).alloc (Nat.le_refl _) _).alloc (by simp) _⟩
theorem eL' {t:Array Value} {k:Nat} {c:Bool} (h:t[k]?.getD undef= .bool c):t[k]? =some (.bool c):=by
 cases r:t[k]? with
 |none=>rw[r]at h;simp[undef]at h
 |some v=>rw[r]at h;simp at h;rw[h]
theorem gr':(Tryz.prog.info? 199).map (·.size)=some 5:=by kernel_rfl
theorem aU' (w:World) (g:Nat) (r:Array Value):Far (fun k=>k=g) w (w.setRow g r):=⟨rfl,rfl,rfl,by simp,fun k _ z=>setRow_other w g k _ z⟩
theorem uT':(Tryz.prog.info? 150).map (fun i=>(i.zero,i.size,i.bytes))=some (some (.agg #[.int .i64 0, .int .i64 0, .string ⟨#[]⟩]),3,32):=by kernel_rfl
theorem fJ' (w:World) (v:Value) (L:List UInt8) (J:ab' w v L) (h0:0 < L.length) (M:L.length<=10000):
  Calls Tryz.prog 163 #[v] w fun O w'=>∃r,O= .returned r/\ax' w.heap.size w' r L/\Below w.heap.size w w':=by
 obtain⟨X,cap,rfl,h1,h2,h3⟩:=J;obtain⟨b,off,rfl,z⟩:=h3 h0;obtain⟨n,D⟩:∃n,n=L.length:=⟨_,rfl⟩;rw[<-D]at h0 M h1 h2 z ⊢;have Q:=y' z;have G:=y' D;clear z D h3;have H:ax' w.heap.size (w.alloc (.cells #[] 5)) (.slice (some ⟨w.heap.size,0,none⟩) 0 0) []:=
  ⟨by simp[bv], .inr ⟨w.heap.size,0,_,rfl,Nat.le_refl _,heap_alloc_new w _,by simp,by unfold maxLen;omega,by simp,by simp[bv]⟩⟩
 have U:=y' H;clear H;have Y:∀y:World,(binOp .eql 48 (.slice (some ⟨b,off,none⟩) n cap) (.slice none 0 0)).run Tryz.prog y= .ok (.bool false) y:=fun y=>by have:=run_equal_slice_nil (P:=Tryz.prog) y 48 5 (some ⟨b,off,none⟩) n cap Tryz.underlying48;simp[binOp,this]
 go_enter Tryz.func163,Tryz.ntmps163;go_wp2_with (at_builtin;refine hO' rfl (.tmp 5) (.tmp 6) rfl w.heap.size _ [] (i' U) rfl ⟨b,off,none⟩ n cap L rfl (i' G).symm (by
  intro j u hj;have I:j < L.length:=by have:=(List.getElem?_eq_some_iff.1 hj).1;rw[ap']at this;exact this
  rw[iW' I]at hj;cases hj;have h:=(i' Q) j (by rw[i' G];exact I);rw[cO'];exact(World.cell?_alloc_lt w _ ⟨b,off+j,none⟩ (World.block_lt_of_cell? _ _ h)).trans h) (by simp;omega) (by simp) ?_;intro r w' V F;go_simp)
 go_ret;exact⟨r,rfl,by simpa using V,((Below.refl _ _).alloc (Nat.le_refl _) _).trans (ac' (B:=w.heap.size) F (by simp) (fun g F=>by simp[Value.ownBlock]at F;omega))⟩
theorem pu' (w:World) (v:Value) (L:List UInt8) (F:ab' w v L) (h0:128<=L.length) (G:L.length<=10000):
  Calls Tryz.prog 113 #[v] w fun H w'=>∃p lv,H= .returned (A' p)/\eg' w' p ⟨L,0,false⟩ lv (.slice none 0 0)/\Below w.heap.size w w'/\∀k,DkU p lv (.slice none 0 0) k->w.heap.size<=k:=by
 have J:=y' (fJ' w v L F (by omega) G);clear F;unfold A';go_enter Tryz.func113,Tryz.ntmps113;go_wp2_with (go_at_call 163;refine(i' J).mono ?_;rintro H y ⟨lv,rfl,z,r⟩;obtain⟨M,cap,rfl,_⟩:=z.shape;replace z:=y' z;replace r:=y' r);go_ret;have I:=i' z;have r:=i' r;refine⟨_,_,rfl,⟨heap_alloc_new y _,?_,kK' _ _ _,⟨h0,G⟩,by simp⟩,r.alloc r.size _,?_⟩
 ·exact World.ownsRow.alloc (I.mono (Nat.zero_le _)) _
 ·rintro k (rfl|D|D)
  ·exact r.size
  ·exact(I.lt k D).1
  ·cases D
def pv' (B:Nat) (L:List UInt8) (p:Nat) (w:World):Prop:=∃lv,eg' w p ⟨L,0,false⟩ lv (.slice none 0 0)/\∀k,DkU p lv (.slice none 0 0) k->B<=k
theorem fK' {B:Nat} {L:List UInt8} {p:Nat} {w x:World} (h:pv' B L p w) (r:Below w.heap.size w x):pv' B L p x:=h.imp fun _ h=>⟨h.1.far (C' (E:=fun _=>False) r) (fun _ _ h=>h),h.2⟩
theorem au' {w:World} {B B' size:Nat} {e:TypeId} {v:Value} {n:Nat} {xs:List Value} (h:w.ownsRow B e size v n xs) (r:B'<=B):w.ownsRow B' e size v n xs:=by
 obtain⟨h1,h2⟩:=h;refine⟨h1,?_⟩;rcases h2 with h2|⟨g,cap,z,rfl,D,F⟩
 ·exact .inl h2
 ·exact .inr ⟨g,cap,z,rfl,Nat.le_trans r D,F⟩
theorem mz':(Tryz.prog.info? 143).map (·.size)=some 4:=by kernel_rfl
def bA' (a:Mod.Sk) (s q:Nat) (b:ByteArray):Mod.Sk:=
 if(a.logs s).length+2<=q/\q<=(a.logs s).length+4/\a.ix s q=none then {a with held:=a.held++[(s,q,b)]}else a
theorem dC' (a:Mod.Sk) (s q:Nat) (b:ByteArray):(bA' a s q b).epoch=a.epoch:=by
 unfold bA';split <;> rfl
def grown (a:Mod.Sk) (s:Nat) (r:List ByteArray):Mod.Sk:={a with logs:=fun t=>if t=s then a.logs s++r else a.logs t}
theorem fL' (a:Mod.Sk) (s:Nat) (hs:s < 3) (r:List ByteArray):(grown a s r).count=a.count+r.length:=by
 obtain rfl|rfl|rfl:s=0\/s=1\/s=2:=by omega
 all_goals
  simp[grown,Mod.Sk.count];omega
def bB' (a:Mod.Sk) (s:Nat) (r:List ByteArray):Mod.Sk:=(grown a s r).forget s (a.logs s++r).length
theorem oc' (a:Mod.Sk) (s:Nat) (r:List ByteArray):(bB' a s r).epoch=a.epoch:=rfl
def ak' (a:Mod.Sk) (k e:Int) (s r:Nat) (b:ByteArray):Mod.Sk:=if a.commits k e s r b=[]then bA' a s r b else bB' a s (a.commits k e s r b)
theorem fM' (a:Mod.Sk) (s q:Nat) (b:ByteArray):(bA' a s q b).logs=a.logs:=by
 unfold bA';split <;> rfl
theorem fN' (a:Mod.Sk) (s:Nat) (r:List ByteArray):(bB' a s r).logs s=a.logs s++r:=by simp[bB',grown,Mod.Sk.forget]
def ih' (a:Mod.Sk) (k e:Int) (s r:Nat) (b:ByteArray):ByteArray:=
 ⟨(Wire.bytes 4 a.epoch s ((ak' a k e s r b).logs s).length (ackBody (ak' a k e s r b) s ((ak' a k e s r b).logs s).length).data.toList).toArray⟩
def em' (n:Nat):ByteArray:=⟨(Wire.bytes 5 n 0 0 []).toArray⟩
def gY' (a:Mod.Sk):ByteArray:=ef' (a.logs 0).length++ef' (a.logs 1).length++ef' (a.logs 2).length
def eM' (a:Mod.Sk) (e:Nat):ByteArray:=⟨(Wire.bytes 2 e 0 0 (gY' a).data.toList).toArray⟩
def dI' (a:Mod.Sk) (e:Nat):List (Nat×Nat×ByteArray):=if a.epoch < e then []else a.held
def bc' (a:Mod.Sk) (e:Nat):Mod.Sk:={a with epoch:=e,held:=dI' a e}
theorem pw' (a b c:Int):(ef' a++ef' b++ef' c).data.toList=Wire.le4 a++Wire.le4 b++Wire.le4 c:=by
 simp[ByteArray.data_append,tF']
theorem rz' {e r z D:Nat} (F:e<=2147483647) (h0:r<=120) (h1:z<=120) (h2:D<=120):Wire.proper 2 e 0 0 (ef' r++ef' z++ef' D)=true:=by
 have hs:(ef' r++ef' z++ef' D).size=12:=by simp[ByteArray.size_append,tG']
 have a0:r % 256=r:=by omega
 have a1:z % 256=z:=by omega
 have G:D % 256=D:=by omega
 simp only[Wire.proper,Wire.welBody,pw',hs];simp[Wire.isNum,Wire.numAt,Wire.num4,Wire.le4];omega
def bI' (a:Mod.Sk) (k e:Int) (s q:Nat) (b:ByteArray):Mod.Sk×List ByteArray:=
 if k=1 then(if e < a.epoch then(a,[em' a.epoch])else(bc' a e.toNat,[eM' a e.toNat]))
 else if k=3 then(if e=a.epoch then(ak' a k e s q b,[ih' a k e s q b])else(a,[em' (max e.toNat a.epoch)]))
 else(a,[])
structure aw' (a:Mod.Sk):Prop where
 held:∀h∈a.held,h.1 < 3/\(a.logs h.1).length+1<=h.2.1/\h.2.1<=(a.logs h.1).length+4
 once:(a.held.map fun h=>(h.1,h.2.1)).Nodup
 room:a.count<=120
 ep:a.epoch<=2147483647
theorem ii':∀ (n:Nat) (l:List Nat),l.Nodup->(∀x∈l,x < n)->l.length<=n
 |0,[],_,_=>Nat.le_refl _
 |0,x::l,_,h=>by have:=h x (.head _);omega
 |n+1,l,z,h=>by
  by_cases D:n∈l
  ·have h1:=List.length_erase_of_mem D;have h2:=ii' n (l.erase n) (z.erase n) (fun x r=>by have h3:=(z.mem_erase_iff).1 r;have:=h x h3.2;have:=h3.1;omega);omega
  ·have:=ii' n l z (fun x r=>by have:=h x r;have:x≠n:=fun e=>D (e ▸ r);omega);omega
theorem jd' {a:Mod.Sk} {s:Nat} (hs:s < 3):(a.logs s).length<=a.count:=by
 obtain rfl|rfl|rfl:s=0\/s=1\/s=2:=by omega
 all_goals
  unfold Mod.Sk.count;omega
theorem ni' {st q:Nat}:∀ {l:List (Nat×Nat×ByteArray)} {i:Nat},Mod.ixFrom st q i l=none->∀h∈l,¬ (h.1=st/\h.2.1=q)
 |[],_,_,h,r=>by cases r
 |x::l,i,z,h,r=>by
  rw[Mod.ixFrom]at z;split at z
  ·cases z
  ·rename_i D;cases r with
   |head=>exact D
   |tail _ r=>exact ni' z h r
theorem rA':aw' {epoch:=0,logs:=fun _=>[],held:=[]}:=⟨by simp,by simp,by simp[Mod.Sk.count],by simp⟩
theorem px' {a:Mod.Sk} (z:aw' a) (s q:Nat) (b:ByteArray) (hs:s < 3):aw' (bA' a s q b):=by
 unfold bA';split
 ·rename_i h;obtain⟨h1,h2,h3⟩:=h;refine⟨fun x r=>?_,?_,z.room,z.ep⟩
  ·simp only[List.mem_append,List.mem_singleton]at r;rcases r with r|rfl
   ·exact z.held x r
   ·exact⟨hs,by show(a.logs s).length+1<=q;omega,h2⟩
  ·simp only[List.map_append,List.map_cons,List.map_nil];rw[List.nodup_append];refine⟨z.once,by simp,?_⟩;rintro x r y D rfl;simp only[List.mem_singleton]at D;obtain⟨h,F,rfl⟩:=List.mem_map.1 r;exact ni' h3 h F ⟨congrArg Prod.fst D,congrArg Prod.snd D⟩
 ·exact z
theorem py' {a:Mod.Sk} (z:aw' a) (s:Nat) (r:List ByteArray) (hs:s < 3) (F:a.count+r.length<=120):aw' (bB' a s r):=by
 have G:∀t,((bB' a s r).logs t).length=if t=s then(a.logs s).length+r.length else(a.logs t).length:=by
  intro t;show((grown a s r).logs t).length= _;unfold grown;by_cases h:t=s
  ·simp[h]
  ·simp[h]
 refine⟨fun h H=>?_,?_,?_,z.ep⟩
 ·have I:h∈a.held.filter (Mod.keeps s (a.logs s++r).length):=H;obtain⟨h1,h2⟩:=List.mem_filter.1 I;obtain⟨g1,g2,D⟩:=z.held h h1;rw[G];refine⟨g1,?_⟩;by_cases e:h.1=s
  ·rw[if_pos e];unfold Mod.keeps at h2;rw[e]at g2 D;simp[e]at h2;omega
  ·rw[if_neg e];exact⟨g2,D⟩
 ·exact z.once.sublist ((List.filter_sublist (p:=Mod.keeps s (a.logs s++r).length) (l:=a.held)).map _)
 ·have:(bB' a s r).count=(grown a s r).count:=rfl;rw[this,fL' a s hs r];exact F
theorem od' {a:Mod.Sk} (r:aw' a) (e:Nat) (z:e<=2147483647):aw' (bc' a e):=by
 unfold bc' dI';split
 ·exact⟨by simp,by simp,r.room,z⟩
 ·exact⟨r.held,r.once,r.room,z⟩
theorem fc' {a:Mod.Sk} (r:aw' a) (k e:Int) (s q:Nat) (b:ByteArray) (hs:s < 3) (z:e<=2147483647):aw' (bI' a k e s q b).1:=by
 unfold bI';split
 ·split
  ·exact r
  ·exact od' r _ (by omega)
 ·split
  ·split
   ·show aw' (ak' a k e s q b);unfold ak';split
    ·exact px' r s q b hs
    ·exact py' r s _ hs (hZ' k e s q b r.room)
   ·exact r
  ·exact r
theorem gs' (a:Mod.Ag) (k e st q:Int) (b:ByteArray) (s:Nat):a.says k e st q b s<=(a.fl s).kept.length:=by
 unfold Mod.Ag.says;split
 ·omega
 ·split
  ·unfold Mod.Ag.gone;omega
  ·split
   ·unfold Mod.Ag.gone;omega
   ·omega
theorem bit0:∀n:Fin 256,(bits BinOp.and IntKind.u8 ((n.val:Nat):Int) 1==1)=decide (n.val % 2=1):=by decide+kernel
theorem bit1:∀n:Fin 256,(bits BinOp.and IntKind.u8 (((n.val:Nat):Int) / 2) 1==1)=decide (n.val / 2 % 2=1):=by decide+kernel
theorem bit2:∀n:Fin 256,(bits BinOp.and IntKind.u8 (((n.val:Nat):Int) / 4) 1==1)=decide (n.val / 4 % 2=1):=by decide+kernel
theorem cY' (q c:Nat):∀i,(Mod.bitsOf q c i).length<=i
 |0=>by simp[Mod.bitsOf]
 |i+1=>by have:=cY' q c i;simp only[Mod.bitsOf,List.length_append];split <;> simp <;> omega
theorem ez' (l:List Nat) (n:Nat):J' (l++[n])=J' l++[.int .i64 (n:Int)]:=by simp[J']
theorem pz' {e st q:Int} {b:ByteArray} (h:Wire.proper 2 e st q b=true):b.size=12:=by
 simp[Wire.proper,Wire.welBody]at h;omega
theorem pA' {e st q:Int} {b:ByteArray} (h:Wire.proper 4 e st q b=true):b.size=1/\(0<=st/\st < 3)/\0<=q/\q<=2147483647:=by
 simp[Wire.proper,Wire.isStr,Wire.isNum,Wire.ackBody]at h;omega
theorem gZ' (e s:Nat) (f:Mod.Flow) (t:Nat):∀i,(Mod.sendTo e s f t i).1.length=f.kept.length
 |0=>rfl
 |i+1=>by
  have:=gZ' e s f t i;simp only[Mod.sendTo];split
  ·exact this
  ·split
   ·simp[this]
   ·exact this
theorem kX' (e s:Nat) (f:Mod.Flow) (t:Nat):∀i j,i<=j->(Mod.sendTo e s f t i).1[j]? =f.kept[j]?
 |0,_,_=>rfl
 |i+1,j,h=>by
  have:=kX' e s f t i j (by omega);simp only[Mod.sendTo];split
  ·exact this
  ·split
   ·simp only
    rw[List.getElem?_set_ne (by omega)];exact this
   ·exact this
theorem en' {e s:Nat} {f:Mod.Flow} {t i:Nat} (h:i < f.kept.length) (hd:Mod.due f t i f.kept[i].2=false):Mod.sendTo e s f t (i+1)=Mod.sendTo e s f t i:=by
 simp only[Mod.sendTo,List.getElem?_eq_getElem h,hd];rfl
theorem eo' {e s:Nat} {f:Mod.Flow} {t i:Nat} (h:i < f.kept.length) (hd:Mod.due f t i f.kept[i].2=true):
  Mod.sendTo e s f t (i+1)=((Mod.sendTo e s f t i).1.set i (f.kept[i].1,t),(Mod.sendTo e s f t i).2++[Wire.bytes 3 e s (f.base+1+i:Nat) f.kept[i].1.data.toList]):=by
 simp only[Mod.sendTo,List.getElem?_eq_getElem h,hd];rfl
theorem aW' {e s:Nat} {f:Mod.Flow} {t i:Nat} (h:f.kept.length<=i):Mod.sendTo e s f t (i+1)=Mod.sendTo e s f t i:=by
 simp only[Mod.sendTo,List.getElem?_eq_none_iff.2 h]
theorem jP' {e s:Nat} {f:Mod.Flow} {t i:Nat} (h:f.kept.length<=i\/i=4) (h4:i<=4):Mod.sendTo e s f t 4=Mod.sendTo e s f t i:=by
 rcases h with h|h
 ·obtain rfl|rfl|rfl|rfl|rfl:i=0\/i=1\/i=2\/i=3\/i=4:=by omega
  ·rw[aW' (i:=3) (by omega),aW' (i:=2) (by omega),aW' (i:=1) (by omega),aW' (i:=0) (by omega)]
  ·rw[aW' (i:=3) (by omega),aW' (i:=2) (by omega),aW' (i:=1) (by omega)]
  ·rw[aW' (i:=3) (by omega),aW' (i:=2) (by omega)]
  ·rw[aW' (i:=3) (by omega)]
  ·rfl
 ·rw[h]
def ha' (w:World) (v:Value) (xs:List Value):Prop:=
 ∃r cap,v= .slice r xs.length cap/\xs.length<=cap/\cap<=maxLen/\(0 < xs.length->∃g o,r=some ⟨g,o,none⟩/\g < w.heap.size/\∀i,i < xs.length->w.cell? ⟨g,o+i,none⟩=xs[i]?)
theorem kY' {B:Nat} {w:World} {e:TypeId} {v:Value} {n:Nat} {xs:List Value} (h:w.ownsRow B e 1 v n xs):ha' w v xs:=by
 have z:xs.length=n:=by have:=h.1;omega
 subst z;have h0:=h;obtain⟨h1,h2⟩:=h;rcases h2 with ⟨r,h2⟩|⟨g,cap,H,r,I,D,F,G,_,J⟩
 ·exact⟨none,0,by rw[h2];exact r,by omega,by unfold maxLen;omega,fun h=>by omega⟩
 ·subst r;exact⟨_,cap,rfl,F,G,fun _=>⟨g,0,rfl,lt_of_block D,fun i hi=>by rw[Nat.zero_add];exact World.ownsRow.cellAt h0 i (by omega)⟩⟩
def pB' (fs:List Value) (i b:Nat):Prop:=∃j,j < i/\∃v,fs[j]? =some v/\v.ownBlock=some b
def uU' (r:Array Oper) (c:Nat):Bool:=(List.range r.size).all fun k=>decide (k<=c) || (List.range r.size).any fun j=>decide (c<=j) &&av' r k j
def je' (c n:Nat):Array Bool:=((List.range n).map fun k=>decide (k<=c)).toArray
theorem fo' (i:Nat):∀n,i<=n->(List.range n).countP (fun k=>decide (i<=k))=n - i
 |0,h=>by simp
 |n+1,h=>by
  rw[List.range_succ,List.countP_append,List.countP_singleton];by_cases r:i<=n
  ·rw[fo' i n r];simp[r];omega
  ·have:i=n+1:=by omega
   subst this;have h0:(List.range n).countP (fun k=>decide (n+1<=k))=0:=by rw[List.countP_eq_zero];intro k z;have:=List.mem_range.1 z;simp;omega
   rw[h0];simp
section
variable {P:Program} {ops:Array Oper} {Q:Exit->Act->World->Prop}
theorem oe' {a0:Act} {w0:World} (D:Nat->Value->World->Prop) (ab:bz' ops a0.tmps.size=true) (last:Nat) (bb:last < ops.size) (az:eU' ops last=true) (aA:uU' ops last=true)
  (aG:∀i v w w',D i v w->Below w.heap.size w w'->D i v w')
  (aH:∀i o,i < last->ops[i]? =some o->∀a w,Below w0.heap.size w0 w->bw' ops D a0 i o a w->
   if Region.wanted o (yielded ops a.tmps)=true then o.wp P a w (fun a' w'=>∃v,a'=a.put o.dst v/\Below w.heap.size w w'/\D i v w') Q else D i undef w)
  (aI:∀a w,Below w0.heap.size w0 w->(∀i o d,i < last->ops[i]? =some o->o.dst=some d->D i (a.tmps.getD d undef) w)->(∀t,(∀j,wr ops t=some j->last<=j)->a.tmps.getD t undef=a0.tmps.getD t undef)->a.defers=a0.defers->a.tmps.size=a0.tmps.size->wpOp P ops Q last (fun a' w'=>∀F,ops.size<=F+last+1->wpAny P .any ops Q F (je' last ops.size) a' w') a w):
  ∀ (F:Nat) (L:Array Bool) (a:Act) (w:World),bx' ops D a0 w0 L a w->(∀k,last<=k->L.getD k false=false)->(List.range ops.size).countP (fun i=> !L.getD i false)<=F->wpAny P .any ops Q F L a w:=by
 have aJ:∀ (L:Array Bool) (a:Act) (w:World),bx' ops D a0 w0 L a w->L.getD last false=false->Region.ready .any ops L=[]->False:=by
  intro L a w r Y aK;have Z:∀n i,i < n->i < ops.size->L.getD i false=true:=by
   intro n;induction n with
   |zero=>intro i h;omega
   |succ n ih=>
    intro i h hi;by_cases aL:i < n
    ·exact ih i aL hi
    ·have e:i=n:=by omega
     subst e;cases ac:L.getD i false
     ·exfalso;have G:ops[i]? =some ops[i]:=Array.getElem?_eq_getElem hi;obtain⟨_,_,h3⟩:=al' ab G;have:i∈Region.ready .any ops L:=mem_ready.2 ⟨by
       have hs:i < L.size:=by rw[r.size];exact hi
       rw[Array.getD_eq_getD_getElem?,Array.getElem?_eq_getElem hs]at ac ⊢;exact ac,ops[i],G,fun e ai H=>by
       have hd:av' ops i e.on=true:=by unfold av';rw[G];exact Array.any_eq_true'.2 ⟨e,ai,by simp[H]⟩
       have I:=h3 _ hd;exact ih e.on I (by omega)⟩
      rw[aK]at this;cases this
     ·rfl
  have:=Z ops.size last (by omega) (by omega);rw[Y]at this;cases this
 have aM:∀ (L:Array Bool) (a:Act) (w:World),bx' ops D a0 w0 L a w->(∀j,av' ops last j=true->L.getD j false=true)->∀n i,last<=i+n->i < last->L.getD i false=true:=by
  intro L a w r U n;induction n with
  |zero=>intro i h hi;omega
  |succ n ih=>
   intro i h hi;unfold eU' at az;have h1:=List.all_eq_true.1 az i (List.mem_range.2 hi);obtain⟨k,z,hd⟩:=List.any_eq_true.1 h1;have aN:k < last+1:=List.mem_range.1 z;by_cases aO:k=last
   ·subst aO;exact U i hd
   ·have I:i < k:=by
     unfold av' at hd;cases O:ops[k]? with
     |none=>rw[O]at hd;cases hd
     |some ok=>obtain⟨_,_,h3⟩:=al' ab O;exact h3 i (by unfold av';exact hd)
    exact r.closed k (ih k (by omega) (by omega)) i hd
 have aP:∀k,last < k->k < ops.size->∃j,last<=j/\av' ops k j=true:=by
  intro k h1 h2;unfold uU' at aA;have:=List.all_eq_true.1 aA k (List.mem_range.2 h2);simp only[Bool.or_eq_true,decide_eq_true_eq]at this;rcases this with h|h
  ·omega
  ·obtain⟨j,hj,hd⟩:=List.any_eq_true.1 h;simp only[Bool.and_eq_true,decide_eq_true_eq]at hd;exact⟨j,hd.1,hd.2⟩
 intro F;induction F with
 |zero=>intro L a w r J aQ;have Y:=J last (Nat.le_refl _);have:0 < (List.range ops.size).countP (fun i=> !L.getD i false):=List.countP_pos_iff.2 ⟨last,List.mem_range.2 (by omega),by simp only[Y];rfl⟩;omega
 |succ F ih=>
  intro L a w r J aQ;have Y:=J last (Nat.le_refl _);refine⟨fun h=>(aJ L a w r Y h).elim,fun i hi=>?_⟩;obtain⟨h0,o,G,aR⟩:=mem_ready.1 hi;have I:i < ops.size:=(Array.getElem?_eq_some_iff.1 G).1;have aj:i < L.size:=by rw[r.size];exact I
  have ad:L.getD i false=false:=by rw[Array.getD_eq_getD_getElem?,Array.getElem?_eq_getElem aj]at h0 ⊢;exact h0
  obtain⟨hd,hl,bc⟩:=al' ab G;have U:∀j,av' ops i j=true->L.getD j false=true:=by intro j hj;unfold av' at hj;rw[G]at hj;obtain⟨e,ai,H⟩:=Array.any_eq_true'.1 hj;simp only[Bool.and_eq_true,beq_iff_eq]at H;rw[<-H.2];exact aR e ai H.1
  by_cases aS:i=last
  ·subst aS;have Z:=aM L a w r U i;refine wpOp_mono ?_ (aI a w r.ext (fun j aT d hj aU ak=>r.vals j aT d aU ak (Z j (by omega) hj)) (fun t V=>r.rest t (fun j hj=>J j (V j hj))) r.defers r.tsize);intro a' w' aV;have ac:L.setIfInBounds i true=je' i ops.size:=by
    apply Array.ext
    ·simp[je',r.size]
    ·intro k h1 h2;have z:k < ops.size:=by simpa[je']using h2
     simp only[je',List.getElem_toArray,List.getElem_map,List.getElem_range];have aB:k < L.size:=by rw[r.size];exact z
     rw[Array.getElem_setIfInBounds (by exact aB)];by_cases aa:i=k
     ·simp[aa]
     ·rw[if_neg aa];have X:L.getD k false=L[k]:=by rw[Array.getD_eq_getD_getElem?,Array.getElem?_eq_getElem aB];rfl
      by_cases I:k < i
      ·rw[<-X,Z k (by omega) I];simp;omega
      ·rw[<-X,J k (by omega)];simp;omega
   rw[ac];refine aV F ?_;have ao:(List.range ops.size).countP (fun k=> !L.getD k false)=ops.size - i:=by
    have:(List.range ops.size).countP (fun k=> !L.getD k false)=(List.range ops.size).countP (fun k=>decide (i<=k)):=by
     apply List.countP_congr;intro k z;have aN:=List.mem_range.1 z;by_cases I:k < i
     ·rw[Z k (by omega) I];simp;omega
     ·rw[J k (by omega)];simp;omega
    rw[this];exact fo' i ops.size (by omega)
   omega
  have be:i < last:=by
   rcases Nat.lt_or_ge last i with h|h
   ·obtain⟨j,hj,ak⟩:=aP i h I;have:=U j ak;rw[J j hj]at this;cases this
   ·omega
  have aW:i < last:=by omega
  have aX:bw' ops D a0 i o a w:=by
   intro t V;cases M:wr ops t with
   |none=>exact r.rest t (fun j hj=>by rw[M]at hj;cases hj)
   |some j=>
    simp only[];have hj:=List.find?_some M;simp only[beq_iff_eq]at hj;split
    ·rename_i ap;cases aq:ops[j]? with
     |none=>rw[aq]at hj;cases hj
     |some aY=>rw[aq]at hj;exact r.vals j aY t aq hj (U j ap)
    ·rename_i ap;refine r.rest t (fun bf aC=>?_);rw[M]at aC;cases aC;rcases hl t V j M with h|h
     ·exact absurd h ap
     ·cases au:L.getD j false
      ·rfl
      ·have:=r.closed j au i h;rw[ad]at this;cases this
  have aD:∀v w',Below w.heap.size w w'->D i v w'->bx' ops D a0 w0 (L.setIfInBounds i true) (a.put o.dst v) w':=by
   intro v w' H av;have ah:∀k,(L.setIfInBounds i true).getD k false=true↔ (k=i\/L.getD k false=true):=by
    intro k;by_cases z:k=i
    ·subst z;simp[Array.getD_eq_getD_getElem?,aj]
    ·rw[getD_set_ne false (fun e=>z e.symm)];simp[z]
   have aE:∀t,(a.put o.dst v).tmps.getD t undef=if o.dst=some t then v else a.tmps.getD t undef:=by
    intro t;cases aZ:o.dst with
    |none=>simp[Act.put]
    |some d=>
     simp only[Act.put,Option.some.injEq];have ba:d < a.tmps.size:=by rw[r.tsize];exact(hd d aZ).1
     by_cases h:d=t
     ·subst h;simp[Array.getD_eq_getD_getElem?,ba]
     ·simp[Array.getD_eq_getD_getElem?,h]
   refine⟨by simp[r.size],r.ext.trans (H.mono r.ext.size),?_,?_,?_,?_,?_⟩
   ·intro k z j hj;rw[ah]at z ⊢;rcases z with rfl|z
    ·exact .inr (U j hj)
    ·exact .inr (r.closed k z j hj)
   ·intro k ok d O ax z;rw[ah]at z;rw[aE];rcases z with rfl|z
    ·rw[G]at O;cases O;rw[if_pos ax];exact av
    ·have ay:o.dst≠some d:=by intro e;have h1:=(hd d e).2;have h2:=((al' ab O).1 d ax).2;rw[h1]at h2;cases h2;rw[ad]at z;cases z
     rw[if_neg ay];exact aG k _ _ _ (r.vals k ok d O ax z) H
   ·intro t V;rw[aE];have ay:o.dst≠some t:=by intro e;have:=V i (hd t e).2;have h2:=(ah i).2 (.inl rfl);rw[this]at h2;cases h2
    rw[if_neg ay];refine r.rest t (fun j hj=>?_);cases au:L.getD j false
    ·rfl
    ·have:=V j hj;rw[(ah j).2 (.inr au)]at this;cases this
   ·cases o.dst <;> exact r.defers
   ·rw[<-r.tsize];cases o.dst <;> simp[Act.put]
  have ao:(List.range ops.size).countP (fun k=> !(L.setIfInBounds i true).getD k false)<=F:=by
   have:=cj' (l:=List.range ops.size) (p:=fun k=> !L.getD k false) (q:=fun k=> !(L.setIfInBounds i true).getD k false)
    (fun k _ z=>by
     by_cases aa:k=i
     ·subst aa;simp[ad]
     ·rw[getD_set_ne false (fun e=>aa e.symm)]at z;exact z)
    ⟨i,List.mem_range.2 I,by simp[ad],by simp[Array.getD_eq_getD_getElem?,aj]⟩
   omega
  have aF:∀k,last<=k->(L.setIfInBounds i true).getD k false=false:=fun k z=>by rw[getD_set_ne false (by omega)];exact J k z
  have X:=aH i o aW G a w r.ext aX;unfold wpOp;rw[G];simp only[];split at X
  ·rename_i M;rw[if_pos M];refine .inl (Oper.wp_mono ?_ X);rintro a' w' ⟨v,rfl,H,av⟩;exact ih _ _ _ (aD v w' H av) aF ao
  ·rename_i M;rw[if_neg M];exact ih _ _ _ (aD undef w (Below.refl _ _) X) aF ao
theorem dh' {id:Nat} {a0:Act} {w0:World} (V:P.follows .mixedOrders=true) (L:List (Value->World->Prop)) (I:List (List (Tmp×Option Nat))) (F:List (Option Tmp)) (G:List Bool) (last:Nat) (ol:Oper) (X:ops[last]? =some ol)
  (Y:last < ops.size) (Z:eU' ops last=true) (aa:uU' ops last=true)
  (ab:bz' ops a0.tmps.size=true) (ac:bZ' ops=I) (ad:eu' ops=F) (M:bl' ops a0.tmps.size=G) (ah:bD' L) (ai:gj' P ops Q L a0 w0 (ops.toList.take last) I L)
  (aj:∀f w,af' f w (F.take last) L->Region.wanted ol (yielded ops (Y' G a0.tmps.toList 0 f).toArray)=true)
  (ak:∀f w,Below w0.heap.size w0 w->af' f w (F.take last) L->ol.wp P {tmps:=(Y' G a0.tmps.toList 0 f).toArray,defers:=a0.defers} w (fun a' w'=>∀O,ops.size<=O+last+1->wpAny P .any ops Q O (je' last ops.size) a' w') Q):
  (Code.region id ops true).wp P Q a0 w0:=by
 refine wp_region_any V (oe' (w0:=w0) (fun i=>L.getD i (fun _ _=>True)) ab last Y Z aa (fun i=>bo' ah i) ?_ ?_ ops.size _ a0 _ ⟨by simp,(Below.refl _ _).drew,?_,?_,fun _ _=>rfl,rfl,rfl⟩ ?_ ?_)
 ·intro i o J z a w D ao;have ap:i < ops.size:=(Array.getElem?_eq_some_iff.1 z).1;have aq:I[i]? =some ((o.looksAt ops).map fun t=>(t,match wr ops t with
     |some j=>if av' ops i j=true then some j else none
     |none=>none)):=by
   rw[<-ac];unfold bZ';rw[List.getElem?_map,List.getElem?_range ap,Option.map_some,z];rfl
  exact ei' ai i o _ (by rw[List.getElem?_take,if_pos J];simpa using z) aq a w D (bk' rfl (o:=o) _ ao)
 ·intro a w D au av hd hs;have U:af' (fun t=>a.tmps.getD t undef) w (F.take last) L:=by
   rw[<-ad,eu',<-List.map_take];exact cH' (fun i o d z ax=>by
    rw[List.getElem?_take]at z;split at z
    ·rename_i J;exact au i o d J (by simpa using z) ax
    ·cases z)
  have h:=ak (fun t=>a.tmps.getD t undef) w D U;have H:=aj (fun t=>a.tmps.getD t undef) w U;have e:Y' G a0.tmps.toList 0 (fun t=>a.tmps.getD t undef)=a.tmps.toList:=by
   refine ck' _ _ _ _ _ (by rw[<-M];simp[bl']) (by simpa using hs) ?_ ?_
   ·intro j hj _;simp[Array.getD_eq_getD_getElem?,List.getD_eq_getElem?_getD]
   ·intro j hj D;rw[<-M]at D;have ay:j < a0.tmps.size:=by rw[<-hs];simpa using hj
    have H:wr ops j=none:=by unfold bl' at D;simp[List.getD_eq_getElem?_getD,List.getElem?_map,List.getElem?_range ay]at D;exact D
    have:=av j (fun k r=>by rw[H]at r;cases r);simpa[Array.getD_eq_getD_getElem?,List.getD_eq_getElem?_getD]using this
  rw[e,<-hd]at h;unfold wpOp;rw[X];simp only[];rw[e]at H;rw[if_pos (by simpa using H)];exact .inl h
 ·intro k r;simp[Array.getD_eq_getD_getElem?]at r;rcases h:(Array.replicate ops.size false)[k]? with _|b <;> simp[h]at r;subst r;obtain⟨h1,h2⟩:=Array.getElem?_eq_some_iff.1 h;simp at h2
 ·intro i o d z hd r;exfalso;simp[Array.getD_eq_getD_getElem?]at r;rcases h:(Array.replicate ops.size false)[i]? with _|b <;> simp[h]at r;subst r;obtain⟨h1,h2⟩:=Array.getElem?_eq_some_iff.1 h;simp at h2
 ·intro k _;rw[Array.getD_eq_getD_getElem?];by_cases r:k < ops.size
  ·simp[r]
  ·simp[r]
 ·exact Nat.le_trans List.countP_le_length (by simp)
theorem bE' {L:Array Bool} {i f:Nat} {o:Oper} {a:Act} {w:World} (r:Region.ready .any ops L=[i]) (z:ops[i]? =some o) (D:Region.wanted o (yielded ops a.tmps)=true)
  (h:o.wp P a w (fun a' w'=>wpAny P .any ops Q f (L.setIfInBounds i true) a' w') Q):wpAny P .any ops Q (f+1) L a w:=by
 refine⟨fun h0=>(by rw[r]at h0;cases h0),fun j hj=>?_⟩;rw[r,List.mem_singleton]at hj;subst hj;unfold wpOp;rw[z];simp only[];rw[if_pos (by simpa using D)];exact .inl h
theorem nj' {L:Array Bool} {i j f:Nat} {o r:Oper} {a:Act} {w:World} (z:Region.ready .any ops L=[i,j]) (F:ops[i]? =some o) (G:ops[j]? =some r) (H:Region.wanted o (yielded ops a.tmps)=true) (hw':Region.wanted r (yielded ops a.tmps)=true)
  (h:o.wp P a w (fun a' w'=>wpAny P .any ops Q f (L.setIfInBounds i true) a' w') Q) (I:r.wp P a w (fun a' w'=>wpAny P .any ops Q f (L.setIfInBounds j true) a' w') Q):wpAny P .any ops Q (f+1) L a w:=by
 refine⟨fun h0=>(by rw[z]at h0;cases h0),fun k D=>?_⟩;rw[z,List.mem_cons,List.mem_singleton]at D;unfold wpOp;rcases D with rfl|rfl
 ·rw[F];simp only[];rw[if_pos (by simpa using H)];exact .inl h
 ·rw[G];simp only[];rw[if_pos (by simpa using hw')];exact .inl I
theorem dJ' {L:Array Bool} {f:Nat} {a:Act} {w:World} (r:Region.ready .any ops L=[]) (h:Q .normal a w):wpAny P .any ops Q f L a w:=wpAny_done r h _
end
def am' (a:Mod.Sk) (l:List UInt8):Int×Mod.Sk×List ByteArray:=
 if Wire.reads l=true then(0,bI' a (Wire.kindOf l) (Wire.epochOf l) (Wire.streamOf l).toNat (Wire.seqOf l).toNat (Wire.bodyOf l))else(1,a,[])
structure Q' (B:Nat) (w:World) (lv:Value) (fs:List Value) (Fl:List ByteArray) (U:Nat->Prop):Prop where
 len:fs.length=Fl.length
 row:w.ownsRow B 48 1 lv fs.length fs
 each:∀ (j:Nat) (v:Value),fs[j]? =some v->w.ownsRow B 5 1 v ((Fl.map fun b=>b.data.toList).getD j []).length (bv ((Fl.map fun b=>b.data.toList).getD j []))
 apart:∀ (i j:Nat) (u v:Value),fs[i]? =some u->fs[j]? =some v->i≠j->∀g,u.ownBlock=some g->v.ownBlock≠some g
 clear:∀k,(lv.ownBlock=some k\/pB' fs fs.length k)->¬U k
structure uV' where
 At:World->Nat->Mod.Sk->(Nat->Prop)->Prop
 lt:∀ {w v a U},At w v a U->∀k,U k->k < w.heap.size
 far:∀ {w w' v a U E},At w v a U->Far E w w'->(∀k,U k->¬E k)->At w' v a U
 deliver:∀ {w v a U} (bs:Value) (l:List UInt8),At w v a U->aw' a->ab' w bs l->Calls Tryz.prog 15 #[A' v,bs] w fun r w'=>
  ∃lv fs U',r= .returned (.tuple #[lv, .int .i64 (am' a l).1])/\Q' w.heap.size w' lv fs (am' a l).2.2 U'/\At w' v (am' a l).2.1 U'/\Far U w w'/\∀k,U' k->U k\/w.heap.size<=k
 epoch:∀ {w v a U},At w v a U->Calls Tryz.prog 27 #[A' v] w fun r w'=>r= .returned (.int .i64 a.epoch)/\Below w.heap.size w w'
 log:∀ {w v a U} (i:Int),At w v a U->aw' a->Calls Tryz.prog 17 #[A' v, .int .i64 i] w fun r w'=>
  ∃lv,r= .returned lv/\w'.ownsRow w.heap.size 9 1 lv (if 0<=i/\i < 3 then a.logs i.toNat else []).length (aV' (if 0<=i/\i < 3 then a.logs i.toNat else []))/\Below w.heap.size w w'
 opened:∀ {w} (bs:Value),ab' w bs (List.replicate 7808 0)->Calls Tryz.prog 25 #[bs] w fun r w'=>
  ∃v U,r= .returned (.tuple #[A' v, .int .i64 0])/\At w' v {epoch:=0,logs:=fun _=>[],held:=[]} U/\Below w.heap.size w w'/\∀k,U k->w.heap.size<=k
structure aL' (N:Nat) (a:Mod.Ag):Prop where
 ep:a.epoch<=2147483647
 tk:a.ticks<=N
 sum:∀s,s < 3->(a.fl s).base+(a.fl s).kept.length<=N
 bod:∀s,s < 3->∀x∈ (a.fl s).kept,x.1.size<=20/\x.2<=N
theorem aL'.mono {N z:Nat} {a:Mod.Ag} (r:aL' N a) (h:N<=z):aL' z a:=
 ⟨r.ep,Nat.le_trans r.tk h,fun s hs=>Nat.le_trans (r.sum s hs) h,fun s hs x D=>⟨(r.bod s hs x D).1,Nat.le_trans (r.bod s hs x D).2 h⟩⟩
theorem mA' {N:Nat} {a:Mod.Ag} (z:aL' N a) (s:Nat) (b:ByteArray) (F:b.size<=20):aL' (N+1) (a.submit s b):=by
 refine⟨z.ep,Nat.le_succ_of_le z.tk,fun t D=>?_,fun t D x r=>?_⟩
 ·have:=z.sum t D;unfold Mod.Ag.submit Mod.upd;simp only
  split
  ·rename_i e;subst e;simp;omega
  ·omega
 ·unfold Mod.Ag.submit Mod.upd at r;simp only at r;split at r
  ·rename_i e;subst e;rw[List.mem_append,List.mem_singleton]at r;rcases r with r|rfl
   ·exact⟨(z.bod t D x r).1,Nat.le_succ_of_le (z.bod t D x r).2⟩
   ·exact⟨F,Nat.zero_le _⟩
  ·exact⟨(z.bod t D x r).1,Nat.le_succ_of_le (z.bod t D x r).2⟩
theorem hi' (epoch s:Nat) (f:Mod.Flow) (ticks:Nat):∀i,∀y∈ (Mod.sendTo epoch s f ticks i).1,∃x∈f.kept,y.1=x.1/\(y.2=x.2\/y.2=ticks)
 |0=>fun y r=>⟨y,r,rfl, .inl rfl⟩
 |i+1=>by
  intro y r;have ih:=hi' epoch s f ticks i;rw[Mod.sendTo]at r;split at r
  ·exact ih y r
  ·rename_i x z;split at r
   ·rcases List.mem_or_eq_of_mem_set r with r|rfl
    ·exact ih y r
    ·exact⟨x,List.mem_of_getElem? z,rfl, .inr rfl⟩
   ·exact ih y r
theorem jQ' {N:Nat} {a:Mod.Ag} (r:aL' N a):aL' (N+1) a.tick.1:=by
 have h0:aL' (N+1) {a with ticks:=a.ticks+1}:=⟨r.ep,Nat.succ_le_succ r.tk,fun s hs=>Nat.le_succ_of_le (r.sum s hs),fun s hs x z=>⟨(r.bod s hs x z).1,Nat.le_succ_of_le (r.bod s hs x z).2⟩⟩;unfold Mod.Ag.tick;split
 ·exact h0
 ·split
  ·exact h0
  ·refine⟨r.ep,Nat.succ_le_succ r.tk,fun s hs=>?_,fun s hs y D=>?_⟩
   ·have:=r.sum s hs;simp only[Mod.sendFl,if_pos hs,gZ'];omega
   ·simp only[Mod.sendFl,if_pos hs]at D;obtain⟨x,z,h1,h2⟩:=hi' _ _ _ _ _ y D;have h3:=r.bod s hs x z;refine⟨h1 ▸ h3.1,?_⟩;have:=r.tk;rcases h2 with h2|h2
    ·omega
    ·omega
theorem pC' {N:Nat} {a:Mod.Ag} (r:aL' N a) (n:Nat->Nat) (D:∀s,s < 3->n s<=(a.fl s).kept.length):aL' N (a.drop n):=by
 refine⟨r.ep,r.tk,fun s hs=>?_,fun s hs x z=>?_⟩
 ·have:=r.sum s hs;have:=D s hs;simp only[Mod.Ag.drop,Mod.dropTo,if_pos hs,Mod.Flow.drop,List.length_drop];omega
 ·simp only[Mod.Ag.drop,Mod.dropTo,if_pos hs,Mod.Flow.drop]at z;exact r.bod s hs x (List.mem_of_mem_drop z)
theorem fO' {N:Nat} {a:Mod.Ag} (r:aL' N a) (k e st q:Int) (b:ByteArray):aL' N (a.deliver k e st q b):=by
 have z:=pC' r (a.says k e st q b) (fun s _=>gs' a k e st q b s);unfold Mod.Ag.deliver;split
 ·exact⟨r.ep,r.tk,r.sum,r.bod⟩
 ·split
  ·exact r
  ·split
   ·exact⟨r.ep,r.tk,r.sum,r.bod⟩
   ·split
    ·refine⟨z.ep,z.tk,fun s hs=>?_,fun s hs x D=>?_⟩
     ·have:=z.sum s hs;simp only[Mod.fresh,if_pos hs,List.length_map];exact this
     ·simp only[Mod.fresh,if_pos hs]at D;obtain⟨y,G,rfl⟩:=List.mem_map.1 D;exact⟨(z.bod s hs y G).1,Nat.zero_le _⟩
    ·split
     ·split
      ·exact r
      ·refine⟨z.ep,z.tk,fun s hs=>?_,fun s hs x D=>?_⟩
       ·have:=z.sum s hs;simp only[Mod.upd];split
        ·rename_i F;subst F;exact this
        ·exact this
       ·simp only[Mod.upd]at D;split at D
        ·rename_i F;subst F;exact z.bod _ hs x D
        ·exact z.bod s hs x D
     ·exact r
def aG' (a:Mod.Ag) (i:Int):List ByteArray:=if 0<=i/\i < 3 then a.spool i.toNat else []
def aB' (a:Mod.Ag) (l:List UInt8):Int×Mod.Ag:=
 if Wire.reads l=true then(0,a.deliver (Wire.kindOf l) (Wire.epochOf l) (Wire.streamOf l) (Wire.seqOf l) (Wire.bodyOf l))else(1,a)
def aD' (a:Mod.Ag) (i:Int) (s:ByteArray):Mod.Ag:=if a.refuses i s.size=0 then a.submit i.toNat s else a
structure jf' (top:Nat) where
 At:World->Nat->Mod.Ag->(Nat->Prop)->Prop
 lt:∀ {w v a U},At w v a U->∀k,U k->k < w.heap.size
 far:∀ {w w' v a U E},At w v a U->Far E w w'->(∀k,U k->¬E k)->At w' v a U
 submit:∀ {w v a U N} (i:Int) (s:ByteArray),At w v a U->aL' N a->N < top->Calls Tryz.prog 22 #[A' v, .int .i64 i, .string s] w fun r w'=>
  ∃U',r= .returned (.int .i64 (a.refuses i s.size))/\At w' v (aD' a i s) U'/\Far U w w'/\∀k,U' k->U k\/w.heap.size<=k
 deliver:∀ {w v a U N} (bs:Value) (l:List UInt8),At w v a U->aL' N a->N < top->ab' w bs l->Calls Tryz.prog 16 #[A' v,bs] w fun r w'=>
  ∃U',r= .returned (.int .i64 (aB' a l).1)/\At w' v (aB' a l).2 U'/\Far U w w'/\∀k,U' k->U k\/w.heap.size<=k
 tick:∀ {w v a U N},At w v a U->aL' N a->N < top->Calls Tryz.prog 13 #[A' v] w fun r w'=>
  ∃lv fs U',r= .returned lv/\Q' w.heap.size w' lv fs (a.tick.2.map fun l=>⟨l.toArray⟩) U'/\At w' v a.tick.1 U'/\Far U w w'/\∀k,U' k->U k\/w.heap.size<=k
 epoch:∀ {w v a U},At w v a U->Calls Tryz.prog 24 #[A' v] w fun r w'=>r= .returned (.int .i64 a.epoch)/\Below w.heap.size w w'
 spool:∀ {w v a U} (i:Int),At w v a U->Calls Tryz.prog 18 #[A' v, .int .i64 i] w fun r w'=>
  ∃lv,r= .returned lv/\w'.ownsRow w.heap.size 9 1 lv (aG' a i).length (aV' (aG' a i))/\Below w.heap.size w w'
 opened:∀ {w} (bs:Value),ab' w bs (List.replicate 1664 0)->Calls Tryz.prog 21 #[bs] w fun r w'=>
  ∃v U,r= .returned (.tuple #[A' v, .int .i64 0])/\At w' v {epoch:=1,ticks:=0,welcome:=false,fenced:=false,fl:=fun _=>{base:=0,kept:=[],held:=[]}} U/\Below w.heap.size w w'/\∀k,U k->w.heap.size<=k
section
variable {top N:Nat} {C:jf' top} {w x:World} {q sv rp:Nat} {a:Mod.Ag} {r:wY'} {kv hk:Nat->Value} {U:Nat->Prop} {left:Int} {E:Nat->Prop}
end
theorem di' (q:Nat) (r:q<=1000000000000) (w:World):Calls Tryz.prog 168 #[.int .i64 q] w fun e w'=>e= .returned (.int .i64 ((q:Int)+2))/\w'=w:=by
 have z:IntKind.i64.wrap ((q:Int)+2)=(q:Int)+2:=by rw[IntKind.wrap_i64];omega
 go_enter Tryz.func168,Tryz.ntmps168;go_wp2;go_ret;exact⟨rfl,rfl⟩
theorem uW':(Tryz.prog.info? 3).map (fun i=>(i.zero,i.size,i.bytes))=some (some (.int .i64 0),1,8):=by kernel_rfl
theorem gE' (q:Nat) (ai:q<=1000000000) (b:ByteArray) (aj:0 < b.size) (w:World):
  Calls Tryz.prog 120 #[.int .i64 q, .string b] w fun e w'=>∃v,e= .returned v/\w'.ownsRow w.heap.size 3 1 v (Mod.bitsOf q b[0].toNat 3).length (J' (Mod.bitsOf q b[0].toNat 3))/\Below w.heap.size w w':=by
 obtain⟨i0,hi,Y,Z,aa⟩:=bp' uW';go_enter Tryz.func120,Tryz.ntmps120;go_wp2;go_loopw[5,6,7] (fun v5 _ i wr=>∃j:Nat,j<=3/\i= .int .i64 j/\wr.ownsRow w.heap.size 3 1 v5 (Mod.bitsOf q b[0].toNat j).length (J' (Mod.bitsOf q b[0].toNat j))/\Below w.heap.size w wr) (fun _ _ i _=>3 - (intOf i).toNat)
 case atStart=>exact⟨0,by omega,rfl,World.ownsRow_nil _ _ _ _,Below.refl _ _⟩
 case round=>
  obtain⟨j,hj,rfl,ab,ac⟩:=hrel;have D:=y' ab;have H:=y' ac;clear ab ac;rcases(show j=0\/j=1\/j=2\/j=3 by omega)with rfl|rfl|rfl|rfl
  ·have O:=cY' q b[0].toNat 0;have I:(bits BinOp.and IntKind.u8 (((b[0].toNat:Nat):Int)) 1==1)=decide (b[0].toNat % 2=1):=bit0 ⟨b[0].toNat,b[0].toNat_lt⟩;have ad:IntKind.i64.wrap ((q:Int)+2+0)=(q:Int)+2+0:=by rw[IntKind.wrap_i64];omega
   have Q:=fun y=>di' q (by omega) y;by_cases r:b[0].toNat % 2=1
   ·have z:=y' (show Mod.bitsOf q b[0].toNat (0+1)=Mod.bitsOf q b[0].toNat 0++[q+2+0] by simp[Mod.bitsOf,r]);simp only[r,decide_true]at I;generalize Mod.bitsOf q b[0].toNat 0=J at O z D;have U:=(i' H).size;go_upto_region 7 with (first|(go_at_call 168;refine(Q _).mono ?_;rintro e y ⟨rfl,rfl⟩)|(at_builtin;refine wpList_append_own _ rfl (.tmp 16) (.tmp 21) 101 rfl w.heap.size 3 i0 (.int .i64 0) 1 8 Tryz.underlying101 hi Y Z aa rfl (by decide) u5 J.length (J' J) rfl ((i' D).alloc _) ⟨y.heap.size,0,none⟩ 1 1 [.int .i64 ((q:Int)+2)] rfl rfl bX' (by intro u hu;simp at hu;subst hu;rfl) (by unfold maxLen;omega) (by omega) (by simp;omega) ?_;intro ah V F M _;have G:Below w.heap.size w V:=(i' H).trans (((Below.refl _ y).alloc U _).trans (ac' (B:=w.heap.size) M (by simp;omega) (fun g X=>(World.ownsRow.lt (i' D) g X).1)));replace F:=y' F;replace G:=y' G;clear M));go_wp2;go_roundw
    case rel=>exact⟨0+1,by omega,by go_num,by have:=i' F;rw[i' z,List.length_append,ez'];simpa using this,i' G⟩
    case measure=>simp[intOf]
   ·have z:=y' (show Mod.bitsOf q b[0].toNat (0+1)=Mod.bitsOf q b[0].toNat 0 by simp[Mod.bitsOf,r]);simp only[r,decide_false]at I;go_wp2;exact⟨⟨0+1,by omega,by go_num,by rw[i' z];exact i' D,i' H⟩,by simp[intOf]⟩
  ·have O:=cY' q b[0].toNat 1;have I:(bits BinOp.and IntKind.u8 (((b[0].toNat:Nat):Int) / 2) 1==1)=decide (b[0].toNat / 2 % 2=1):=bit1 ⟨b[0].toNat,b[0].toNat_lt⟩;have ad:IntKind.i64.wrap ((q:Int)+2+1)=(q:Int)+2+1:=by rw[IntKind.wrap_i64];omega
   have Q:=fun y=>di' q (by omega) y;by_cases r:b[0].toNat / 2 % 2=1
   ·have z:=y' (show Mod.bitsOf q b[0].toNat (1+1)=Mod.bitsOf q b[0].toNat 1++[q+2+1] by simp[Mod.bitsOf,r]);simp only[r,decide_true]at I;generalize Mod.bitsOf q b[0].toNat 1=J at O z D;have U:=(i' H).size;go_upto_region 7 with (first|(go_at_call 168;refine(Q _).mono ?_;rintro e y ⟨rfl,rfl⟩)|(at_builtin;refine wpList_append_own _ rfl (.tmp 16) (.tmp 21) 101 rfl w.heap.size 3 i0 (.int .i64 0) 1 8 Tryz.underlying101 hi Y Z aa rfl (by decide) u5 J.length (J' J) rfl ((i' D).alloc _) ⟨y.heap.size,0,none⟩ 1 1 [.int .i64 ((q:Int)+2+1)] rfl rfl bX' (by intro u hu;simp at hu;subst hu;rfl) (by unfold maxLen;omega) (by omega) (by simp;omega) ?_;intro ah V F M _;have G:Below w.heap.size w V:=(i' H).trans (((Below.refl _ y).alloc U _).trans (ac' (B:=w.heap.size) M (by simp;omega) (fun g X=>(World.ownsRow.lt (i' D) g X).1)));replace F:=y' F;replace G:=y' G;clear M));go_wp2;go_roundw
    case rel=>exact⟨1+1,by omega,by go_num,by have:=i' F;rw[i' z,List.length_append,ez'];simpa using this,i' G⟩
    case measure=>simp[intOf]
   ·have z:=y' (show Mod.bitsOf q b[0].toNat (1+1)=Mod.bitsOf q b[0].toNat 1 by simp[Mod.bitsOf,r]);simp only[r,decide_false]at I;go_wp2;exact⟨⟨1+1,by omega,by go_num,by rw[i' z];exact i' D,i' H⟩,by simp[intOf]⟩
  ·have O:=cY' q b[0].toNat 2;have I:(bits BinOp.and IntKind.u8 (((b[0].toNat:Nat):Int) / 4) 1==1)=decide (b[0].toNat / 4 % 2=1):=bit2 ⟨b[0].toNat,b[0].toNat_lt⟩;have ad:IntKind.i64.wrap ((q:Int)+2+2)=(q:Int)+2+2:=by rw[IntKind.wrap_i64];omega
   have Q:=fun y=>di' q (by omega) y;by_cases r:b[0].toNat / 4 % 2=1
   ·have z:=y' (show Mod.bitsOf q b[0].toNat (2+1)=Mod.bitsOf q b[0].toNat 2++[q+2+2] by simp[Mod.bitsOf,r]);simp only[r,decide_true]at I;generalize Mod.bitsOf q b[0].toNat 2=J at O z D;have U:=(i' H).size;go_upto_region 7 with (first|(go_at_call 168;refine(Q _).mono ?_;rintro e y ⟨rfl,rfl⟩)|(at_builtin;refine wpList_append_own _ rfl (.tmp 16) (.tmp 21) 101 rfl w.heap.size 3 i0 (.int .i64 0) 1 8 Tryz.underlying101 hi Y Z aa rfl (by decide) u5 J.length (J' J) rfl ((i' D).alloc _) ⟨y.heap.size,0,none⟩ 1 1 [.int .i64 ((q:Int)+2+2)] rfl rfl bX' (by intro u hu;simp at hu;subst hu;rfl) (by unfold maxLen;omega) (by omega) (by simp;omega) ?_;intro ah V F M _;have G:Below w.heap.size w V:=(i' H).trans (((Below.refl _ y).alloc U _).trans (ac' (B:=w.heap.size) M (by simp;omega) (fun g X=>(World.ownsRow.lt (i' D) g X).1)));replace F:=y' F;replace G:=y' G;clear M));go_wp2;go_roundw
    case rel=>exact⟨2+1,by omega,by go_num,by have:=i' F;rw[i' z,List.length_append,ez'];simpa using this,i' G⟩
    case measure=>simp[intOf]
   ·have z:=y' (show Mod.bitsOf q b[0].toNat (2+1)=Mod.bitsOf q b[0].toNat 2 by simp[Mod.bitsOf,r]);simp only[r,decide_false]at I;go_wp2;exact⟨⟨2+1,by omega,by go_num,by rw[i' z];exact i' D,i' H⟩,by simp[intOf]⟩
  ·go_wp2;go_ret;exact⟨_,rfl,i' D,i' H⟩
end Go.Proofs.YtamafdcnbcoegabGreat
