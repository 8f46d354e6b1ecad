/-
  Part 5 of a proof: D10, D11, D12, D13, D14, D15, D16, D17, Y7, Y8, Y9, Y10, Y11, T1, X12, X13, X14, X16, G4, G5, MonoCut, T2, U1, U2, F1.
-/
import Derived.Laws.Cover3
import Derived.Deep.RegionLaw
import Derived.Test.YtamafdcnbcoegaaGreatSf4
set_option maxRecDepth 100000
set_option maxHeartbeats 40000000
namespace Go.Proofs.YtamafdcnbcoegaaGreat
open Go.RowKit
theorem dC' (w:World) (s dp k:Nat) (S:List UInt8) (Z:S.length=64) (e:Int) (R O:World->Prop) (E:Nat->Prop)
  (hs:∀y,Below w.heap.size w y\/R y->y.cell? ⟨s,0,none⟩=some (y' dp))
  (Q:∀y,Below w.heap.size w y->Calls Tryz.prog 182 #[y' dp, .int .i64 k, .agg (bv S).toArray] y fun u w'=>u= .returned (.int .i64 e)/\R w'/\Far E y w')
  (aa:∀y f,R y->Below y.heap.size y f->R f)
  (U:∀y,R y->Calls Tryz.prog 183 #[y' dp] y fun u w'=>u= .returned (.tuple #[])/\O w'):
  Calls Tryz.prog 130 #[y' s, .int .i64 k, .agg (bv S).toArray] w fun u w'=>u= .returned (.int .i64 e)/\O w':=by
 unfold y' at *;have V:=t' hs;have ab:=t' Q;have ac:=t' U;clear hs Q U;go_enter Tryz.func130,Tryz.ntmps130;go_upto_region 1 with fail;refine C' (fun x=>x.heap[w.heap.size]? =some (.cells (bv S).toArray 207 (0,0))/\Below w.heap.size w x) ⟨heap_alloc_new w _,(Below.refl _ _).alloc (Nat.le_refl _) _⟩ ?_;rintro x ⟨h0,X⟩;have ao:=lt_of_block h0;have ad:=t' h0;have H:=t' X;clear h0 X;refine Q' (by kernel_rfl)
  [fun v _=>v= .pointer (some ⟨s,0,none⟩),fun v _=>v= .pointer (some ⟨s,0,none⟩),fun v _=>v= .pointer (some ⟨s,0,none⟩),fun v _=>v= .pointer (some ⟨dp,0,none⟩),fun v _=>v= .int .i64 k,fun v _=>v= .agg (bv S).toArray,fun v y=>v= .int .i64 e/\R y,fun v _=>v= .int .i64 e]
  [[(0,none)],[(8,some 0)],[(9,some 1)],[(10,some 2)],[(1,none)],[(5,none)],[(11,some 3),(12,some 4),(13,some 5)],[(14,some 6)]] [some 8,some 9,some 10,some 11,some 12,some 13,some 14,some 7] [false,false,false,false,false,false,false,true,true,true,true,true,true,true,true,false,false,false,false,false,false]
  [(6,E)]
  (by kernel_rfl) (by kernel_rfl) (by kernel_rfl) (by kernel_rfl) (by kernel_rfl) ?_ ?_ ?_ ?_
 ·repeat' (first|exact J' _|exact(fun _ y f h D=>⟨h.1,aa y f h.2 D⟩)|exact trivial|apply And.intro)
 ·repeat' (first|exact trivial|exact .inl rfl|exact .inr (.inr (ak' _ _))|apply And.intro)
 ·refine⟨?_,?_,?_,?_,?_,?_,?_,?_,trivial⟩;all_goals
   intro a f D F;simp only[I',List.getD_cons_zero,List.getD_cons_succ,Array.getD_eq_getD_getElem?]at F;try simp at F
  ·go_simp;exact⟨_,rfl,Far.refl _ _,rfl⟩
  ·go_simp;exact⟨_,rfl,Far.refl _ _,rfl⟩
  ·go_simp;exact⟨_,rfl,Far.refl _ _,rfl⟩
  ·have G:Below w.heap.size w f:=(i' H).trans ((D.below (B:=x.heap.size) (Nat.le_refl _) (by rintro j hj ⟨q,r,g1,g2,Y⟩;simp at r;subst r;exact absurd (show ar' _ 6 3=false from g2) (by decide+kernel))).mono (i' H).size);have c0:=(i' V) f (.inl G);clear G;go_simp;exact⟨_,rfl,Far.refl _ _,rfl⟩
  ·go_simp;exact⟨_,rfl,Far.refl _ _,rfl⟩
  ·have ah:=D.blk (i' ad) (by rintro⟨q,r,g1,g2,Y⟩;simp at r;subst r;exact absurd (show ar' _ 6 5=false from g2) (by decide+kernel));rw[if_pos (by rfl)];refine co' (.tmp 5) rfl w.heap.size (by simp[Act.eval,F]) 207 S Z ah ?_;exact⟨_,rfl,Far.refl _ _,rfl⟩
  ·have G:Below w.heap.size w f:=(i' H).trans ((D.below (B:=x.heap.size) (Nat.le_refl _) (by rintro j hj ⟨q,r,g1,g2,Y⟩;simp at r;subst r;exact g1 rfl)).mono (i' H).size);have J:=t' ((i' ab) f G);clear G;go_simp;refine(i' J).mono ?_;rintro u ap ⟨rfl,ai,hF⟩;exact⟨_,rfl,ac' (.head _) hF,rfl,ai⟩
  ·obtain⟨F,_⟩:=F;go_simp;exact⟨_,rfl,Far.refl _ _,rfl⟩
 ·intro z f hF M;have I:=M.2.2.2.2.2.2.1;have aj:=M.2.2.2.2.2.2.2.1;have aq:=t' I.2;have c0:=(i' V) f (.inr I.2);have J:=t' ((i' ac) f I.2);clear M hF I;simp only[R',aj];generalize z 8=au;generalize z 9=av;generalize z 10=ax;generalize z 11=ay;generalize z 12=az;generalize z 13=aA;generalize z 14=aB;go_simp;go_wp2_with (go_at_call 183;refine(i' J).mono ?_;rintro u aC ⟨rfl,ak⟩);go_ret;exact⟨rfl,ak⟩
theorem dY' {w:World} {dp s:Nat} {d:Mod.Dk} {lv r:Value} (f:dS' w dp d lv r) {c:Array Value} {t:TypeId} {fr:Nat×Nat} (hs:w.heap[s]? =some (.cells c t fr)) (h1:252≠t) (h2:5≠t) (h3:261≠t):¬DkU dp lv r s:=by
 rintro(h|h|h)
 ·subst h;have:=f.blk;rw[hs]at this;injection this with this;injection this with _ this _;exact h1 this.symm
 ·exact(ao'.of_own f.row).ne hs h2 h
 ·exact f.un.ne hs h3 h
theorem ft' (w:World) (s dp:Nat) (lv z a b c:Value) (d:Mod.Dk) (k:Nat) (S:List UInt8) (J:S.length=64) (Q:64 * k+64<=d.bytes.length)
  (hs:w.heap[s]? =some (.cells #[y' dp,a,b,c] 203 (0,0))) (f:dS' w dp d lv z):
  Calls Tryz.prog 130 #[y' s, .int .i64 k, .agg (bv S).toArray] w fun D w'=>D= .returned (.int .i64 (d.put k S).1)/\
   ∃I,dS' w' dp (d.put k S).2 lv I/\Loc w z I/\Far (DkU dp lv z) w w':=by
 have V:=dY' f hs (by decide) (by decide) (by decide);have aa:=f.lt;have c0:∀y,Far (DkU dp lv z) w y->y.cell? ⟨s,0,none⟩=some (y' dp):=fun y hF=>m' (i:=0) (hF.blk hs V);by_cases hd:d.dead=true
 ·rw[Mod.Dk.put,if_pos hd];have r:=f.blk;rw[hd]at r;refine(dC' w s dp k S J 3 (fun y=>Below w.heap.size w y) (fun y=>Below w.heap.size w y) (fun _=>False) ?_ ?_ ?_ ?_).mono ?_
  ·rintro y (h|h)
   ·exact c0 y (A' h)
   ·exact c0 y (A' h)
  ·intro y u;refine(kc' y dp lv z d.armed k S ((u.block _ (lt_of_block r)).trans r)).mono ?_;rintro D G ⟨rfl,O⟩;exact⟨rfl,u.trans (O.mono u.size),A' O⟩
  ·exact fun y G h r=>h.trans (r.mono h.size)
  ·intro y u;refine(mp' y dp lv z d.armed ((u.block _ (lt_of_block r)).trans r)).mono ?_;rintro D G ⟨rfl,rfl⟩;exact⟨rfl,u⟩
  ·rintro D y ⟨rfl,u⟩;exact⟨rfl,z,f.far (A' (E:=fun _=>False) u) (fun _ _ h=>h), .inr (.inl rfl),A' u⟩
 ·have hd:d.dead=false:=by cases h:d.dead with|true=>exact absurd h hd|false=>rfl
  have r:=f.blk;rw[hd]at r;by_cases M:d.armed=1
  ·rw[Mod.Dk.put,if_neg (by simp[hd]),if_pos M];rw[M]at r;refine(dC' w s dp k S J 4 (fun y=>y.heap[dp]? =some (.cells #[lv,z, .int .i64 1, .bool true] 252 (0,0))/\Far (fun j=>j=dp) w y) (fun y=>y.heap[dp]? =some (.cells #[lv,z, .int .i64 1, .bool true] 252 (0,0))/\Far (fun j=>j=dp) w y) (fun j=>j=dp) ?_ ?_ ?_ ?_).mono ?_
   ·rintro y (h|h)
    ·exact c0 y (A' h)
    ·exact c0 y (h.2.mono (fun _ _ e=> .inl e))
   ·intro y u;refine(kd' y dp lv z k S ((u.block _ (lt_of_block r)).trans r)).mono ?_;rintro D G ⟨rfl,O,hF⟩;exact⟨rfl,⟨O,(A' (E:=fun j=>j=dp) u).trans hF (fun _ _ h=>h)⟩,hF⟩
   ·exact fun y G h r=>⟨(r.block _ (lt_of_block h.1)).trans h.1,h.2.trans (A' (E:=fun _=>False) r) (fun _ _ h=>h.elim)⟩
   ·intro y u;refine(mp' y dp lv z 1 u.1).mono ?_;rintro D G ⟨rfl,rfl⟩;exact⟨rfl,u⟩
   ·rintro D y ⟨rfl,u,hF⟩;refine⟨rfl,z,⟨by rw[M];exact u,aw' f.row (fun g F=>hF.rest g (World.ownsRow.lt f.row g F).2 (fun e=>(ao'.of_own f.row).ne r (by decide) (by rw[F,e]))),f.un.far hF (fun g F e=>f.un.ne r (by decide) (by rw[F,e])),f.len,f.arm⟩, .inr (.inl rfl),hF.mono (fun _ _ e=> .inl e)⟩
  ·rw[Mod.Dk.put,if_neg (by simp[hd]),if_neg M];have ab:=f.un.ne r (by decide);have X:=(ao'.of_own f.row).ne r (by decide);refine(dC' w s dp k S J 0 (fun y=>uH' w dp lv z (d.armed - 1:Nat) (.int .i64 k::bv S) y/\Far (fun j=>j=dp\/z.ownBlock=some j) w y)
    (fun y=>∃I,dS' y dp {bytes:=Mod.setSec d.bytes k S,armed:=d.armed - 1,dead:=false} lv I/\Loc w z I/\Far (DkU dp lv z) w y) (fun j=>j=dp\/z.ownBlock=some j) ?_ ?_ ?_ ?_).mono ?_
   ·rintro y (h|h)
    ·exact c0 y (A' h)
    ·exact c0 y (h.2.mono (fun _ _ e=>e.elim .inl (fun e=> .inr (.inr e))))
   ·intro y u;refine(mZ' y dp lv z d.armed k S J M f.arm ((u.block _ (lt_of_block r)).trans r) (f.un.keep (fun g F=>u.block g (f.un.lt g F)))).mono ?_;rintro D G ⟨rfl,⟨v,g1,g2,H,U⟩,hF⟩;exact⟨rfl,⟨⟨v,g1,g2,bw' H u.size,Nat.le_trans u.size U⟩,(A' (E:=fun j=>j=dp\/z.ownBlock=some j) u).trans hF (fun _ _ h=>h)⟩,hF⟩
   ·exact fun y G h r=>⟨ja' w dp lv z _ _ undef y G h.1 r,h.2.trans (A' (E:=fun _=>False) r) (fun _ _ h=>h.elim)⟩
   ·rintro y ⟨⟨v,g1,g2,H,U⟩,hF⟩;have Y:=aw' f.row (w':=y) (fun g F=>hF.rest g (World.ownsRow.lt f.row g F).2 (by
     rintro(e|e)
     ·exact X (by rw[F,e])
     ·exact(ao'.of_own f.row).ty f.un (by decide) F e))
    refine(ts' y dp lv v _ k S d.bytes J Q f.len.2 g1 g2 Y).mono ?_;rintro D G ⟨rfl,I,k1,k2,k3,k4,k5⟩;refine⟨rfl,I,⟨k1,k4,k3,by rw[Mod.length_setSec J Q];exact f.len,by have:=f.arm;show d.armed - 1<= _;omega⟩,?_,?_⟩
    ·rcases H with H|H|⟨g,H,Z⟩
     ·exact .inl (by rw[k2];exact H)
     ·exact .inr (.inl (by rw[k2];exact H))
     ·exact .inr (.inr ⟨g,by rw[k2];exact H,Z⟩)
    ·refine(hF.mono (fun _ _ e=>e.elim .inl (fun e=> .inr (.inr e)))).trans k5 (fun j _ e=>e.elim .inl (fun e=> .inr (.inl e)))
   ·rintro D y ⟨rfl,h⟩;exact⟨rfl,h⟩
structure cC' (w:World) (s dp:Nat) (st:Mod.Stv) (lv uv:Value):Prop where
 blk:w.heap[s]? =some (.cells #[y' dp, .int .u32 st.opening, .int .u64 st.count, .int .i64 st.head] 203 (0,0))
 dk:dS' w dp st.dk lv uv
 op:st.opening < 4294967296
 ct:st.count < 18446744073709551616
 hd:st.head<=1
def StU (s dp:Nat) (lv f:Value) (k:Nat):Prop:=k=s\/DkU dp lv f k
theorem cC'.sep {w:World} {s dp:Nat} {st:Mod.Stv} {lv f:Value} (h:cC' w s dp st lv f):¬DkU dp lv f s:=dY' h.dk h.blk (by decide) (by decide) (by decide)
theorem cC'.far {E:Nat->Prop} {w x:World} {s dp:Nat} {st:Mod.Stv} {lv f:Value} (h:cC' w s dp st lv f) (r:Far E w x) (u:∀k,StU s dp lv f k->¬E k):cC' x s dp st lv f:=
 ⟨r.blk h.blk (u s (.inl rfl)),h.dk.far r (fun k z=>u k (.inr z)),h.op,h.ct,h.hd⟩
theorem cC'.lt {w:World} {s dp:Nat} {st:Mod.Stv} {lv f:Value} (h:cC' w s dp st lv f):∀k,StU s dp lv f k->k < w.heap.size:=by
 rintro k (rfl|r)
 ·exact lt_of_block h.blk
 ·exact h.dk.lt k r
theorem cg' (w:World) (s dp:Nat) (st:Mod.Stv) (lv z:Value) (G:cC' w s dp st lv z) (a b d:Nat) (az:a < 4294967296) (r:b < 4294967296) (hd:d < 4294967296):
  Calls Tryz.prog 149 #[y' s, .agg #[.int .i64 a, .int .i64 b, .int .i64 d]] w fun ab w'=>ab= .returned (.int .i64 (st.putNumbers a b d).1)/\
   ∃H,cC' w' s dp (st.putNumbers a b d).2 lv H/\Loc w z H/\Far (StU s dp lv z) w w':=by
 have aj:=lt_of_block G.blk;have ak:st.next < 18446744073709551616:=Nat.mod_lt _ (by omega)
 have aV:=G.dk.len;have V:64 * (1 - st.head)+64<=st.dk.bytes.length:=by omega
 have ao:=Mod.length_sealB st.opening st.next (inside:=Mod.headIn a b d) (by rw[Mod.length_headIn];omega)
 have aW:=G.hd;have M:=t' G;unfold y' at *;go_enter Tryz.func149,Tryz.ntmps149;have O:=fun f=>(heap_alloc_old w f aj).trans G.blk;have c1:∀f,(w.alloc f).cell? ⟨s,3,none⟩=some (.int .i64 st.head):=fun f=>m' (i:=3) (O f);have c2:∀f,(w.alloc f).cell? ⟨s,2,none⟩=some (.int .u64 st.count):=fun f=>m' (i:=2) (O f);have aA:w.cell? ⟨s,3,none⟩=some (.int .i64 st.head):=m' (i:=3) G.blk;have aB:w.cell? ⟨s,2,none⟩=some (.int .u64 st.count):=m' (i:=2) G.blk;have aC:∀f,(w.alloc f).frozen? ⟨s,3,none⟩=false:=fun f=>D' (i:=3) (O f);have aD:∀f,(w.alloc f).frozen? ⟨s,2,none⟩=false:=fun f=>D' (i:=2) (O f);have g1:w.frozen? ⟨s,3,none⟩=false:=D' (i:=3) G.blk;have g2:w.frozen? ⟨s,2,none⟩=false:=D' (i:=2) G.blk;clear G O;have aE:IntKind.i64.wrap (1 - (st.head:Int))=1 - (st.head:Int):=by rw[IntKind.wrap_i64];omega
 go_upto_region 3 with fail
 have ap:IntKind.u64.wrap ((st.count:Int)+1)=((st.next:Nat):Int):=by rw[IntKind.wrap_u64,Mod.Stv.next];omega
 have aq:1 - (st.head:Int)=((1 - st.head:Nat):Int):=by omega
 refine C' (fun x=>x.heap[s]? =some (.cells #[.pointer (some ⟨dp,0,none⟩), .int .u32 st.opening, .int .u64 st.next, .int .i64 (1 - st.head:Nat)] 203 (0,0))/\x.heap[w.heap.size]? =some (.cells #[.int .i64 a, .int .i64 b, .int .i64 d] 136 (0,0))/\dS' x dp st.dk lv z/\Far (fun k=>k=s) w x/\w.heap.size < x.heap.size) ?_ ?_
 ·rw[ap,aq];have hF:Far (fun k=>k=s) w (((w.setCell ⟨s,3,none⟩ (.int .i64 (1 - st.head:Nat))).setCell ⟨s,2,none⟩ (.int .u64 st.next)).alloc (.cells #[.int .i64 a, .int .i64 b, .int .i64 d] 136)):=
   ((O' w s 3 _).trans (O' _ s 2 _) (fun _ _ h=>h)).trans (A' ((Below.refl _ _).alloc (Nat.le_refl _) _)) (fun _ _ h=>h)
  refine⟨?_,?_,(i' M).dk.far hF (fun k V e=>(i' M).sep (by rw[<-e];exact V)),hF,by simp⟩
  ·rw[hao _ _ (by simp;exact aj)];have h1:=af' (j:=3) (v:= .int .i64 (1 - st.head:Nat)) (i' M).blk;have h2:=af' (j:=2) (v:= .int .u64 st.next) h1;simpa[y']using h2
  ·have:=heap_alloc_new ((w.setCell ⟨s,3,none⟩ (.int .i64 (1 - st.head:Nat))).setCell ⟨s,2,none⟩ (.int .u64 st.next)) (.cells #[.int .i64 a, .int .i64 b, .int .i64 d] 136);simpa using this
 rintro x ⟨h0,h1,I,hF,aX⟩;have aY:=lt_of_block h0;have au:¬DkU dp lv z s:=dY' I h0 (by decide) (by decide) (by decide);have aF:¬DkU dp lv z w.heap.size:=dY' I h1 (by decide) (by decide) (by decide);have aZ:=I.lt;obtain⟨J,X⟩:∃J,J=Mod.sealB st.opening st.next (Mod.headIn a b d):=⟨_,rfl⟩
 rw[<-X]at ao;have ac:=fun y (r:y.heap[s]? = _) (I:dS' y dp st.dk lv z)=>t' (ft' y s dp lv z (.int .u32 st.opening) (.int .u64 st.next) (.int .i64 (1 - st.head:Nat)) st.dk (1 - st.head) J ao V r I);have av:=fun y=>t' (gT' st.opening st.next a b d y (i' M).op ak az r hd);rw[<-X]at av;obtain⟨Q,ad⟩:∃Q,Q=(st.dk.put (1 - st.head) J).1:=⟨_,rfl⟩;obtain⟨Y,ah⟩:∃Y,Y=(st.dk.put (1 - st.head) J).2:=⟨_,rfl⟩;rw[<-ad,<-ah]at ac;have aG:=t' (And.intro X (And.intro ad ah));have ax:=t' h0;have aH:=t' h1;have aI:=t' I;have aJ:=t' hF;clear X ad ah h0 h1 I hF c1 c2 aA aB aC aD g1 g2 aE ap aq;unfold y' at ac;refine Q' (by kernel_rfl)
  [fun v _=>v= .pointer (some ⟨s,0,none⟩),fun v _=>v= .pointer (some ⟨s,0,none⟩),fun v _=>v= .pointer (some ⟨s,0,none⟩),fun v _=>v= .pointer (some ⟨s,3,none⟩),fun v _=>v= .int .i64 (1 - st.head:Nat),
   fun v _=>v= .pointer (some ⟨s,0,none⟩),fun v _=>v= .pointer (some ⟨s,0,none⟩),fun v _=>v= .pointer (some ⟨s,1,none⟩),fun v _=>v= .agg #[.int .u32 st.opening, .int .u64 st.next],fun v _=>v= .agg #[.int .i64 a, .int .i64 b, .int .i64 d],
   fun v _=>v= .agg #[.int .u32 st.opening, .int .u64 st.next, .int .i64 a, .int .i64 b, .int .i64 d],fun v _=>v= .agg (bv J).toArray,fun v y=>v= .int .i64 Q/\∃H,dS' y dp Y lv H/\Loc x z H,fun v _=>v= .int .i64 Q]
  [[(0,none)],[(0,none)],[(23,some 1)],[(24,some 2)],[(25,some 3)],[(0,none)],[(27,some 5)],[(28,some 6)],[(29,some 7)],[(3,none)],[(30,some 8),(31,some 9)],[(32,some 10)],[(22,some 0),(26,some 4),(33,some 11)],[(34,some 12)]] [some 22,some 23,some 24,some 25,some 26,some 27,some 28,some 29,some 30,some 31,some 32,some 33,some 34,some 4] [false,false,false,false,true,false,false,false,false,false,false,false,false,false,false,false,false,false,false,false,false,false,true,true,true,true,true,true,true,true,true,true,true,true,true]
  [(12,DkU dp lv z)]
  (by kernel_rfl) (by kernel_rfl) (by kernel_rfl) (by kernel_rfl) (by kernel_rfl) ?_ ?_ ?_ ?_
 ·repeat' (first|exact J' _|exact(fun _ y D h r=>⟨h.1,h.2.imp fun H h=>⟨h.1.far (A' (E:=fun _=>False) r) (fun _ _ h=>h),h.2⟩⟩)|exact trivial|apply And.intro)
 ·repeat' (first|exact trivial|exact .inl rfl|exact .inr (.inr (ak' _ _))|apply And.intro)
 ·refine⟨?_,?_,?_,?_,?_,?_,?_,?_,?_,?_,?_,?_,?_,?_,trivial⟩;all_goals
   intro a' D r Z;have z0:=r.blk (i' ax) (aa' (by intro q F;simp at F;subst F;exact au));have aa:=r.blk (i' aH) (aa' (by intro q F;simp at F;subst F;exact aF));have ba:D.cell? ⟨s,1,none⟩=some (.int .u32 st.opening):=m' (i:=1) z0;have bb:D.cell? ⟨s,2,none⟩=some (.int .u64 st.next):=m' (i:=2) z0;have bc:D.cell? ⟨s,3,none⟩=some (.int .i64 (1 - st.head:Nat)):=m' (i:=3) z0;have bd:D.cell? ⟨w.heap.size,0,none⟩=some (.int .i64 a):=m' (i:=0) aa;have be:D.cell? ⟨w.heap.size,1,none⟩=some (.int .i64 b):=m' (i:=1) aa;have bf:D.cell? ⟨w.heap.size,2,none⟩=some (.int .i64 d):=m' (i:=2) aa;have aK:=t' z0;clear z0 aa;simp only[I',List.getD_cons_zero,List.getD_cons_succ,Array.getD_eq_getD_getElem?]at Z;try simp at Z
  iterate 11
   ·clear r;go_simp;exact⟨_,rfl,Far.refl _ _,rfl⟩
  ·clear r;go_simp;refine(i' (av D)).mono ?_;rintro ab aL ⟨rfl,aM⟩;exact⟨_,rfl,A' aM,rfl⟩
  ·have ay:=(i' aI).far r (by rintro k V ⟨q,F,g1,g2,bg⟩;simp at F;subst F;exact g1 rfl);have aN:=t' (i' (ac D (i' aK) ay));have aO:=r.size;clear r ay;go_simp;refine(i' aN).mono ?_;rintro ab aL ⟨rfl,H,k1,k2,k3⟩;exact⟨_,rfl,ac' (.head _) k3,rfl,H,k1,bw' k2 aO⟩
  ·clear r;obtain⟨Z,_⟩:=Z;go_simp;exact⟨_,rfl,Far.refl _ _,rfl⟩
 ·intro u D U ai;obtain⟨_,H,k1,k2⟩:=ai.2.2.2.2.2.2.2.2.2.2.2.2.1;have aP:=ai.2.2.2.2.2.2.2.2.2.2.2.2.2.1;have U:Far (DkU dp lv z) x D:=U.mono (fun b _ h=>by obtain⟨q,F,h⟩:=h;simp at F;subst F;exact h);have z0:=U.blk (i' ax) au;have aQ:=t' (And.intro k1 (And.intro k2 (And.intro U z0)));clear ai k1 k2 U z0;simp only[R',aP];generalize u 22=bh;generalize u 23=bi;generalize u 24=bj;generalize u 25=bk;generalize u 26=bl;generalize u 27=bm;generalize u 28=bn;generalize u 29=bo;generalize u 30=bp;generalize u 31=bq;generalize u 32=br;generalize u 33=bt;generalize u 34=bu;go_simp;go_wp2;go_ret;obtain⟨k1,k2,k3,k4⟩:=i' aQ;obtain⟨aR,aS,aT⟩:=i' aG;have aU:st.putNumbers a b d=(Q,{st with head:=1 - st.head,count:=st.next,dk:=Y}):=by unfold Mod.Stv.putNumbers;rw[<-aR,<-aS,<-aT]
  rw[aU];exact⟨rfl,H,⟨k4,k1,(i' M).op,ak,by show 1 - st.head<=1;omega⟩,bw' k2 (by omega),((i' aJ).mono (fun _ _ e=> .inl e)).trans k3 (fun _ _ e=> .inr e)⟩
theorem de' (w:World) (s dp:Nat) (st:Mod.Stv) (lv z:Value) (I:cC' w s dp st lv z) (r sm q:Nat) (body:ByteArray) (aB:64 * (2+r)+64<=st.dk.bytes.length) (aC:sm < 256) (u:q < 4294967296) (aD:body.size<=20):
  Calls Tryz.prog 89 #[y' s, .int .i64 r, .agg #[.int .i64 sm, .int .i64 q, .string body]] w fun ac w'=>ac= .returned (.int .i64 (st.putRecord r sm q body.data.toList).1)/\
   ∃D,cC' w' s dp (st.putRecord r sm q body.data.toList).2 lv D/\Loc w z D/\Far (StU s dp lv z) w w':=by
 have ak:=lt_of_block I.blk;have ao:st.next < 18446744073709551616:=Nat.mod_lt _ (by omega)
 have aZ:=I.dk.len;have ap:=Mod.length_sealB st.opening st.next (inside:=Mod.recIn sm q body.data.toList) (by rw[Mod.length_recIn];simp;omega)
 have aE:=I.hd;have O:=t' I;unfold y' at *;go_enter Tryz.func89,Tryz.ntmps89;have ad:=fun H=>(heap_alloc_old w H ak).trans I.blk;have c2:∀H,(w.alloc H).cell? ⟨s,2,none⟩=some (.int .u64 st.count):=fun H=>m' (i:=2) (ad H);have aF:w.cell? ⟨s,2,none⟩=some (.int .u64 st.count):=m' (i:=2) I.blk;have aG:∀H,(w.alloc H).frozen? ⟨s,2,none⟩=false:=fun H=>D' (i:=2) (ad H);have g2:w.frozen? ⟨s,2,none⟩=false:=D' (i:=2) I.blk;clear I ad;have aH:IntKind.i64.wrap (2+(r:Int))=2+(r:Int):=by rw[IntKind.wrap_i64];omega
 go_upto_region 2 with fail
 have aq:IntKind.u64.wrap ((st.count:Int)+1)=((st.next:Nat):Int):=by rw[IntKind.wrap_u64,Mod.Stv.next];omega
 refine C' (fun x=>x.heap[s]? =some (.cells #[.pointer (some ⟨dp,0,none⟩), .int .u32 st.opening, .int .u64 st.next, .int .i64 st.head] 203 (0,0))/\x.heap[w.heap.size]? =some (.cells #[.int .i64 sm, .int .i64 q, .string body] 155 (0,0))/\dS' x dp st.dk lv z/\Far (fun k=>k=s) w x/\w.heap.size < x.heap.size) ?_ ?_
 ·rw[aq];have hF:Far (fun k=>k=s) w ((w.setCell ⟨s,2,none⟩ (.int .u64 st.next)).alloc (.cells #[.int .i64 sm, .int .i64 q, .string body] 155)):=
   (O' w s 2 _).trans (A' ((Below.refl _ _).alloc (Nat.le_refl _) _)) (fun _ _ h=>h)
  refine⟨?_,?_,(i' O).dk.far hF (fun k au e=>(i' O).sep (by rw[<-e];exact au)),hF,by simp⟩
  ·rw[hao _ _ (by simp;exact ak)];have h2:=af' (j:=2) (v:= .int .u64 st.next) (i' O).blk;simpa[y']using h2
  ·have:=heap_alloc_new (w.setCell ⟨s,2,none⟩ (.int .u64 st.next)) (.cells #[.int .i64 sm, .int .i64 q, .string body] 155);simpa using this
 rintro x ⟨h0,h1,J,hF,ba⟩;have bb:=lt_of_block h0;have av:¬DkU dp lv z s:=dY' J h0 (by decide) (by decide) (by decide);have aI:¬DkU dp lv z w.heap.size:=dY' J h1 (by decide) (by decide) (by decide);obtain⟨M,V⟩:∃M,M=Mod.sealB st.opening st.next (Mod.recIn sm q body.data.toList):=⟨_,rfl⟩
 rw[<-V]at ap;have X:=fun y (f:y.heap[s]? = _) (J:dS' y dp st.dk lv z)=>t' (ft' y s dp lv z (.int .u32 st.opening) (.int .u64 st.next) (.int .i64 st.head) st.dk (2+r) M ap aB f J);have ax:=fun y=>t' (fj' st.opening st.next sm q body y (i' O).op ao aC u aD);rw[<-V]at ax;obtain⟨Q,ah⟩:∃Q,Q=(st.dk.put (2+r) M).1:=⟨_,rfl⟩;obtain⟨Y,ai⟩:∃Y,Y=(st.dk.put (2+r) M).2:=⟨_,rfl⟩;rw[<-ah,<-ai]at X;have aJ:=t' (And.intro V (And.intro ah ai));have ay:=t' h0;have aK:=t' h1;have aL:=t' J;have aM:=t' hF;obtain⟨Z,az⟩:∃Z,Z=2+r:=⟨_,rfl⟩;rw[<-az]at X;have aN:2+(r:Int)=(Z:Int):=by omega
 rw[aN]at aH;clear az;clear V ah ai h0 h1 J hF c2 aF aG g2 aq;unfold y' at X;refine Q' (by kernel_rfl)
  [fun v _=>v= .pointer (some ⟨s,0,none⟩),fun v _=>v= .int .i64 r,fun v _=>v= .int .i64 Z,fun v _=>v= .pointer (some ⟨s,0,none⟩),fun v _=>v= .pointer (some ⟨s,0,none⟩),fun v _=>v= .pointer (some ⟨s,1,none⟩),fun v _=>v= .agg #[.int .u32 st.opening, .int .u64 st.next],fun v _=>v= .agg #[.int .i64 sm, .int .i64 q, .string body],
   fun v _=>v= .agg (bv M).toArray,fun v y=>v= .int .i64 Q/\∃D,dS' y dp Y lv D/\Loc x z D,fun v _=>v= .int .i64 Q]
  [[(0,none)],[(1,none)],[(17,some 1)],[(0,none)],[(19,some 3)],[(20,some 4)],[(21,some 5)],[(5,none)],[(22,some 6),(23,some 7)],[(16,some 0),(18,some 2),(24,some 8)],[(25,some 9)]] [some 16,some 17,some 18,some 19,some 20,some 21,some 22,some 23,some 24,some 25,some 6] [false,false,false,false,false,false,true,false,false,false,false,false,false,false,false,false,true,true,true,true,true,true,true,true,true,true]
  [(9,DkU dp lv z)]
  (by kernel_rfl) (by kernel_rfl) (by kernel_rfl) (by kernel_rfl) (by kernel_rfl) ?_ ?_ ?_ ?_
 ·repeat' (first|exact J' _|exact(fun _ y F h f=>⟨h.1,h.2.imp fun D h=>⟨h.1.far (A' (E:=fun _=>False) f) (fun _ _ h=>h),h.2⟩⟩)|exact trivial|apply And.intro)
 ·repeat' (first|exact trivial|exact .inl rfl|exact .inr (.inr (ak' _ _))|apply And.intro)
 ·refine⟨?_,?_,?_,?_,?_,?_,?_,?_,?_,?_,?_,trivial⟩;all_goals
   intro a' F f aa;have z0:=f.blk (i' ay) (aa' (by intro q u;simp at u;subst u;exact av));have ab:=f.blk (i' aK) (aa' (by intro q u;simp at u;subst u;exact aI));have bc:F.cell? ⟨s,1,none⟩=some (.int .u32 st.opening):=m' (i:=1) z0;have bd:F.cell? ⟨s,2,none⟩=some (.int .u64 st.next):=m' (i:=2) z0;have be:F.cell? ⟨w.heap.size,0,none⟩=some (.int .i64 sm):=m' (i:=0) ab;have bf:F.cell? ⟨w.heap.size,1,none⟩=some (.int .i64 q):=m' (i:=1) ab;have bg:F.cell? ⟨w.heap.size,2,none⟩=some (.string body):=m' (i:=2) ab;have aO:=t' z0;clear z0 ab;simp only[I',List.getD_cons_zero,List.getD_cons_succ,Array.getD_eq_getD_getElem?]at aa;try simp at aa
  iterate 2
   ·clear f;go_simp;exact⟨_,rfl,Far.refl _ _,rfl⟩
  ·clear f;go_simp;exact⟨_,rfl,Far.refl _ _,rfl⟩
  iterate 5
   ·clear f;go_simp;exact⟨_,rfl,Far.refl _ _,rfl⟩
  ·clear f;go_simp;refine(i' (ax F)).mono ?_;rintro ac aP ⟨rfl,aQ⟩;exact⟨_,rfl,A' aQ,rfl⟩
  ·have aA:=(i' aL).far f (by rintro k au ⟨q,u,g1,g2,bh⟩;simp at u;subst u;exact g1 rfl);have aR:=t' (i' (X F (i' aO) aA));have aS:=f.size;clear f aA;go_simp;refine(i' aR).mono ?_;rintro ac aP ⟨rfl,D,k1,k2,k3⟩;exact⟨_,rfl,ac' (.head _) k3,rfl,D,k1,bw' k2 aS⟩
  ·clear f;obtain⟨aa,_⟩:=aa;go_simp;exact⟨_,rfl,Far.refl _ _,rfl⟩
 ·intro G F U aj;obtain⟨_,D,k1,k2⟩:=aj.2.2.2.2.2.2.2.2.2.1;have aT:=aj.2.2.2.2.2.2.2.2.2.2.1;have U:Far (DkU dp lv z) x F:=U.mono (fun b _ h=>by obtain⟨q,u,h⟩:=h;simp at u;subst u;exact h);have z0:=U.blk (i' ay) av;have aU:=t' (And.intro k1 (And.intro k2 (And.intro U z0)));clear aj k1 k2 U z0;simp only[R',aT];generalize G 16=bi;generalize G 17=bj;generalize G 18=bk;generalize G 19=bl;generalize G 20=bm;generalize G 21=bn;generalize G 22=bo;generalize G 23=bp;generalize G 24=bq;generalize G 25=br;go_simp;go_wp2;go_ret;obtain⟨k1,k2,k3,k4⟩:=i' aU;obtain⟨aV,aW,aX⟩:=i' aJ;have aY:st.putRecord r sm q body.data.toList=(Q,{st with count:=st.next,dk:=Y}):=by unfold Mod.Stv.putRecord;rw[<-aV,<-aW,<-aX]
  rw[aY];exact⟨rfl,D,⟨k4,k1,(i' O).op,ao,aE⟩,bw' k2 (by omega),((i' aM).mono (fun _ _ e=> .inl e)).trans k3 (fun _ _ e=> .inr e)⟩
theorem ab' {w:World} {s dp:Nat} {st:Mod.Stv} {lv z:Value} (r:cC' w s dp st lv z):
  Calls Tryz.prog 86 #[y' s] w fun f w'=>f= .returned (.bool st.dk.dead)/\w'=w:=by
 have c0:w.cell? ⟨s,0,none⟩=some (y' dp):=m' (i:=0) r.blk;have c3:w.cell? ⟨dp,3,none⟩=some (.bool st.dk.dead):=m' (i:=3) r.dk.blk;unfold y' at *;clear r;have u:∀y:World,y=w->Calls Tryz.prog 128 #[.pointer (some ⟨dp,0,none⟩)] y fun f w'=>f= .returned (.bool st.dk.dead)/\w'=w:=by rintro y rfl;clear c0;go_enter Tryz.func128,Tryz.ntmps128;go_wp2;go_ret;exact⟨rfl,rfl⟩
 have u:=t' u;clear c3;go_enter Tryz.func86,Tryz.ntmps86;go_wp2_with (go_at_call 128;refine((i' u) _ rfl).mono ?_;rintro f y ⟨rfl,rfl⟩);go_ret;exact⟨rfl,rfl⟩
theorem iw' {w:World} {s dp:Nat} {st:Mod.Stv} {lv r:Value} (f:cC' w s dp st lv r):
  Calls Tryz.prog 111 #[y' s] w fun u w'=>u= .returned (.int .i64 st.opening)/\w'=w:=by
 have c0:w.cell? ⟨s,1,none⟩=some (.int .u32 st.opening):=m' (i:=1) f.blk;have z:IntKind.i64.wrap (st.opening:Int)=(st.opening:Int):=by have:=f.op;rw[IntKind.wrap_i64];omega
 unfold y' at *;clear f;go_enter Tryz.func111,Tryz.ntmps111;go_wp2;go_ret;exact⟨by simp,rfl⟩
theorem sn' (w:World):(isAgg 207).run Tryz.prog w= .ok true w:=by
 simp[isAgg,run_underlying Tryz.underlying207]
theorem gB' {r:Array Oper} {rest:List Oper} {o:Oper} {a:Act} {w:World} {u:Exit->Act->World->Prop} (z:o.guard=none) (x:Operand) (D:o.op= .load 207 x)
  (f:Addr) (F:a.eval x= .pointer (some f)) (S:List UInt8) (G:S.length=64) (H:∀j v,(bv S)[j]? =some v->w.cell? (f.add j)=some v)
  (h:wpList Tryz.prog r u rest (a.put o.dst (.agg (bv S).toArray)) w):wpList Tryz.prog r u (o::rest) a w:=by
 refine wpList_plain z fun K hK=>?_;unfold Oper.wp execOp;simp only[D,F,Instr.loadAt,Instr.sureAddr,Sem.run_bind,Sem.run_pure,Result.andThen_ok,dB' w f 207 (bv S) H (sn' w) (by rw[ir',am',G])];exact hK _ _ h
theorem hi' (w:World) (v:Value) (L:List UInt8) (k:Nat) (O:Y' w v L) (D:64 * k+64<=L.length) (Q:L.length<=10000):
  Calls Tryz.prog 195 #[v, .int .i64 k] w fun U w'=>U= .returned (.agg (bv ((L.drop (k * 64)).take 64)).toArray)/\Below w.heap.size w w':=by
 obtain⟨aa,cap,rfl,h1,h2,h3⟩:=O;obtain⟨b,off,rfl,r⟩:=h3 (by omega);obtain⟨n,u⟩:∃n,n=L.length:=⟨_,rfl⟩;rw[<-u]at D Q h1 h2 r ⊢;have f:((L.drop (k * 64)).take 64).length=64:=by rw[List.length_take,List.length_drop,<-u];omega
 have z:∀j v,(bv ((L.drop (k * 64)).take 64))[j]? =some v->w.cell? ⟨b,off+k * 64+j,none⟩=some v:=by
  intro j v hj;have F:j < 64:=by have:=(List.getElem?_eq_some_iff.1 hj).1;rw[am',f]at this;exact this
  rw[iq' (by rw[f];exact F)]at hj;cases hj;have:=r (k * 64+j) (by omega);rw[<-Nat.add_assoc]at this;rw[this];simp[List.getD_eq_getElem?_getD,F,List.getElem?_drop]
 obtain⟨S,G⟩:∃S,S=(L.drop (k * 64)).take 64:=⟨_,rfl⟩;rw[<-G]at f z ⊢;have H:=t' z;clear z r G u;have i0:(0:Int)<=(k:Int) * 64:=by omega
 have ab:(k:Int) * 64<=(k:Int) * 64+64:=by omega
 have i2:(k:Int) * 64+64<=(n:Int):=by omega
 have i3:(k:Int) * 64+64<=(cap:Int):=by omega
 have ac:((k:Int) * 64).toNat=k * 64:=by omega
 have ad:((k:Int) * 64+64).toNat=k * 64+64:=by omega
 have ah:IntKind.i64.wrap ((k:Int) * 64)=(k:Int) * 64:=by rw[IntKind.wrap_i64];omega
 have ai:IntKind.i64.wrap ((k:Int)+1)=(k:Int)+1:=by rw[IntKind.wrap_i64];omega
 have aj:IntKind.i64.wrap (((k:Int)+1) * 64)=(k:Int) * 64+64:=by rw[IntKind.wrap_i64];omega
 have ak:¬cap=k * 64:=by omega
 have ao:∀y:World,(Instr.arrayAt 207 (.slice (some ⟨b,off+k * 64,none⟩) 64 (cap - k * 64))).run Tryz.prog y= .ok (.pointer (some ⟨b,off+k * 64,none⟩)) y:=fun y=>by simp[Instr.arrayAt,run_underlying Tryz.underlying207]
 go_enter Tryz.func195,Tryz.ntmps195;go_upto_region 1 with fail;refine C' (fun x=>x.heap[w.heap.size]? =some (.cells (bv aP').toArray 207 (0,0))/\(∀j v,(bv S)[j]? =some v->x.cell? ⟨b,off+k * 64+j,none⟩=some v)/\Below w.heap.size w x) ?_ ?_
 ·refine⟨fi' (heap_alloc_new _ _) (by kernel_rfl),fun j v hj=>?_,(Below.refl _ _).alloc (Nat.le_refl _) _⟩;have h:=(i' H) j v hj;exact(World.cell?_alloc_lt w _ ⟨b,off+k * 64+j,none⟩ (World.block_lt_of_cell? _ _ h)).trans h
 rintro x ⟨h0,I,J⟩;have V:=t' h0;have X:=t' I;have M:=t' J;have ap:=lt_of_block h0;clear h0 I J H;go_wp2_with (first
  |(refine gB' rfl (.tmp 12) rfl ⟨b,off+k * 64,none⟩ rfl S f (by intro j v hj;rw[cE'];exact(i' X) j v hj) ?_)
  |(refine cL' rfl (.tmp 4) (.tmp 13) rfl w.heap.size rfl S f rfl 207 _ (by simp[am',ax']) (i' V) ?_;intro z4 Y Z;go_simp))
 exact bodyPost_ret (dV' Tryz.results195 _ _ w.heap.size _ _ f rfl Y) rfl ⟨rfl,(i' M).trans (Z.below (i' M).size (fun k D e=>by omega))⟩
theorem kk':Tryz.prog.built 207 []=some (bv aP').toArray:=by kernel_rfl
theorem bV' {f:Array Oper} {rest:List Oper} {o:Oper} {a:Act} {w:World} {r:Exit->Act->World->Prop} (u:o.guard=none) (z:o.op= .build 207 #[])
  (h:wpList Tryz.prog f r rest (a.put o.dst (.agg (bv aP').toArray)) w):wpList Tryz.prog f r (o::rest) a w:=by
 refine wpList_build u 207 #[] z ?_ ?_
 ·simp[kk']
 ·simpa[kk']using h
theorem lL' (w:World):Calls Tryz.prog 194 #[.agg (bv aP').toArray] w fun r w'=>
  r= .returned (.tuple #[.agg #[.int .u32 0, .int .u64 0, .int .i64 0, .int .i64 0, .int .i64 0], .bool true])/\Below w.heap.size w w':=by
 have u:=fun y=>is' (S:=aP') (T:=aP') ax' ax' y;rw[decide_eq_true rfl]at u;go_enter Tryz.func194,Tryz.ntmps194;go_upto_region 1 with fail;refine C' (fun x=>x.heap[w.heap.size]? =some (.cells (bv aP').toArray 207 (0,0))/\x.heap[w.heap.size+1]? =some (.cells #[.int .u32 0, .int .u64 0, .int .i64 0, .int .i64 0, .int .i64 0] 217 (0,0))/\Below w.heap.size w x) (bS' _ _ _) ?_;rintro x ⟨h0,h1,f⟩;have z:x.cell? ⟨w.heap.size+1,0,none⟩=some (.int .u32 0):=m' (i:=0) h1;have D:x.cell? ⟨w.heap.size+1,1,none⟩=some (.int .u64 0):=m' (i:=1) h1;have F:x.cell? ⟨w.heap.size+1,2,none⟩=some (.int .i64 0):=m' (i:=2) h1;have G:x.cell? ⟨w.heap.size+1,3,none⟩=some (.int .i64 0):=m' (i:=3) h1;have H:x.cell? ⟨w.heap.size+1,4,none⟩=some (.int .i64 0):=m' (i:=4) h1;have O:x.frozen? ⟨w.heap.size+1,0,none⟩=false:=D' (i:=0) h1;have Q:x.frozen? ⟨w.heap.size+1,1,none⟩=false:=D' (i:=1) h1;have U:x.frozen? ⟨w.heap.size+1,2,none⟩=false:=D' (i:=2) h1;have V:x.frozen? ⟨w.heap.size+1,3,none⟩=false:=D' (i:=3) h1;have X:x.frozen? ⟨w.heap.size+1,4,none⟩=false:=D' (i:=4) h1;have I:=t' h0;have J:=t' f;clear h0 h1 f;go_wp2_with (first
  |(refine bO' rfl (.tmp 1) rfl w.heap.size rfl 207 aP' ax' (i' I) ?_)
  |(refine bV' rfl rfl ?_;go_simp))
 refine bodyPost_ret (v:= .tuple #[.agg #[.int .u32 0, .int .u64 0, .int .i64 0, .int .i64 0, .int .i64 0], .bool true]) (by simp[results,Tryz.results194,go_sem,z,D,F,G,H]) rfl ⟨rfl,?_⟩;have M:=i' J;exact((((M.setCell (p:=⟨w.heap.size+1,0,none⟩) (by simp) _).setCell (p:=⟨w.heap.size+1,1,none⟩) (by simp) _).setCell (p:=⟨w.heap.size+1,2,none⟩) (by simp) _).setCell (p:=⟨w.heap.size+1,3,none⟩) (by simp) _).setCell (p:=⟨w.heap.size+1,4,none⟩) (by simp) _
theorem jz' (w:World) (last:Nat):Calls Tryz.prog 197 #[.agg (bv aP').toArray, .int .u32 last] w fun r w'=>
  r= .returned (.tuple #[.agg #[.int .i64 0, .int .i64 0, .string ⟨#[]⟩], .bool true])/\Below w.heap.size w w':=by
 have u:=fun y=>is' (S:=aP') (T:=aP') ax' ax' y;rw[decide_eq_true rfl]at u;go_enter Tryz.func197,Tryz.ntmps197;go_upto_region 1 with fail;refine C' (fun x=>x.heap[w.heap.size]? =some (.cells (bv aP').toArray 207 (0,0))/\x.heap[w.heap.size+1]? =some (.cells #[.int .i64 0, .int .i64 0, .string ⟨#[]⟩] 155 (0,0))/\Below w.heap.size w x) (bS' _ _ _) ?_;rintro x ⟨h0,h1,f⟩;have z:x.cell? ⟨w.heap.size+1,0,none⟩=some (.int .i64 0):=m' (i:=0) h1;have D:x.cell? ⟨w.heap.size+1,1,none⟩=some (.int .i64 0):=m' (i:=1) h1;have F:x.cell? ⟨w.heap.size+1,2,none⟩=some (.string ⟨#[]⟩):=m' (i:=2) h1;have J:x.frozen? ⟨w.heap.size+1,0,none⟩=false:=D' (i:=0) h1;have M:x.frozen? ⟨w.heap.size+1,1,none⟩=false:=D' (i:=1) h1;have O:x.frozen? ⟨w.heap.size+1,2,none⟩=false:=D' (i:=2) h1;have G:=t' h0;have H:=t' f;clear h0 h1 f;go_wp2_with (first
  |(refine bO' rfl (.tmp 2) rfl w.heap.size rfl 207 aP' ax' (i' G) ?_)
  |(refine bV' rfl rfl ?_;go_simp))
 refine bodyPost_ret (v:= .tuple #[.agg #[.int .i64 0, .int .i64 0, .string ⟨#[]⟩], .bool true]) (by simp[results,Tryz.results197,go_sem,z,D,F]) rfl ⟨rfl,?_⟩;have I:=i' H;exact((I.setCell (p:=⟨w.heap.size+1,0,none⟩) (by simp) _).setCell (p:=⟨w.heap.size+1,1,none⟩) (by simp) _).setCell (p:=⟨w.heap.size+1,2,none⟩) (by simp) _
namespace Mod
def newer (o c f r:Nat):Bool:=if o≠f then decide (f < o)else decide (r < c)
end Mod
theorem jc' (o c f r:Nat) (w:World):Calls Tryz.prog 196 #[.agg #[.int .u32 o, .int .u64 c], .agg #[.int .u32 f, .int .u64 r]] w fun u w'=>u= .returned (.bool (Mod.newer o c f r))/\Below w.heap.size w w':=by
 by_cases h:o=f
 ·subst h;go_enter Tryz.func196,Tryz.ntmps196;go_wp2;go_ret;exact⟨by simp[Mod.newer],((Below.refl _ _).alloc (Nat.le_refl _) _).alloc (by simp) _⟩
 ·have z:¬ (o:Int)=(f:Int):=by omega
  have D:((o:Int) == (f:Int))=false:=by simp;omega
  go_enter Tryz.func196,Tryz.ntmps196;go_wp2;go_ret;exact⟨by simp[Mod.newer,h],((Below.refl _ _).alloc (Nat.le_refl _) _).alloc (by simp) _⟩
theorem ey' {t:Array Value} {k:Nat} {c:Bool} (h:t[k]?.getD undef= .bool c):t[k]? =some (.bool c):=by
 cases f:t[k]? with
 |none=>rw[f]at h;simp[undef]at h
 |some v=>rw[f]at h;simp at h;rw[h]
theorem fW':(Tryz.prog.info? 217).map (·.size)=some 5:=by kernel_rfl
theorem aR' (w:World) (g:Nat) (f:Array Value):Far (fun k=>k=g) w (w.setRow g f):=⟨rfl,rfl,rfl,by simp,fun k _ r=>setRow_other w g k _ r⟩
theorem tt':(Tryz.prog.info? 155).map (fun i=>(i.zero,i.size,i.bytes))=some (some (.agg #[.int .i64 0, .int .i64 0, .string ⟨#[]⟩]),3,32):=by kernel_rfl
theorem fu' (w:World) (v:Value) (L:List UInt8) (H:Y' w v L) (h0:0 < L.length) (I:L.length<=10000):
  Calls Tryz.prog 192 #[v] w fun J w'=>∃f,J= .returned f/\as' w.heap.size w' f L/\Below w.heap.size w w':=by
 obtain⟨U,cap,rfl,h1,h2,h3⟩:=H;obtain⟨b,off,rfl,r⟩:=h3 h0;obtain⟨n,u⟩:∃n,n=L.length:=⟨_,rfl⟩;rw[<-u]at h0 I h1 h2 r ⊢;have M:=t' r;have D:=t' u;clear r u h3;have F:as' w.heap.size (w.alloc (.cells #[] 5)) (.slice (some ⟨w.heap.size,0,none⟩) 0 0) []:=
  ⟨by simp[bv], .inr ⟨w.heap.size,0,_,rfl,Nat.le_refl _,heap_alloc_new w _,by simp,by unfold maxLen;omega,by simp,by simp[bv]⟩⟩
 have O:=t' F;clear F;have V:∀y:World,(binOp .eql 44 (.slice (some ⟨b,off,none⟩) n cap) (.slice none 0 0)).run Tryz.prog y= .ok (.bool false) y:=fun y=>by have:=run_equal_slice_nil (P:=Tryz.prog) y 44 5 (some ⟨b,off,none⟩) n cap Tryz.underlying44;simp[binOp,this]
 go_enter Tryz.func192,Tryz.ntmps192;go_wp2_with (at_builtin;refine gM' rfl (.tmp 5) (.tmp 6) rfl w.heap.size _ [] (i' O) rfl ⟨b,off,none⟩ n cap L rfl (i' D).symm (by
  intro j X hj;have G:j < L.length:=by have:=(List.getElem?_eq_some_iff.1 hj).1;rw[am']at this;exact this
  rw[iq' G]at hj;cases hj;have h:=(i' M) j (by rw[i' D];exact G);rw[cE'];exact(World.cell?_alloc_lt w _ ⟨b,off+j,none⟩ (World.block_lt_of_cell? _ _ h)).trans h) (by simp;omega) (by simp) ?_;intro f w' Q z;go_simp)
 go_ret;exact⟨f,rfl,by simpa using Q,((Below.refl _ _).alloc (Nat.le_refl _) _).trans (X' (B:=w.heap.size) z (by simp) (fun g z=>by simp[Value.ownBlock]at z;omega))⟩
theorem oq' (w:World) (v:Value) (L:List UInt8) (z:Y' w v L) (h0:128<=L.length) (D:L.length<=10000):
  Calls Tryz.prog 148 #[v] w fun F w'=>∃p lv,F= .returned (y' p)/\dS' w' p ⟨L,0,false⟩ lv (.slice none 0 0)/\Below w.heap.size w w'/\∀k,DkU p lv (.slice none 0 0) k->w.heap.size<=k:=by
 have H:=t' (fu' w v L z (by omega) D);clear z;unfold y';go_enter Tryz.func148,Tryz.ntmps148;go_wp2_with (go_at_call 192;refine(i' H).mono ?_;rintro F y ⟨lv,rfl,r,f⟩;obtain⟨I,cap,rfl,_⟩:=r.shape;replace r:=t' r;replace f:=t' f);go_ret;have G:=i' r;have f:=i' f;refine⟨_,_,rfl,⟨heap_alloc_new y _,?_,jY' _ _ _,⟨h0,D⟩,by simp⟩,f.alloc f.size _,?_⟩
 ·exact World.ownsRow.alloc (G.mono (Nat.zero_le _)) _
 ·rintro k (rfl|u|u)
  ·exact f.size
  ·exact(G.lt k u).1
  ·cases u
def or' (B:Nat) (L:List UInt8) (p:Nat) (w:World):Prop:=∃lv,dS' w p ⟨L,0,false⟩ lv (.slice none 0 0)/\∀k,DkU p lv (.slice none 0 0) k->B<=k
theorem fv' {B:Nat} {L:List UInt8} {p:Nat} {w x:World} (h:or' B L p w) (f:Below w.heap.size w x):or' B L p x:=h.imp fun _ h=>⟨h.1.far (A' (E:=fun _=>False) f) (fun _ _ h=>h),h.2⟩
theorem ap' {w:World} {B B' size:Nat} {e:TypeId} {v:Value} {n:Nat} {xs:List Value} (h:w.ownsRow B e size v n xs) (f:B'<=B):w.ownsRow B' e size v n xs:=by
 obtain⟨h1,h2⟩:=h;refine⟨h1,?_⟩;rcases h2 with h2|⟨g,cap,r,rfl,u,z⟩
 ·exact .inl h2
 ·exact .inr ⟨g,cap,r,rfl,Nat.le_trans f u,z⟩
theorem lM':(Tryz.prog.info? 187).map (·.size)=some 4:=by kernel_rfl
def bB' (a:Mod.Sk) (s q:Nat) (b:ByteArray):Mod.Sk:=
 if(a.logs s).length+2<=q/\q<=(a.logs s).length+4/\a.ix s q=none then {a with held:=a.held++[(s,q,b)]}else a
theorem dl' (a:Mod.Sk) (s q:Nat) (b:ByteArray):(bB' a s q b).epoch=a.epoch:=by
 unfold bB';split <;> rfl
def grown (a:Mod.Sk) (s:Nat) (f:List ByteArray):Mod.Sk:={a with logs:=fun t=>if t=s then a.logs s++f else a.logs t}
theorem fw' (a:Mod.Sk) (s:Nat) (hs:s < 3) (f:List ByteArray):(grown a s f).count=a.count+f.length:=by
 obtain rfl|rfl|rfl:s=0\/s=1\/s=2:=by omega
 all_goals
  simp[grown,Mod.Sk.count];omega
def bT' (a:Mod.Sk) (s:Nat) (f:List ByteArray):Mod.Sk:=(grown a s f).forget s (a.logs s++f).length
theorem nb' (a:Mod.Sk) (s:Nat) (f:List ByteArray):(bT' a s f).epoch=a.epoch:=rfl
def aq' (a:Mod.Sk) (k e:Int) (s f:Nat) (b:ByteArray):Mod.Sk:=if a.commits k e s f b=[]then bB' a s f b else bT' a s (a.commits k e s f b)
theorem jd' (a:Mod.Sk) (s q:Nat) (b:ByteArray):(bB' a s q b).logs=a.logs:=by
 unfold bB';split <;> rfl
theorem os' (a:Mod.Sk) (s:Nat) (f:List ByteArray):(bT' a s f).logs s=a.logs s++f:=by simp[bT',grown,Mod.Sk.forget]
def ot' (a:Mod.Sk) (k e:Int) (s f:Nat) (b:ByteArray):ByteArray:=
 ⟨(Wire.bytes 4 a.epoch s ((aq' a k e s f b).logs s).length (ackBody (aq' a k e s f b) s ((aq' a k e s f b).logs s).length).data.toList).toArray⟩
def dZ' (n:Nat):ByteArray:=⟨(Wire.bytes 5 n 0 0 []).toArray⟩
def jA' (a:Mod.Sk):ByteArray:=dR' (a.logs 0).length++dR' (a.logs 1).length++dR' (a.logs 2).length
def kl' (a:Mod.Sk) (e:Nat):ByteArray:=⟨(Wire.bytes 2 e 0 0 (jA' a).data.toList).toArray⟩
def dr' (a:Mod.Sk) (e:Nat):List (Nat×Nat×ByteArray):=if a.epoch < e then []else a.held
def aX' (a:Mod.Sk) (e:Nat):Mod.Sk:={a with epoch:=e,held:=dr' a e}
theorem ou' (a b c:Int):(dR' a++dR' b++dR' c).data.toList=Wire.le4 a++Wire.le4 b++Wire.le4 c:=by
 simp[ByteArray.data_append,sg']
theorem qs' {e f r u:Nat} (z:e<=2147483647) (h0:f<=120) (h1:r<=120) (h2:u<=120):Wire.proper 2 e 0 0 (dR' f++dR' r++dR' u)=true:=by
 have hs:(dR' f++dR' r++dR' u).size=12:=by simp[ByteArray.size_append,si']
 have a0:f % 256=f:=by omega
 have a1:r % 256=r:=by omega
 have D:u % 256=u:=by omega
 simp only[Wire.proper,Wire.welBody,ou',hs];simp[Wire.isNum,Wire.numAt,Wire.num4,Wire.le4];omega
def bW' (a:Mod.Sk) (k e:Int) (s q:Nat) (b:ByteArray):Mod.Sk×List ByteArray:=
 if k=1 then(if e < a.epoch then(a,[dZ' a.epoch])else(aX' a e.toNat,[kl' a e.toNat]))
 else if k=3 then(if e=a.epoch then(aq' a k e s q b,[ot' a k e s q b])else(a,[dZ' (max e.toNat a.epoch)]))
 else(a,[])
structure ay' (a:Mod.Sk):Prop where
 held:∀h∈a.held,h.1 < 3/\(a.logs h.1).length+1<=h.2.1/\h.2.1<=(a.logs h.1).length+4
 once:(a.held.map fun h=>(h.1,h.2.1)).Nodup
 room:a.count<=120
 ep:a.epoch<=2147483647
theorem hp':∀ (n:Nat) (l:List Nat),l.Nodup->(∀x∈l,x < n)->l.length<=n
 |0,[],_,_=>Nat.le_refl _
 |0,x::l,_,h=>by have:=h x (.head _);omega
 |n+1,l,r,h=>by
  by_cases u:n∈l
  ·have h1:=List.length_erase_of_mem u;have h2:=hp' n (l.erase n) (r.erase n) (fun x f=>by have h3:=(r.mem_erase_iff).1 f;have:=h x h3.2;have:=h3.1;omega);omega
  ·have:=hp' n l r (fun x f=>by have:=h x f;have:x≠n:=fun e=>u (e ▸ f);omega);omega
theorem ix' {a:Mod.Sk} {s:Nat} (hs:s < 3):(a.logs s).length<=a.count:=by
 obtain rfl|rfl|rfl:s=0\/s=1\/s=2:=by omega
 all_goals
  unfold Mod.Sk.count;omega
theorem mq' {st q:Nat}:∀ {l:List (Nat×Nat×ByteArray)} {i:Nat},Mod.ixFrom st q i l=none->∀h∈l,¬ (h.1=st/\h.2.1=q)
 |[],_,_,h,f=>by cases f
 |x::l,i,r,h,f=>by
  rw[Mod.ixFrom]at r;split at r
  ·cases r
  ·rename_i u;cases f with
   |head=>exact u
   |tail _ f=>exact mq' r h f
theorem km':ay' {epoch:=0,logs:=fun _=>[],held:=[]}:=⟨by simp,by simp,by simp[Mod.Sk.count],by simp⟩
theorem ov' {a:Mod.Sk} (r:ay' a) (s q:Nat) (b:ByteArray) (hs:s < 3):ay' (bB' a s q b):=by
 unfold bB';split
 ·rename_i h;obtain⟨h1,h2,h3⟩:=h;refine⟨fun x f=>?_,?_,r.room,r.ep⟩
  ·simp only[List.mem_append,List.mem_singleton]at f;rcases f with f|rfl
   ·exact r.held x f
   ·exact⟨hs,by show(a.logs s).length+1<=q;omega,h2⟩
  ·simp only[List.map_append,List.map_cons,List.map_nil];rw[List.nodup_append];refine⟨r.once,by simp,?_⟩;rintro x f y u rfl;simp only[List.mem_singleton]at u;obtain⟨h,z,rfl⟩:=List.mem_map.1 f;exact mq' h3 h z ⟨congrArg Prod.fst u,congrArg Prod.snd u⟩
 ·exact r
theorem ow' {a:Mod.Sk} (r:ay' a) (s:Nat) (f:List ByteArray) (hs:s < 3) (z:a.count+f.length<=120):ay' (bT' a s f):=by
 have D:∀t,((bT' a s f).logs t).length=if t=s then(a.logs s).length+f.length else(a.logs t).length:=by
  intro t;show((grown a s f).logs t).length= _;unfold grown;by_cases h:t=s
  ·simp[h]
  ·simp[h]
 refine⟨fun h F=>?_,?_,?_,r.ep⟩
 ·have G:h∈a.held.filter (Mod.keeps s (a.logs s++f).length):=F;obtain⟨h1,h2⟩:=List.mem_filter.1 G;obtain⟨g1,g2,u⟩:=r.held h h1;rw[D];refine⟨g1,?_⟩;by_cases e:h.1=s
  ·rw[if_pos e];unfold Mod.keeps at h2;rw[e]at g2 u;simp[e]at h2;omega
  ·rw[if_neg e];exact⟨g2,u⟩
 ·exact r.once.sublist ((List.filter_sublist (p:=Mod.keeps s (a.logs s++f).length) (l:=a.held)).map _)
 ·have:(bT' a s f).count=(grown a s f).count:=rfl;rw[this,fw' a s hs f];exact z
theorem nc' {a:Mod.Sk} (f:ay' a) (e:Nat) (r:e<=2147483647):ay' (aX' a e):=by
 unfold aX' dr';split
 ·exact⟨by simp,by simp,f.room,r⟩
 ·exact⟨f.held,f.once,f.room,r⟩
theorem hs' {a:Mod.Sk} (f:ay' a) (k e:Int) (s q:Nat) (b:ByteArray) (hs:s < 3) (r:e<=2147483647):ay' (bW' a k e s q b).1:=by
 unfold bW';split
 ·split
  ·exact f
  ·exact nc' f _ (by omega)
 ·split
  ·split
   ·show ay' (aq' a k e s q b);unfold aq';split
    ·exact ov' f s q b hs
    ·exact ow' f s _ hs (gV' k e s q b f.room)
   ·exact f
  ·exact f
theorem fX' (a:Mod.Ag) (k e st q:Int) (b:ByteArray) (s:Nat):a.says k e st q b s<=(a.fl s).kept.length:=by
 unfold Mod.Ag.says;split
 ·omega
 ·split
  ·unfold Mod.Ag.gone;omega
  ·split
   ·unfold Mod.Ag.gone;omega
   ·omega
theorem bit0:∀n:Fin 256,(bits BinOp.and IntKind.u8 ((n.val:Nat):Int) 1==1)=decide (n.val % 2=1):=by decide+kernel
theorem bit1:∀n:Fin 256,(bits BinOp.and IntKind.u8 (((n.val:Nat):Int) / 2) 1==1)=decide (n.val / 2 % 2=1):=by decide+kernel
theorem bit2:∀n:Fin 256,(bits BinOp.and IntKind.u8 (((n.val:Nat):Int) / 4) 1==1)=decide (n.val / 4 % 2=1):=by decide+kernel
theorem cN' (q c:Nat):∀i,(Mod.bitsOf q c i).length<=i
 |0=>by simp[Mod.bitsOf]
 |i+1=>by have:=cN' q c i;simp only[Mod.bitsOf,List.length_append];split <;> simp <;> omega
theorem em' (l:List Nat) (n:Nat):H' (l++[n])=H' l++[.int .i64 (n:Int)]:=by simp[H']
theorem ox' {e st q:Int} {b:ByteArray} (h:Wire.proper 2 e st q b=true):b.size=12:=by
 simp[Wire.proper,Wire.welBody]at h;omega
theorem oy' {e st q:Int} {b:ByteArray} (h:Wire.proper 4 e st q b=true):b.size=1/\(0<=st/\st < 3)/\0<=q/\q<=2147483647:=by
 simp[Wire.proper,Wire.isStr,Wire.isNum,Wire.ackBody]at h;omega
theorem gC' (e s:Nat) (f:Mod.Flow) (t:Nat):∀i,(Mod.sendTo e s f t i).1.length=f.kept.length
 |0=>rfl
 |i+1=>by
  have:=gC' e s f t i;simp only[Mod.sendTo];split
  ·exact this
  ·split
   ·simp[this]
   ·exact this
theorem kn' (e s:Nat) (f:Mod.Flow) (t:Nat):∀i j,i<=j->(Mod.sendTo e s f t i).1[j]? =f.kept[j]?
 |0,_,_=>rfl
 |i+1,j,h=>by
  have:=kn' e s f t i j (by omega);simp only[Mod.sendTo];split
  ·exact this
  ·split
   ·simp only
    rw[List.getElem?_set_ne (by omega)];exact this
   ·exact this
theorem ea' {e s:Nat} {f:Mod.Flow} {t i:Nat} (h:i < f.kept.length) (hd:Mod.due f t i f.kept[i].2=false):Mod.sendTo e s f t (i+1)=Mod.sendTo e s f t i:=by
 simp only[Mod.sendTo,List.getElem?_eq_getElem h,hd];rfl
theorem eb' {e s:Nat} {f:Mod.Flow} {t i:Nat} (h:i < f.kept.length) (hd:Mod.due f t i f.kept[i].2=true):
  Mod.sendTo e s f t (i+1)=((Mod.sendTo e s f t i).1.set i (f.kept[i].1,t),(Mod.sendTo e s f t i).2++[Wire.bytes 3 e s (f.base+1+i:Nat) f.kept[i].1.data.toList]):=by
 simp only[Mod.sendTo,List.getElem?_eq_getElem h,hd];rfl
theorem aS' {e s:Nat} {f:Mod.Flow} {t i:Nat} (h:f.kept.length<=i):Mod.sendTo e s f t (i+1)=Mod.sendTo e s f t i:=by
 simp only[Mod.sendTo,List.getElem?_eq_none_iff.2 h]
theorem je' {e s:Nat} {f:Mod.Flow} {t i:Nat} (h:f.kept.length<=i\/i=4) (h4:i<=4):Mod.sendTo e s f t 4=Mod.sendTo e s f t i:=by
 rcases h with h|h
 ·obtain rfl|rfl|rfl|rfl|rfl:i=0\/i=1\/i=2\/i=3\/i=4:=by omega
  ·rw[aS' (i:=3) (by omega),aS' (i:=2) (by omega),aS' (i:=1) (by omega),aS' (i:=0) (by omega)]
  ·rw[aS' (i:=3) (by omega),aS' (i:=2) (by omega),aS' (i:=1) (by omega)]
  ·rw[aS' (i:=3) (by omega),aS' (i:=2) (by omega)]
  ·rw[aS' (i:=3) (by omega)]
  ·rfl
 ·rw[h]
def cm' (w:World) (v:Value) (xs:List Value):Prop:=
 ∃f cap,v= .slice f xs.length cap/\xs.length<=cap/\cap<=maxLen/\(0 < xs.length->∃g o,f=some ⟨g,o,none⟩/\g < w.heap.size/\∀i,i < xs.length->w.cell? ⟨g,o+i,none⟩=xs[i]?)
theorem cv' {B:Nat} {w:World} {e:TypeId} {v:Value} {n:Nat} {xs:List Value} (h:w.ownsRow B e 1 v n xs):cm' w v xs:=by
 have r:xs.length=n:=by have:=h.1;omega
 subst r;have h0:=h;obtain⟨h1,h2⟩:=h;rcases h2 with ⟨f,h2⟩|⟨g,cap,F,f,G,u,z,D,_,H⟩
 ·exact⟨none,0,by rw[h2];exact f,by omega,by unfold maxLen;omega,fun h=>by omega⟩
 ·subst f;exact⟨_,cap,rfl,z,D,fun _=>⟨g,0,rfl,lt_of_block u,fun i hi=>by rw[Nat.zero_add];exact World.ownsRow.cellAt h0 i (by omega)⟩⟩
def oz' (fs:List Value) (i b:Nat):Prop:=∃j,j < i/\∃v,fs[j]? =some v/\v.ownBlock=some b
def tu' (f:Array Oper) (c:Nat):Bool:=(List.range f.size).all fun k=>decide (k<=c) || (List.range f.size).any fun j=>decide (c<=j) &&ar' f k j
def iy' (c n:Nat):Array Bool:=((List.range n).map fun k=>decide (k<=c)).toArray
theorem eY' (i:Nat):∀n,i<=n->(List.range n).countP (fun k=>decide (i<=k))=n - i
 |0,h=>by simp
 |n+1,h=>by
  rw[List.range_succ,List.countP_append,List.countP_singleton];by_cases f:i<=n
  ·rw[eY' i n f];simp[f];omega
  ·have:i=n+1:=by omega
   subst this;have h0:(List.range n).countP (fun k=>decide (n+1<=k))=0:=by rw[List.countP_eq_zero];intro k r;have:=List.mem_range.1 r;simp;omega
   rw[h0];simp
section
variable {P:Program} {ops:Array Oper} {Q:Exit->Act->World->Prop}
theorem nd' {a0:Act} {w0:World} (u:Nat->Value->World->Prop) (Z:bq' ops a0.tmps.size=true) (last:Nat) (aZ:last < ops.size) (ax:eE' ops last=true) (ay:tu' ops last=true)
  (aE:∀i v w w',u i v w->Below w.heap.size w w'->u i v w')
  (aF:∀i o,i < last->ops[i]? =some o->∀a w,Below w0.heap.size w0 w->bo' ops u a0 i o a w->
   if Region.wanted o (yielded ops a.tmps)=true then o.wp P a w (fun a' w'=>∃v,a'=a.put o.dst v/\Below w.heap.size w w'/\u i v w') Q else u i undef w)
  (aG:∀a w,Below w0.heap.size w0 w->(∀i o d,i < last->ops[i]? =some o->o.dst=some d->u i (a.tmps.getD d undef) w)->(∀t,(∀j,wr ops t=some j->last<=j)->a.tmps.getD t undef=a0.tmps.getD t undef)->a.defers=a0.defers->a.tmps.size=a0.tmps.size->wpOp P ops Q last (fun a' w'=>∀z,ops.size<=z+last+1->wpAny P .any ops Q z (iy' last ops.size) a' w') a w):
  ∀ (z:Nat) (L:Array Bool) (a:Act) (w:World),bp' ops u a0 w0 L a w->(∀k,last<=k->L.getD k false=false)->(List.range ops.size).countP (fun i=> !L.getD i false)<=z->wpAny P .any ops Q z L a w:=by
 have aH:∀ (L:Array Bool) (a:Act) (w:World),bp' ops u a0 w0 L a w->L.getD last false=false->Region.ready .any ops L=[]->False:=by
  intro L a w f V aI;have X:∀n i,i < n->i < ops.size->L.getD i false=true:=by
   intro n;induction n with
   |zero=>intro i h;omega
   |succ n ih=>
    intro i h hi;by_cases aJ:i < n
    ·exact ih i aJ hi
    ·have e:i=n:=by omega
     subst e;cases aa:L.getD i false
     ·exfalso;have D:ops[i]? =some ops[i]:=Array.getElem?_eq_getElem hi;obtain⟨_,_,h3⟩:=ah' Z D;have:i∈Region.ready .any ops L:=mem_ready.2 ⟨by
       have hs:i < L.size:=by rw[f.size];exact hi
       rw[Array.getD_eq_getD_getElem?,Array.getElem?_eq_getElem hs]at aa ⊢;exact aa,ops[i],D,fun e ad F=>by
       have hd:ar' ops i e.on=true:=by unfold ar';rw[D];exact Array.any_eq_true'.2 ⟨e,ad,by simp[F]⟩
       have G:=h3 _ hd;exact ih e.on G (by omega)⟩
      rw[aI]at this;cases this
     ·rfl
  have:=X ops.size last (by omega) (by omega);rw[V]at this;cases this
 have aK:∀ (L:Array Bool) (a:Act) (w:World),bp' ops u a0 w0 L a w->(∀j,ar' ops last j=true->L.getD j false=true)->∀n i,last<=i+n->i < last->L.getD i false=true:=by
  intro L a w f M n;induction n with
  |zero=>intro i h hi;omega
  |succ n ih=>
   intro i h hi;unfold eE' at ax;have h1:=List.all_eq_true.1 ax i (List.mem_range.2 hi);obtain⟨k,r,hd⟩:=List.any_eq_true.1 h1;have aL:k < last+1:=List.mem_range.1 r;by_cases aM:k=last
   ·subst aM;exact M i hd
   ·have G:i < k:=by
     unfold ar' at hd;cases J:ops[k]? with
     |none=>rw[J]at hd;cases hd
     |some ok=>obtain⟨_,_,h3⟩:=ah' Z J;exact h3 i (by unfold ar';exact hd)
    exact f.closed k (ih k (by omega) (by omega)) i hd
 have aN:∀k,last < k->k < ops.size->∃j,last<=j/\ar' ops k j=true:=by
  intro k h1 h2;unfold tu' at ay;have:=List.all_eq_true.1 ay k (List.mem_range.2 h2);simp only[Bool.or_eq_true,decide_eq_true_eq]at this;rcases this with h|h
  ·omega
  ·obtain⟨j,hj,hd⟩:=List.any_eq_true.1 h;simp only[Bool.and_eq_true,decide_eq_true_eq]at hd;exact⟨j,hd.1,hd.2⟩
 intro z;induction z with
 |zero=>intro L a w f H aO;have V:=H last (Nat.le_refl _);have:0 < (List.range ops.size).countP (fun i=> !L.getD i false):=List.countP_pos_iff.2 ⟨last,List.mem_range.2 (by omega),by simp only[V];rfl⟩;omega
 |succ z ih=>
  intro L a w f H aO;have V:=H last (Nat.le_refl _);refine⟨fun h=>(aH L a w f V h).elim,fun i hi=>?_⟩;obtain⟨h0,o,D,aP⟩:=mem_ready.1 hi;have G:i < ops.size:=(Array.getElem?_eq_some_iff.1 D).1;have ah:i < L.size:=by rw[f.size];exact G
  have ab:L.getD i false=false:=by rw[Array.getD_eq_getD_getElem?,Array.getElem?_eq_getElem ah]at h0 ⊢;exact h0
  obtain⟨hd,hl,ba⟩:=ah' Z D;have M:∀j,ar' ops i j=true->L.getD j false=true:=by intro j hj;unfold ar' at hj;rw[D]at hj;obtain⟨e,ad,F⟩:=Array.any_eq_true'.1 hj;simp only[Bool.and_eq_true,beq_iff_eq]at F;rw[<-F.2];exact aP e ad F.1
  by_cases aQ:i=last
  ·subst aQ;have X:=aK L a w f M i;refine wpOp_mono ?_ (aG a w f.ext (fun j aR d hj aS ai=>f.vals j aR d aS ai (X j (by omega) hj)) (fun t O=>f.rest t (fun j hj=>H j (O j hj))) f.defers f.tsize);intro a' w' aT;have aa:L.setIfInBounds i true=iy' i ops.size:=by
    apply Array.ext
    ·simp[iy',f.size]
    ·intro k h1 h2;have r:k < ops.size:=by simpa[iy']using h2
     simp only[iy',List.getElem_toArray,List.getElem_map,List.getElem_range];have az:k < L.size:=by rw[f.size];exact r
     rw[Array.getElem_setIfInBounds (by exact az)];by_cases Y:i=k
     ·simp[Y]
     ·rw[if_neg Y];have U:L.getD k false=L[k]:=by rw[Array.getD_eq_getD_getElem?,Array.getElem?_eq_getElem az];rfl
      by_cases G:k < i
      ·rw[<-U,X k (by omega) G];simp;omega
      ·rw[<-U,H k (by omega)];simp;omega
   rw[aa];refine aT z ?_;have aj:(List.range ops.size).countP (fun k=> !L.getD k false)=ops.size - i:=by
    have:(List.range ops.size).countP (fun k=> !L.getD k false)=(List.range ops.size).countP (fun k=>decide (i<=k)):=by
     apply List.countP_congr;intro k r;have aL:=List.mem_range.1 r;by_cases G:k < i
     ·rw[X k (by omega) G];simp;omega
     ·rw[H k (by omega)];simp;omega
    rw[this];exact eY' i ops.size (by omega)
   omega
  have bb:i < last:=by
   rcases Nat.lt_or_ge last i with h|h
   ·obtain⟨j,hj,ai⟩:=aN i h G;have:=M j ai;rw[H j hj]at this;cases this
   ·omega
  have aU:i < last:=by omega
  have aV:bo' ops u a0 i o a w:=by
   intro t O;cases I:wr ops t with
   |none=>exact f.rest t (fun j hj=>by rw[I]at hj;cases hj)
   |some j=>
    simp only[];have hj:=List.find?_some I;simp only[beq_iff_eq]at hj;split
    ·rename_i ak;cases ao:ops[j]? with
     |none=>rw[ao]at hj;cases hj
     |some aW=>rw[ao]at hj;exact f.vals j aW t ao hj (M j ak)
    ·rename_i ak;refine f.rest t (fun bc aA=>?_);rw[I]at aA;cases aA;rcases hl t O j I with h|h
     ·exact absurd h ak
     ·cases ap:L.getD j false
      ·rfl
      ·have:=f.closed j ap i h;rw[ab]at this;cases this
  have aB:∀v w',Below w.heap.size w w'->u i v w'->bp' ops u a0 w0 (L.setIfInBounds i true) (a.put o.dst v) w':=by
   intro v w' F aq;have ac:∀k,(L.setIfInBounds i true).getD k false=true↔ (k=i\/L.getD k false=true):=by
    intro k;by_cases r:k=i
    ·subst r;simp[Array.getD_eq_getD_getElem?,ah]
    ·rw[getD_set_ne false (fun e=>r e.symm)];simp[r]
   have aC:∀t,(a.put o.dst v).tmps.getD t undef=if o.dst=some t then v else a.tmps.getD t undef:=by
    intro t;cases aX:o.dst with
    |none=>simp[Act.put]
    |some d=>
     simp only[Act.put,Option.some.injEq];have aY:d < a.tmps.size:=by rw[f.tsize];exact(hd d aX).1
     by_cases h:d=t
     ·subst h;simp[Array.getD_eq_getD_getElem?,aY]
     ·simp[Array.getD_eq_getD_getElem?,h]
   refine⟨by simp[f.size],f.ext.trans (F.mono f.ext.size),?_,?_,?_,?_,?_⟩
   ·intro k r j hj;rw[ac]at r ⊢;rcases r with rfl|r
    ·exact .inr (M j hj)
    ·exact .inr (f.closed k r j hj)
   ·intro k ok d J au r;rw[ac]at r;rw[aC];rcases r with rfl|r
    ·rw[D]at J;cases J;rw[if_pos au];exact aq
    ·have av:o.dst≠some d:=by intro e;have h1:=(hd d e).2;have h2:=((ah' Z J).1 d au).2;rw[h1]at h2;cases h2;rw[ab]at r;cases r
     rw[if_neg av];exact aE k _ _ _ (f.vals k ok d J au r) F
   ·intro t O;rw[aC];have av:o.dst≠some t:=by intro e;have:=O i (hd t e).2;have h2:=(ac i).2 (.inl rfl);rw[this]at h2;cases h2
    rw[if_neg av];refine f.rest t (fun j hj=>?_);cases ap:L.getD j false
    ·rfl
    ·have:=O j hj;rw[(ac j).2 (.inr ap)]at this;cases this
   ·cases o.dst <;> exact f.defers
   ·rw[<-f.tsize];cases o.dst <;> simp[Act.put]
  have aj:(List.range ops.size).countP (fun k=> !(L.setIfInBounds i true).getD k false)<=z:=by
   have:=cd' (l:=List.range ops.size) (p:=fun k=> !L.getD k false) (q:=fun k=> !(L.setIfInBounds i true).getD k false)
    (fun k _ r=>by
     by_cases Y:k=i
     ·subst Y;simp[ab]
     ·rw[getD_set_ne false (fun e=>Y e.symm)]at r;exact r)
    ⟨i,List.mem_range.2 G,by simp[ab],by simp[Array.getD_eq_getD_getElem?,ah]⟩
   omega
  have aD:∀k,last<=k->(L.setIfInBounds i true).getD k false=false:=fun k r=>by rw[getD_set_ne false (by omega)];exact H k r
  have U:=aF i o aU D a w f.ext aV;unfold wpOp;rw[D];simp only[];split at U
  ·rename_i I;rw[if_pos I];refine .inl (Oper.wp_mono ?_ U);rintro a' w' ⟨v,rfl,F,aq⟩;exact ih _ _ _ (aB v w' F aq) aD aj
  ·rename_i I;rw[if_neg I];exact ih _ _ _ (aB undef w (Below.refl _ _) U) aD aj
theorem en' {id:Nat} {a0:Act} {w0:World} (U:P.follows .mixedOrders=true) (L:List (Value->World->Prop)) (H:List (List (Tmp×Option Nat))) (D:List (Option Tmp)) (F:List Bool) (last:Nat) (ol:Oper) (V:ops[last]? =some ol)
  (X:last < ops.size) (Y:eE' ops last=true) (Z:tu' ops last=true)
  (aa:bq' ops a0.tmps.size=true) (ab:bR' ops=H) (ac:ei' ops=D) (J:be' ops a0.tmps.size=F) (ad:bs' L) (ah:fO' P ops Q L a0 w0 (ops.toList.take last) H L)
  (ai:∀z w,ae' z w (D.take last) L->Region.wanted ol (yielded ops (R' F a0.tmps.toList 0 z).toArray)=true)
  (aj:∀z w,Below w0.heap.size w0 w->ae' z w (D.take last) L->ol.wp P {tmps:=(R' F a0.tmps.toList 0 z).toArray,defers:=a0.defers} w (fun a' w'=>∀M,ops.size<=M+last+1->wpAny P .any ops Q M (iy' last ops.size) a' w') Q):
  (Code.region id ops true).wp P Q a0 w0:=by
 refine wp_region_any U (nd' (w0:=w0) (fun i=>L.getD i (fun _ _=>True)) aa last X Y Z (fun i=>bi' ad i) ?_ ?_ ops.size _ a0 _ ⟨by simp,(Below.refl _ _).drew,?_,?_,fun _ _=>rfl,rfl,rfl⟩ ?_ ?_)
 ·intro i o I r a w u ak;have ao:i < ops.size:=(Array.getElem?_eq_some_iff.1 r).1;have ap:H[i]? =some ((o.looksAt ops).map fun t=>(t,match wr ops t with
     |some j=>if ar' ops i j=true then some j else none
     |none=>none)):=by
   rw[<-ab];unfold bR';rw[List.getElem?_map,List.getElem?_range ao,Option.map_some,r];rfl
  exact dU' ah i o _ (by rw[List.getElem?_take,if_pos I];simpa using r) ap a w u (bd' rfl (o:=o) _ ak)
 ·intro a w u aq au hd hs;have O:ae' (fun t=>a.tmps.getD t undef) w (D.take last) L:=by
   rw[<-ac,ei',<-List.map_take];exact cx' (fun i o d r av=>by
    rw[List.getElem?_take]at r;split at r
    ·rename_i I;exact aq i o d I (by simpa using r) av
    ·cases r)
  have h:=aj (fun t=>a.tmps.getD t undef) w u O;have G:=ai (fun t=>a.tmps.getD t undef) w O;have e:R' F a0.tmps.toList 0 (fun t=>a.tmps.getD t undef)=a.tmps.toList:=by
   refine ce' _ _ _ _ _ (by rw[<-J];simp[be']) (by simpa using hs) ?_ ?_
   ·intro j hj _;simp[Array.getD_eq_getD_getElem?,List.getD_eq_getElem?_getD]
   ·intro j hj u;rw[<-J]at u;have ax:j < a0.tmps.size:=by rw[<-hs];simpa using hj
    have G:wr ops j=none:=by unfold be' at u;simp[List.getD_eq_getElem?_getD,List.getElem?_map,List.getElem?_range ax]at u;exact u
    have:=au j (fun k f=>by rw[G]at f;cases f);simpa[Array.getD_eq_getD_getElem?,List.getD_eq_getElem?_getD]using this
  rw[e,<-hd]at h;unfold wpOp;rw[V];simp only[];rw[e]at G;rw[if_pos (by simpa using G)];exact .inl h
 ·intro k f;simp[Array.getD_eq_getD_getElem?]at f;rcases h:(Array.replicate ops.size false)[k]? with _|b <;> simp[h]at f;subst f;obtain⟨h1,h2⟩:=Array.getElem?_eq_some_iff.1 h;simp at h2
 ·intro i o d r hd f;exfalso;simp[Array.getD_eq_getD_getElem?]at f;rcases h:(Array.replicate ops.size false)[i]? with _|b <;> simp[h]at f;subst f;obtain⟨h1,h2⟩:=Array.getElem?_eq_some_iff.1 h;simp at h2
 ·intro k _;rw[Array.getD_eq_getD_getElem?];by_cases f:k < ops.size
  ·simp[f]
  ·simp[f]
 ·exact Nat.le_trans List.countP_le_length (by simp)
theorem fY' {L:Array Bool} {i f:Nat} {o:Oper} {a:Act} {w:World} (r:Region.ready .any ops L=[i]) (u:ops[i]? =some o) (z:Region.wanted o (yielded ops a.tmps)=true)
  (h:o.wp P a w (fun a' w'=>wpAny P .any ops Q f (L.setIfInBounds i true) a' w') Q):wpAny P .any ops Q (f+1) L a w:=by
 refine⟨fun h0=>(by rw[r]at h0;cases h0),fun j hj=>?_⟩;rw[r,List.mem_singleton]at hj;subst hj;unfold wpOp;rw[u];simp only[];rw[if_pos (by simpa using z)];exact .inl h
theorem iz' {L:Array Bool} {f:Nat} {a:Act} {w:World} (r:Region.ready .any ops L=[]) (h:Q .normal a w):wpAny P .any ops Q f L a w:=wpAny_done r h _
end
def av' (a:Mod.Sk) (l:List UInt8):Int×Mod.Sk×List ByteArray:=
 if Wire.reads l=true then(0,bW' a (Wire.kindOf l) (Wire.epochOf l) (Wire.streamOf l).toNat (Wire.seqOf l).toNat (Wire.bodyOf l))else(1,a,[])
structure L' (B:Nat) (w:World) (lv:Value) (fs:List Value) (Fl:List ByteArray) (U:Nat->Prop):Prop where
 len:fs.length=Fl.length
 row:w.ownsRow B 44 1 lv fs.length fs
 each:∀ (j:Nat) (v:Value),fs[j]? =some v->w.ownsRow B 5 1 v ((Fl.map fun b=>b.data.toList).getD j []).length (bv ((Fl.map fun b=>b.data.toList).getD j []))
 apart:∀ (i j:Nat) (u v:Value),fs[i]? =some u->fs[j]? =some v->i≠j->∀g,u.ownBlock=some g->v.ownBlock≠some g
 clear:∀k,(lv.ownBlock=some k\/oz' fs fs.length k)->¬U k
structure hu' where
 At:World->Nat->Mod.Sk->(Nat->Prop)->Prop
 lt:∀ {w v a U},At w v a U->∀k,U k->k < w.heap.size
 far:∀ {w w' v a U E},At w v a U->Far E w w'->(∀k,U k->¬E k)->At w' v a U
 deliver:∀ {w v a U} (bs:Value) (l:List UInt8),At w v a U->ay' a->Y' w bs l->Calls Tryz.prog 27 #[y' v,bs] w fun r w'=>
  ∃lv fs U',r= .returned (.tuple #[lv, .int .i64 (av' a l).1])/\L' w.heap.size w' lv fs (av' a l).2.2 U'/\At w' v (av' a l).2.1 U'/\Far U w w'/\∀k,U' k->U k\/w.heap.size<=k
 epoch:∀ {w v a U},At w v a U->Calls Tryz.prog 42 #[y' v] w fun r w'=>r= .returned (.int .i64 a.epoch)/\Below w.heap.size w w'
 log:∀ {w v a U} (i:Int),At w v a U->ay' a->Calls Tryz.prog 32 #[y' v, .int .i64 i] w fun r w'=>
  ∃lv,r= .returned lv/\w'.ownsRow w.heap.size 9 1 lv (if 0<=i/\i < 3 then a.logs i.toNat else []).length (aK' (if 0<=i/\i < 3 then a.logs i.toNat else []))/\Below w.heap.size w w'
 opened:∀ {w} (bs:Value),Y' w bs (List.replicate 7808 0)->Calls Tryz.prog 38 #[bs] w fun r w'=>
  ∃v U,r= .returned (.tuple #[y' v, .int .i64 0])/\At w' v {epoch:=0,logs:=fun _=>[],held:=[]} U/\Below w.heap.size w w'/\∀k,U k->w.heap.size<=k
structure aH' (N:Nat) (a:Mod.Ag):Prop where
 ep:a.epoch<=2147483647
 tk:a.ticks<=N
 sum:∀s,s < 3->(a.fl s).base+(a.fl s).kept.length<=N
 bod:∀s,s < 3->∀x∈ (a.fl s).kept,x.1.size<=20/\x.2<=N
theorem aH'.mono {N r:Nat} {a:Mod.Ag} (f:aH' N a) (h:N<=r):aH' r a:=
 ⟨f.ep,Nat.le_trans f.tk h,fun s hs=>Nat.le_trans (f.sum s hs) h,fun s hs x u=>⟨(f.bod s hs x u).1,Nat.le_trans (f.bod s hs x u).2 h⟩⟩
theorem gi' {N:Nat} {a:Mod.Ag} (r:aH' N a) (s:Nat) (b:ByteArray) (z:b.size<=20):aH' (N+1) (a.submit s b):=by
 refine⟨r.ep,Nat.le_succ_of_le r.tk,fun t u=>?_,fun t u x f=>?_⟩
 ·have:=r.sum t u;unfold Mod.Ag.submit Mod.upd;simp only
  split
  ·rename_i e;subst e;simp;omega
  ·omega
 ·unfold Mod.Ag.submit Mod.upd at f;simp only at f;split at f
  ·rename_i e;subst e;rw[List.mem_append,List.mem_singleton]at f;rcases f with f|rfl
   ·exact⟨(r.bod t u x f).1,Nat.le_succ_of_le (r.bod t u x f).2⟩
   ·exact⟨z,Nat.zero_le _⟩
  ·exact⟨(r.bod t u x f).1,Nat.le_succ_of_le (r.bod t u x f).2⟩
theorem ko' (epoch s:Nat) (r:Mod.Flow) (ticks:Nat):∀i,∀y∈ (Mod.sendTo epoch s r ticks i).1,∃x∈r.kept,y.1=x.1/\(y.2=x.2\/y.2=ticks)
 |0=>fun y f=>⟨y,f,rfl, .inl rfl⟩
 |i+1=>by
  intro y f;have ih:=ko' epoch s r ticks i;rw[Mod.sendTo]at f;split at f
  ·exact ih y f
  ·rename_i x u;split at f
   ·rcases List.mem_or_eq_of_mem_set f with f|rfl
    ·exact ih y f
    ·exact⟨x,List.mem_of_getElem? u,rfl, .inr rfl⟩
   ·exact ih y f
theorem jf' {N:Nat} {a:Mod.Ag} (f:aH' N a):aH' (N+1) a.tick.1:=by
 have h0:aH' (N+1) {a with ticks:=a.ticks+1}:=⟨f.ep,Nat.succ_le_succ f.tk,fun s hs=>Nat.le_succ_of_le (f.sum s hs),fun s hs x r=>⟨(f.bod s hs x r).1,Nat.le_succ_of_le (f.bod s hs x r).2⟩⟩;unfold Mod.Ag.tick;split
 ·exact h0
 ·split
  ·exact h0
  ·refine⟨f.ep,Nat.succ_le_succ f.tk,fun s hs=>?_,fun s hs y u=>?_⟩
   ·have:=f.sum s hs;simp only[Mod.sendFl,if_pos hs,gC'];omega
   ·simp only[Mod.sendFl,if_pos hs]at u;obtain⟨x,r,h1,h2⟩:=ko' _ _ _ _ _ y u;have h3:=f.bod s hs x r;refine⟨h1 ▸ h3.1,?_⟩;have:=f.tk;rcases h2 with h2|h2
    ·omega
    ·omega
theorem oA' {N:Nat} {a:Mod.Ag} (f:aH' N a) (n:Nat->Nat) (u:∀s,s < 3->n s<=(a.fl s).kept.length):aH' N (a.drop n):=by
 refine⟨f.ep,f.tk,fun s hs=>?_,fun s hs x r=>?_⟩
 ·have:=f.sum s hs;have:=u s hs;simp only[Mod.Ag.drop,Mod.dropTo,if_pos hs,Mod.Flow.drop,List.length_drop];omega
 ·simp only[Mod.Ag.drop,Mod.dropTo,if_pos hs,Mod.Flow.drop]at r;exact f.bod s hs x (List.mem_of_mem_drop r)
theorem fx' {N:Nat} {a:Mod.Ag} (f:aH' N a) (k e st q:Int) (b:ByteArray):aH' N (a.deliver k e st q b):=by
 have r:=oA' f (a.says k e st q b) (fun s _=>fX' a k e st q b s);unfold Mod.Ag.deliver;split
 ·exact⟨f.ep,f.tk,f.sum,f.bod⟩
 ·split
  ·exact f
  ·split
   ·exact⟨f.ep,f.tk,f.sum,f.bod⟩
   ·split
    ·refine⟨r.ep,r.tk,fun s hs=>?_,fun s hs x u=>?_⟩
     ·have:=r.sum s hs;simp only[Mod.fresh,if_pos hs,List.length_map];exact this
     ·simp only[Mod.fresh,if_pos hs]at u;obtain⟨y,D,rfl⟩:=List.mem_map.1 u;exact⟨(r.bod s hs y D).1,Nat.zero_le _⟩
    ·split
     ·split
      ·exact f
      ·refine⟨r.ep,r.tk,fun s hs=>?_,fun s hs x u=>?_⟩
       ·have:=r.sum s hs;simp only[Mod.upd];split
        ·rename_i z;subst z;exact this
        ·exact this
       ·simp only[Mod.upd]at u;split at u
        ·rename_i z;subst z;exact r.bod _ hs x u
        ·exact r.bod s hs x u
     ·exact f
def au' (a:Mod.Ag) (i:Int):List ByteArray:=if 0<=i/\i < 3 then a.spool i.toNat else []
def aI' (a:Mod.Ag) (l:List UInt8):Int×Mod.Ag:=
 if Wire.reads l=true then(0,a.deliver (Wire.kindOf l) (Wire.epochOf l) (Wire.streamOf l) (Wire.seqOf l) (Wire.bodyOf l))else(1,a)
def ai' (a:Mod.Ag) (i:Int) (s:ByteArray):Mod.Ag:=if a.refuses i s.size=0 then a.submit i.toNat s else a
structure dD' (top:Nat) where
 At:World->Nat->Mod.Ag->(Nat->Prop)->Prop
 lt:∀ {w v a U},At w v a U->∀k,U k->k < w.heap.size
 far:∀ {w w' v a U E},At w v a U->Far E w w'->(∀k,U k->¬E k)->At w' v a U
 submit:∀ {w v a U N} (i:Int) (s:ByteArray),At w v a U->aH' N a->N < top->Calls Tryz.prog 21 #[y' v, .int .i64 i, .string s] w fun r w'=>
  ∃U',r= .returned (.int .i64 (a.refuses i s.size))/\At w' v (ai' a i s) U'/\Far U w w'/\∀k,U' k->U k\/w.heap.size<=k
 deliver:∀ {w v a U N} (bs:Value) (l:List UInt8),At w v a U->aH' N a->N < top->Y' w bs l->Calls Tryz.prog 28 #[y' v,bs] w fun r w'=>
  ∃U',r= .returned (.int .i64 (aI' a l).1)/\At w' v (aI' a l).2 U'/\Far U w w'/\∀k,U' k->U k\/w.heap.size<=k
 tick:∀ {w v a U N},At w v a U->aH' N a->N < top->Calls Tryz.prog 24 #[y' v] w fun r w'=>
  ∃lv fs U',r= .returned lv/\L' w.heap.size w' lv fs (a.tick.2.map fun l=>⟨l.toArray⟩) U'/\At w' v a.tick.1 U'/\Far U w w'/\∀k,U' k->U k\/w.heap.size<=k
 epoch:∀ {w v a U},At w v a U->Calls Tryz.prog 39 #[y' v] w fun r w'=>r= .returned (.int .i64 a.epoch)/\Below w.heap.size w w'
 spool:∀ {w v a U} (i:Int),At w v a U->Calls Tryz.prog 26 #[y' v, .int .i64 i] w fun r w'=>
  ∃lv,r= .returned lv/\w'.ownsRow w.heap.size 9 1 lv (au' a i).length (aK' (au' a i))/\Below w.heap.size w w'
 opened:∀ {w} (bs:Value),Y' w bs (List.replicate 1664 0)->Calls Tryz.prog 37 #[bs] w fun r w'=>
  ∃v U,r= .returned (.tuple #[y' v, .int .i64 0])/\At w' v {epoch:=1,ticks:=0,welcome:=false,fenced:=false,fl:=fun _=>{base:=0,kept:=[],held:=[]}} U/\Below w.heap.size w w'/\∀k,U k->w.heap.size<=k
section
variable {top N:Nat} {C:dD' top} {w x:World} {q sv rp:Nat} {a:Mod.Ag} {r:vr'} {kv hk:Nat->Value} {U:Nat->Prop} {left:Int} {E:Nat->Prop}
end
theorem cV' (q:Nat) (f:q<=1000000000000) (w:World):Calls Tryz.prog 202 #[.int .i64 q] w fun e w'=>e= .returned (.int .i64 ((q:Int)+2))/\w'=w:=by
 have r:IntKind.i64.wrap ((q:Int)+2)=(q:Int)+2:=by rw[IntKind.wrap_i64];omega
 go_enter Tryz.func202,Tryz.ntmps202;go_wp2;go_ret;exact⟨rfl,rfl⟩
theorem tv':(Tryz.prog.info? 3).map (fun i=>(i.zero,i.size,i.bytes))=some (some (.int .i64 0),1,8):=by kernel_rfl
theorem gj' (q:Nat) (ah:q<=1000000000) (b:ByteArray) (ai:0 < b.size) (w:World):
  Calls Tryz.prog 155 #[.int .i64 q, .string b] w fun e w'=>∃v,e= .returned v/\w'.ownsRow w.heap.size 3 1 v (Mod.bitsOf q b[0].toNat 3).length (H' (Mod.bitsOf q b[0].toNat 3))/\Below w.heap.size w w':=by
 obtain⟨i0,hi,V,X,Y⟩:=bj' tv';go_enter Tryz.func155,Tryz.ntmps155;go_wp2;go_loopw[5,6,7] (fun v5 _ i wr=>∃j:Nat,j<=3/\i= .int .i64 j/\wr.ownsRow w.heap.size 3 1 v5 (Mod.bitsOf q b[0].toNat j).length (H' (Mod.bitsOf q b[0].toNat j))/\Below w.heap.size w wr) (fun _ _ i _=>3 - (intOf i).toNat)
 case atStart=>exact⟨0,by omega,rfl,World.ownsRow_nil _ _ _ _,Below.refl _ _⟩
 case round=>
  obtain⟨j,hj,rfl,Z,aa⟩:=hrel;have u:=t' Z;have F:=t' aa;clear Z aa;rcases(show j=0\/j=1\/j=2\/j=3 by omega)with rfl|rfl|rfl|rfl
  ·have J:=cN' q b[0].toNat 0;have G:(bits BinOp.and IntKind.u8 (((b[0].toNat:Nat):Int)) 1==1)=decide (b[0].toNat % 2=1):=bit0 ⟨b[0].toNat,b[0].toNat_lt⟩;have ab:IntKind.i64.wrap ((q:Int)+2+0)=(q:Int)+2+0:=by rw[IntKind.wrap_i64];omega
   have M:=fun y=>cV' q (by omega) y;by_cases f:b[0].toNat % 2=1
   ·have r:=t' (show Mod.bitsOf q b[0].toNat (0+1)=Mod.bitsOf q b[0].toNat 0++[q+2+0] by simp[Mod.bitsOf,f]);simp only[f,decide_true]at G;generalize Mod.bitsOf q b[0].toNat 0=H at J r u;have O:=(i' F).size;go_upto_region 7 with (first|(go_at_call 202;refine(M _).mono ?_;rintro e y ⟨rfl,rfl⟩)|(at_builtin;refine wpList_append_own _ rfl (.tmp 16) (.tmp 21) 26 rfl w.heap.size 3 i0 (.int .i64 0) 1 8 Tryz.underlying26 hi V X Y rfl (by decide) u5 H.length (H' H) rfl ((i' u).alloc _) ⟨y.heap.size,0,none⟩ 1 1 [.int .i64 ((q:Int)+2)] rfl rfl bP' (by intro ac hu;simp at hu;subst hu;rfl) (by unfold maxLen;omega) (by omega) (by simp;omega) ?_;intro ad Q z I _;have D:Below w.heap.size w Q:=(i' F).trans (((Below.refl _ y).alloc O _).trans (X' (B:=w.heap.size) I (by simp;omega) (fun g U=>(World.ownsRow.lt (i' u) g U).1)));replace z:=t' z;replace D:=t' D;clear I));go_wp2;go_roundw
    case rel=>exact⟨0+1,by omega,by go_num,by have:=i' z;rw[i' r,List.length_append,em'];simpa using this,i' D⟩
    case measure=>simp[intOf]
   ·have r:=t' (show Mod.bitsOf q b[0].toNat (0+1)=Mod.bitsOf q b[0].toNat 0 by simp[Mod.bitsOf,f]);simp only[f,decide_false]at G;go_wp2;exact⟨⟨0+1,by omega,by go_num,by rw[i' r];exact i' u,i' F⟩,by simp[intOf]⟩
  ·have J:=cN' q b[0].toNat 1;have G:(bits BinOp.and IntKind.u8 (((b[0].toNat:Nat):Int) / 2) 1==1)=decide (b[0].toNat / 2 % 2=1):=bit1 ⟨b[0].toNat,b[0].toNat_lt⟩;have ab:IntKind.i64.wrap ((q:Int)+2+1)=(q:Int)+2+1:=by rw[IntKind.wrap_i64];omega
   have M:=fun y=>cV' q (by omega) y;by_cases f:b[0].toNat / 2 % 2=1
   ·have r:=t' (show Mod.bitsOf q b[0].toNat (1+1)=Mod.bitsOf q b[0].toNat 1++[q+2+1] by simp[Mod.bitsOf,f]);simp only[f,decide_true]at G;generalize Mod.bitsOf q b[0].toNat 1=H at J r u;have O:=(i' F).size;go_upto_region 7 with (first|(go_at_call 202;refine(M _).mono ?_;rintro e y ⟨rfl,rfl⟩)|(at_builtin;refine wpList_append_own _ rfl (.tmp 16) (.tmp 21) 26 rfl w.heap.size 3 i0 (.int .i64 0) 1 8 Tryz.underlying26 hi V X Y rfl (by decide) u5 H.length (H' H) rfl ((i' u).alloc _) ⟨y.heap.size,0,none⟩ 1 1 [.int .i64 ((q:Int)+2+1)] rfl rfl bP' (by intro ac hu;simp at hu;subst hu;rfl) (by unfold maxLen;omega) (by omega) (by simp;omega) ?_;intro ad Q z I _;have D:Below w.heap.size w Q:=(i' F).trans (((Below.refl _ y).alloc O _).trans (X' (B:=w.heap.size) I (by simp;omega) (fun g U=>(World.ownsRow.lt (i' u) g U).1)));replace z:=t' z;replace D:=t' D;clear I));go_wp2;go_roundw
    case rel=>exact⟨1+1,by omega,by go_num,by have:=i' z;rw[i' r,List.length_append,em'];simpa using this,i' D⟩
    case measure=>simp[intOf]
   ·have r:=t' (show Mod.bitsOf q b[0].toNat (1+1)=Mod.bitsOf q b[0].toNat 1 by simp[Mod.bitsOf,f]);simp only[f,decide_false]at G;go_wp2;exact⟨⟨1+1,by omega,by go_num,by rw[i' r];exact i' u,i' F⟩,by simp[intOf]⟩
  ·have J:=cN' q b[0].toNat 2;have G:(bits BinOp.and IntKind.u8 (((b[0].toNat:Nat):Int) / 4) 1==1)=decide (b[0].toNat / 4 % 2=1):=bit2 ⟨b[0].toNat,b[0].toNat_lt⟩;have ab:IntKind.i64.wrap ((q:Int)+2+2)=(q:Int)+2+2:=by rw[IntKind.wrap_i64];omega
   have M:=fun y=>cV' q (by omega) y;by_cases f:b[0].toNat / 4 % 2=1
   ·have r:=t' (show Mod.bitsOf q b[0].toNat (2+1)=Mod.bitsOf q b[0].toNat 2++[q+2+2] by simp[Mod.bitsOf,f]);simp only[f,decide_true]at G;generalize Mod.bitsOf q b[0].toNat 2=H at J r u;have O:=(i' F).size;go_upto_region 7 with (first|(go_at_call 202;refine(M _).mono ?_;rintro e y ⟨rfl,rfl⟩)|(at_builtin;refine wpList_append_own _ rfl (.tmp 16) (.tmp 21) 26 rfl w.heap.size 3 i0 (.int .i64 0) 1 8 Tryz.underlying26 hi V X Y rfl (by decide) u5 H.length (H' H) rfl ((i' u).alloc _) ⟨y.heap.size,0,none⟩ 1 1 [.int .i64 ((q:Int)+2+2)] rfl rfl bP' (by intro ac hu;simp at hu;subst hu;rfl) (by unfold maxLen;omega) (by omega) (by simp;omega) ?_;intro ad Q z I _;have D:Below w.heap.size w Q:=(i' F).trans (((Below.refl _ y).alloc O _).trans (X' (B:=w.heap.size) I (by simp;omega) (fun g U=>(World.ownsRow.lt (i' u) g U).1)));replace z:=t' z;replace D:=t' D;clear I));go_wp2;go_roundw
    case rel=>exact⟨2+1,by omega,by go_num,by have:=i' z;rw[i' r,List.length_append,em'];simpa using this,i' D⟩
    case measure=>simp[intOf]
   ·have r:=t' (show Mod.bitsOf q b[0].toNat (2+1)=Mod.bitsOf q b[0].toNat 2 by simp[Mod.bitsOf,f]);simp only[f,decide_false]at G;go_wp2;exact⟨⟨2+1,by omega,by go_num,by rw[i' r];exact i' u,i' F⟩,by simp[intOf]⟩
  ·go_wp2;go_ret;exact⟨_,rfl,i' u,i' F⟩
end Go.Proofs.YtamafdcnbcoegaaGreat
