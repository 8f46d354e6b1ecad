/- Part 14. -/
import Derived.ProofKit
import Derived.SizedLaws
import Derived.OpenShut
import Derived.ShutString
import Derived.ChangeOld
import Derived.Lib.SmallJoins
import Derived.Deep.Slices
import Derived.JoinedCond
import Derived.Test.YtamafdcnbcoegaaGreatOj13
set_option maxRecDepth 100000
set_option maxHeartbeats 40000000
namespace Go.Proofs.YtamafdcnbcoegaaGreat
attribute [local simp, local go_sem] Ev Ep Ei Eb Et
abbrev tr':= @List.not_mem_nil
abbrev rK':= @Go.DataW.trod_int
open Go.RowKit Go.Proofs.Tryz
variable{p:World}{o:z10}{w a:Nat}
theorem tU' (own:p.ownsRow 0 5 1 (.slice (some ⟨w,0,none⟩) a a) a (bv (bO' o))) (hn:o.size+8=a) (z:o.size<=140737488353980):Qn p (.slice (some ⟨w,0,none⟩) o.size a) o.data.toList:=by
 have hl:o.data.toList.length=o.size:=by simp
 refine⟨_,a,by rw[hl],by omega,by omega,fun _=>⟨w,0,rfl,fun i hi=>?_⟩⟩;rw[hl]at hi;have:=z59 own i (by omega);rw[z44,this,eb' (by rw[aN'];omega),kz' hi];have h2:i < o.data.toList.length:=by omega
 rw[z17,z18 h2];rfl
theorem rL' (own:p.ownsRow 0 5 1 (.slice (some ⟨w,0,none⟩) a a) a (bv (bO' o))) (hn:o.size+8=a):BAt (fun _ _=>True) p (.slice (some ⟨w,0,none⟩) a a) (bO' o):=
 bo' (by rw[Z',aN',hn];exact own) (fun _ _ _ _=>trivial)
theorem rM' (own:p.ownsRow 0 5 1 (.slice (some ⟨w,0,none⟩) a a) a (bv (bO' o))) (hn:o.size+8=a):p.ownsRow 0 5 1 (.slice (some ⟨w,0,none⟩) a a) (bO' o).length (bv (bO' o)):=by
 rw[aN',hn];exact own
theorem rN' (s:z10) (x:World) (z:Nat) (hn:s.size+8=z) (F:s.size<=140737488354000):
  Calls prog 77 #[.string s] x fun r w'=>∃g,r= .returned (.slice (some ⟨g,0,none⟩) z z)/\x.heap.size<=g/\g < w'.heap.size/\Below x.heap.size x w'/\w'.ownsRow 0 5 1 (.slice (some ⟨g,0,none⟩) z z) z (bv (bO' s)):=by
 subst hn;refine(pD' s x F).mono ?_;rintro r w' ⟨rfl,hb,G,H⟩;exact⟨_,rfl,z13 _,G,hb,H⟩
def Af' (x:World) (q sv rp:Nat) (fl:Bool) (left:Int) (a:Mq.Ag) (r:ah') (z hk:Nat->Value) (L:List UInt8):Prop:=
 x.heap[q]? =some (.cells #[D' sv,D' rp, .bool fl, .int .i64 left] 128 (0,0))/\Qk x rp a r z hk/\
  ∀F:Int,Calls prog 29 #[D' sv, .int .u64 F] x fun e y=>∃v',e= .returned v'/\Qt x.heap.size y v' L/\Below x.heap.size x y
structure yJ' (L:List UInt8) where
 At2:World->Nat->(Nat->Prop)->Prop
 lt2:∀ {x v U},At2 x v U->∀k,U k->k < x.heap.size
 far2:∀ {x y v U E},At2 x v U->Far E x y->(∀k,U k->¬E k)->At2 y v U
 open2:∀ {x} (bs:Value),Qn x bs L->Calls prog 37 #[bs] x fun r w'=>∃v U,r= .returned (.tuple #[D' v, .int .i64 0])/\At2 w' v U/\Below x.heap.size x w'/\∀k,U k->x.heap.size<=k
theorem mZ' {K:cF'} (B D n:Nat) (A:Nat->Nat->Prop) (w:World) (z:Nat) (G Z J:Value) (hs:List Nat) (F M:List ax') (t:ax') (i:Nat) (bw bz bA:Int) (s:z10) (kp bB bC bD bE:Int) (bF:z10)
  (sv rp:Nat) (fl:Bool) (left:Int) (a:Mq.Ag) (r:ah') (dP hk:Nat->Value) (L:List UInt8)
  (S:Qs B n A w z G Z J hs F M) (cH:fX' D z G Z J (F++M)) (cI:∀t∈F,K.A (n+8) t) (cJ:∀t∈M,K.S (n+8) t) (dQ:F.length < 6) (bG:(F++M)[i]? =some t)
  (bU:L.length=1664) (cK:a.Qa<=100000000000000) (cL:∃dR n c,r.ex= .slice dR n c) (cM:r.dead=false)
  (bV:∀ (x:World) (E:Nat->Prop),Far E w x->(∀k,t.In k->¬E k)->Af' x t.q sv rp fl left a r dP hk L) (ab:yJ' L)
  (cN:∀ {y az bH aA U ak ao},y.heap[az]? =some (.cells #[D' bH,D' aA, .bool false, .int .i64 0] 128 (0,0))->ab.At2 y bH U->Qk y aA (Mq.Yj a) {r with dead:=false} ak ao->¬U az->¬aO' aA ak ao az->(∀k,U k->¬aO' aA ak ao k)->
   ∃t2:ax',t2.q=az/\t2.Is y/\K.A (n+8) t2/\∀k,t2.In k->k=az\/aO' aA ak ao k\/U k) (eB:n+8<=1000000000):
  Calls prog 124 #[D' z,D' t.q,ap' bw bz bA s kp bB bC bD bE bF] w fun r y=>r= .returned (.bool true)/\Ji K B y.heap.size (n+8) y z/\Far (fun k=>B<=k/\k < D) w y:=by
 have bW:=m' S;have cO:=m' cH;have dS:=m' cI;have dT:=m' cJ;have dU:=m' cL;have aB:=m' (fun(x:World) (h:Far (Us z J) w x)=>bV x (Us z J) h (fun k hk e=>(S.us i t bG k hk).2.1 e));have cP:=m' (fun(x:World) (h:Far (fun k=>Us z J k\/G.ownBlock=some k) w x)=>bV x (fun k=>Us z J k\/G.ownBlock=some k) h (fun k hk e=>e.elim (S.us i t bG k hk).2.1 (S.us i t bG k hk).2.2.1));obtain⟨q,cQ⟩:=exq (t.q);rw[<-cQ]at aB cP ⊢;obtain⟨ad,bI⟩:=exq (⟨L.toArray⟩:z10);have cR:ad.size=1664:=by rw[bI];simp[ByteArray.size,bU]
 obtain⟨O,bX⟩:∃O:Nat,ad.size+8=O:=⟨_,rfl⟩;have aP:=m' (z12 bX cR);have eC:ad.size<=O:=by omega
 have eD:(ad.size:Int)<=O:=by omega
 have eE:¬O=0:=by omega
 have cS:=fun x=>m' (rN' ad x O bX (by omega));have cT:ad.data.toList=L:=by rw[bI]
 have bY:=m' (z12 bI cT);have bZ:=m' (Xm.start S);have dV:=S.wat.blk;have bf:=m' bU;have dW:=m' cK;have dX:=m' cM;have dY:=m' (fun y az bH aA U ak ao=> @cN y az bH aA U ak ao);clear S cH cI cJ bV cQ bI cT bG cL bX cR bU cK cM cN;unfold ap';unfold D' at *;go_enter func124,ntmps124;go_upto_region 1 with fail;refine G' (fun x=>Xm B n A w x z G Z J J hs F M/\gs' A z G Z J (F++M) w.heap.size/\x.heap[w.heap.size]? =some (.cells #[.int .i64 bw, .int .i64 bz, .int .i64 bA, .string s, .int .u64 kp, .int .i64 bB, .int .i64 bC, .int .i64 bD, .int .i64 bE, .string bF] 86 (0,0)))
  ⟨(d' bZ).below ((z11 _ _).alloc (z13 _) _),(d' bZ).Yn (z13 _),z19 w _⟩ ?_
 clear bZ dV;rintro bJ ⟨ca,cU,bK⟩;have f1:=(d' aB) bJ ca.far;have c4:=y' (i:=4) bK;have c0:=y' (i:=0) f1.1;simp at c4 c0;have aC:=z14 bK;have bg:=z14 f1.1;have bL:=m' ca;have cV:=m' cU;have cW:=m' bK;clear ca cU bK f1;refine ae'
  [Ep q 0,Ep q 0,Ep q 0,Ep sv 0,Ep w.heap.size 4,Ev (.int .u64 kp),fun v aD=>Qt bJ.heap.size aD v L,fun v aD=>Qt bJ.heap.size aD v L]
  [[1],[1019],[2020],[3021],[5],[5023],[4022,6024],[7025]] [20,21,22,23,24,25,26,8] [7,1,11,7,103] ?_ ?_ (hst:=by repeat' (first|exact V' _|exact bZ' _ _ _ _|exact trivial|apply z12))
 ·refine⟨?_,?_,?_,?_,?_,?_,?_,?_,trivial⟩;all_goals
   intro b x hb aE;have z0:=(hb.cell (p:=⟨q,0,none⟩) bg).trans c0;have z4:=(hb.cell (p:=⟨w.heap.size,4,none⟩) aC).trans c4;have bh:=((d' aB) x ((d' bL).below hb).far).2.2 kp;have cb:=hb.size;have cc:=m' bh;clear hb bh;simp only[I',List.getD_cons_zero,List.getD_cons_succ,Array.getD_eq_getD_getElem?]at aE;try simp only[and_true,Nat.reduceLT,Nat.reduceDiv,Nat.reduceMod,Nat.reduceSub,if_true,if_false,List.getD_cons_zero]at aE
   try go_simp
   try exact z11 _ _
  all_goals first
   |exact⟨rfl,z11 _ _⟩
   |(refine(d' cc).mono ?_;rintro e dZ ⟨v,rfl,cd,aF⟩;exact⟨_,rfl,aF,bz' cd cb⟩)
   |exact⟨_,rfl,z11 _ _,aE⟩
   |skip
 ·intro f bM aF aG;simp only[ag']at aG;have ap:=aG.2.2.2.2.2.2.2.1;obtain⟨ce,cf⟩:=exq (f 7);rw[<-cf]at ap;simp only[O',<-cf,Nat.zero_add,Nat.reduceAdd];clear cf aG;have aH:Qt bJ.heap.size bM ce L:=ap;obtain⟨Q,aQ,cX⟩:∃Q aQ,ce= .slice (some ⟨Q,0,none⟩) 1664 aQ:=by have h:=aH;unfold Qt at h;obtain⟨g,c,e⟩:=aJ' (bz' h (z54 _)) (by have:=d' bf;omega);rw[d' bf]at e;exact⟨g,c,e⟩
  have ac:=z15 aH Q (by rw[cX];rfl);have cg:bM.ownsRow 0 5 1 ce L.length (bv L):=bz' aH (z54 _);have bi:=(d' bL).Yn ac.1;have cY:w.heap.size < Q:=z20 aC ac.1;have cZ:=(d' bL).below aF;have da:=(aF.block _ aC).trans (d' cW);subst cX;have bj:=(bo' (A:=fun _ _=>True) (by rw[Z'];exact cg) (fun _ _ _ _=>trivial)).str;rw[<-(d' bY).1]at bj;have ch:=m' (z12 cZ (z12 cg (z12 da (z12 bi cY))));clear ap aH cg ac bi cY cZ da aF bL cW c0 c4 aC bg;go_upto_region 5 with fail;refine G' (fun x=>Xm B n A w x z G Z J J hs F M/\x.ownsRow 0 5 1 (.slice (some ⟨Q,0,none⟩) 1664 aQ) L.length (bv L)/\x.heap[w.heap.size]? =some (.cells #[.int .i64 bw, .int .i64 bz, .int .i64 bA, .string s, .int .u64 kp, .int .i64 bB, .int .i64 bC, .int .i64 bD, .int .i64 bE, .string bF] 86 (0,0)))
   (by
    obtain⟨bN,aR,aS,_⟩:=d' ch;first
     |exact⟨bN,aR,aS⟩
     |(have ah:=z41 (z11 bM.heap.size bM) 1;exact⟨bN.below ah,L' aR (fun g H=>ah.block g (z15 aR g H).2),(ah.block _ (z14 aS)).trans aS⟩)) ?_
  clear bj;rintro eF ⟨aT,i3,aI⟩;have bi:=(d' ch).2.2.2;clear ch;have db:=m' (z12 aT (z12 i3 (z12 aI bi)));clear aT i3 aI bi;go_upto_region 6 with (go_at_call 77;refine(d' (cS _)).mono ?_;rintro dc ea ⟨V,rfl,ac,aq,aJ,dd⟩;have de:=m' (z12 ac (z12 aq (z12 aJ dd)));clear ac aq aJ dd);clear cS;obtain⟨aT,i3,aI,df,bk⟩:=d' db;obtain⟨ac,aq,aJ,aU⟩:=d' de;have aV:=aT.Yn ac;have dg:=aT.below aJ;have i4:=L' i3 (fun g H=>aJ.block g (z15 i3 g H).2);have aK:=(aJ.block _ (z14 aI)).trans aI;have eb:Q < ea.heap.size:=(z15 i4 Q rfl).2;have bl:Q≠V:=by have:=(z15 i3 Q rfl).2;omega
  have I:w.heap.size < V:=z20 (z14 aI) ac;have aL:=m' (dg.keep (.slice none 0 0) (.slice (some ⟨Q,0,none⟩) 1664 aQ) (.slice none 0 0) [] [] L (z27 _ _ _ _) i4 (z27 _ _ _ _) (fun g H=>by
   rcases H with h|h|h
   ·cases h
   ·injection h with h;subst h;exact⟨df,qg' bk⟩
   ·cases h) (by omega) (by have:=d' bf;omega) (by simp) (by simp))
  unfold D' at aL;have dh:=m' (z12 aU (z12 aK (z12 aq (z12 bl (z12 aV (z12 I bk))))));clear aT i3 aI df bk ac aq aJ aU aV dg i4 aK eb bl I db de;go_upto_region 7 with (go_at_call 76;refine(d' aL).mono ?_;rintro di ec ⟨rfl,dj,bO,ed,aa,aW,aX⟩;have dl:=m' (z12 aa (z12 aW aX));clear aa aW aX);clear aL;obtain⟨aU,aK,aq,bl,aV,I,bk⟩:=d' dh;obtain⟨aa,aW,aX⟩:=d' dl;have ci:=d' cV;have cj:¬ (((Value.slice none 0 0).ownBlock=some V\/(Value.slice (some ⟨Q,0,none⟩) 1664 aQ).ownBlock=some V\/(Value.slice none 0 0).ownBlock=some V)):=by
   rintro(h|h|h)
   ·cases h
   ·injection h with h;exact bl h
   ·cases h
  have au:=L' aU (fun g H=>aW.rest g (z15 aU g H).2 (by
   have e:V=g:=(by injection H);subst e;rintro(h|h)
   ·exact cj h
   ·exact aV.1.1 h))
  have aY:¬ (((Value.slice none 0 0).ownBlock=some w.heap.size\/(Value.slice (some ⟨Q,0,none⟩) 1664 aQ).ownBlock=some w.heap.size\/(Value.slice none 0 0).ownBlock=some w.heap.size)):=by
   rintro(h|h|h)
   ·cases h
   ·exact absurd (show Q=w.heap.size by injection h) (by omega)
   ·cases h
  have aZ:=(aW.rest _ (z14 aK) (by
   rintro(h|h)
   ·exact aY h
   ·exact ci.1.1 h)).trans aK
  have bm:=aX V aV aq cj;have bn:=aX w.heap.size ci (z14 aK) aY;have ck:=tU' au (d' aP).1 (by have:=(d' aP).2;omega);rw[(d' bY).2]at ck;have dm:=m' ck;have dn:=m' (z12 aa (z12 au (z12 aZ (z12 bm (z12 I bn)))));clear aU aK aq bl aV I bk aa aW aX ci cj au aY aZ bm bn ck dh dl;go_upto_region 8 with (go_at_call 37;refine(ab.open2 _ (d' dm)).mono ?_;rintro eG cl ⟨bP,bQ,rfl,hA2,av,ax⟩;have dq:=m' (z12 hA2 (z12 av ax));clear hA2 av ax);clear dm;obtain⟨aa,au,aZ,bm,I,bn⟩:=d' dn;obtain⟨hA2,av,ax⟩:=d' dq;have dr:=aa.below av;have cm:=L' au (fun g H=>av.block g (z15 au g H).2);have ds:=(av.block _ (z14 aZ)).trans aZ;have dt:=m' (rL' cm (d' aP).1);have ee:=(z15 au V rfl).2;have u5:=fun k (h:Us z bO k)=>aa.S.wat.Vt k h;have cn:=m' (z12 dr (z12 cm (z12 ds (z12 bm (z12 I (z12 bn (z12 hA2 (z12 (fun k (h:bQ k)=>((⟨fun e=>by have:=ax k h;omega,fun e=>by have:=ax k h;have:=u5 k e;omega,z26 aa.far.size (ax k h),aa.Yn (ax k h)⟩:k≠V/\¬Us z bO k/\w.heap.size<=k/\gs' dj z G Z bO (F++M) k))) av.size))))))));clear aa au aZ bm I bn hA2 av ax dr cm ds ee u5 dn dq;go_upto_region 9 with (go_at_call 79;refine(gf' _ _ ad cl (d' dt) (by have:=(d' aP).2;omega)).mono ?_;rintro eH eI ⟨rfl,nq,rfl⟩);refine G' (fun x=>Xm B (n+4) dj w x z G Z J bO ed F M/\x.ownsRow 0 5 1 (.slice (some ⟨V,0,none⟩) O O) O (bv (bO' ad))/\x.heap[w.heap.size]? =some (.cells #[.int .i64 bw, .int .i64 bz, .int .i64 bA, .string s, .int .u64 kp, .int .i64 bB, .int .i64 bC, .int .i64 bD, .int .i64 bE, .string bF] 86 (0,0))/\ab.At2 x bP bQ/\ec.heap.size<=x.heap.size)
   (by obtain⟨bN,aR,aS,_,_,_,dc,_,di⟩:=d' cn;have ah:=z41 (z11 cl.heap.size cl) nq;exact⟨bN.below ah,L' aR (fun g H=>ah.block g (z15 aR g H).2),(ah.block _ (z14 aS)).trans aS,ab.far2 dc (C' (E:=fun _=>False) ah) (fun _ _ h=>h),z26 di ah.size⟩) ?_
  rintro eJ ⟨du,dv,ba,hA7,ef⟩;obtain⟨eg,eh,z3,dw,I,bo,z4,ai,z5⟩:=d' cn;clear cn dt eg eh z3 z4 z5;have aL:=m' (du.keep (.slice none 0 0) (.slice (some ⟨V,0,none⟩) O O) (.slice none 0 0) [] [] (bO' ad) (z27 _ _ _ _) (rM' dv (d' aP).1) (z27 _ _ _ _) (fun g H=>by
   rcases H with h|h|h
   ·cases h
   ·injection h with h;subst h;exact⟨dw,qg' I⟩
   ·cases h) (by omega) (by rw[aN'];have:=(d' aP).2;omega) (by simp) (by simp))
  unfold D' at aL;have u7:=ab.lt2 hA7;have dx:=m' (z12 hA7 (z12 ai (z12 ba (z12 bo (z12 I u7)))));clear du dv ba hA7 ef dw I bo ai u7;go_upto_region 10 with (go_at_call 76;refine(d' aL).mono ?_;rintro eK bR ⟨rfl,bS,bT,dy,bb,bc,bp⟩;have dz:=m' (z12 bb (z12 bc bp));clear bb bc bp);clear aL;obtain⟨hA7,ai,ba,bo,I,u7⟩:=d' dx;obtain⟨bb,bc,bp⟩:=d' dz;have aY:¬ (((Value.slice none 0 0).ownBlock=some w.heap.size\/(Value.slice (some ⟨V,0,none⟩) O O).ownBlock=some w.heap.size\/(Value.slice none 0 0).ownBlock=some w.heap.size)):=by
   rintro(h|h|h)
   ·cases h
   ·exact absurd (show V=w.heap.size by injection h) (by omega)
   ·cases h
  have cp:=(bc.rest _ (z14 ba) (by
   rintro(h|h)
   ·exact aY h
   ·exact bo.1.1 h)).trans ba
  have hA8:=ab.far2 hA7 bc (by
   rintro k hk ((h|h|h)|h)
   ·cases h
   ·injection h with h;exact(ai k hk).1 h.symm
   ·cases h
   ·exact(ai k hk).2.1 h)
  have dA:∀k,bQ k->w.heap.size<=k/\gs' bS z G Z bT (F++M) k:=fun k h=>⟨(ai k h).2.2.1,bp k (ai k h).2.2.2 (u7 k h) (by
   rintro(aM|aM|aM)
   ·cases aM
   ·exact(ai k h).1 (by injection aM with aM;exact aM.symm)
   ·cases aM)⟩
  have f8:=(d' aB) bR bb.far;have c4:=y' (i:=4) cp;have c0:=y' (i:=0) f8.1;simp at c4 c0;unfold D' at c0;have aC:=z14 cp;have bg:=z14 f8.1;have cq:=m' bb;have cr:=m' (z12 hA8 dA);clear hA7 ai ba bo I u7 bb bc bp aY cp hA8 dA f8 dx dz cV;refine ae'
   [Ep q 0,Ep q 0,Ep q 0,Ep sv 0,Ep w.heap.size 4,Ev (.int .u64 kp),fun v aD=>Qt bR.heap.size aD v L,fun v aD=>Qt bR.heap.size aD v L]
   [[1],[1054],[2055],[3056],[5],[5058],[4057,6059],[7060]] [55,56,57,58,59,60,61,14] [13,1,40,7,68] ?_ ?_ (hst:=by repeat' (first|exact V' _|exact bZ' _ _ _ _|exact trivial|apply z12))
  ·refine⟨?_,?_,?_,?_,?_,?_,?_,?_,trivial⟩;all_goals
    intro b x hb aE;have z0:=(hb.cell (p:=⟨q,0,none⟩) bg).trans c0;have z4:=(hb.cell (p:=⟨w.heap.size,4,none⟩) aC).trans c4;have bh:=((d' aB) x ((d' cq).below hb).far).2.2 kp;have cb:=hb.size;have cc:=m' bh;clear hb bh;simp only[I',List.getD_cons_zero,List.getD_cons_succ,Array.getD_eq_getD_getElem?]at aE;try simp only[and_true,Nat.reduceLT,Nat.reduceDiv,Nat.reduceMod,Nat.reduceSub,if_true,if_false,List.getD_cons_zero]at aE
    try go_simp
    try exact z11 _ _
   all_goals first
    |exact⟨rfl,z11 _ _⟩
    |(refine(d' cc).mono ?_;rintro e dZ ⟨v,rfl,cd,aF⟩;exact⟨_,rfl,aF,bz' cd cb⟩)
    |exact⟨_,rfl,z11 _ _,aE⟩
    |skip
  ·intro f2 bq cs aG;simp only[ag']at aG;have ap:=aG.2.2.2.2.2.2.2.1;obtain⟨dB,cu⟩:=exq (f2 13);rw[<-cu]at ap;simp only[O',<-cu,Nat.zero_add,Nat.reduceAdd];clear cu aG;obtain⟨cv,cw,ei⟩:∃cv cw,dB= .slice (some ⟨cv,0,none⟩) 1664 cw:=by have h:Qt bR.heap.size bq dB L:=ap;unfold Qt at h;obtain⟨g,c,e⟩:=aJ' (bz' h (z54 _)) (by have:=d' bf;omega);rw[d' bf]at e;exact⟨g,c,e⟩
   subst ei;have aH:bq.ownsRow 0 5 1 (.slice (some ⟨cv,0,none⟩) 1664 cw) L.length (bv L):=bz' ap (z54 _);have bj:=(bo' (A:=fun _ _=>True) (by rw[Z'];exact aH) (fun _ _ _ _=>trivial)).str;rw[<-(d' bY).1]at bj;have aj:=(d' cq).below cs;have f9:=(d' aB) bq aj.far;have dC:=m' (fun(x:World) (ej:Below bq.heap.size bq x)=>mU' ((d' aB) x (aj.below ej).far).2.1 (d' dW) (d' dU));have c1:=y' (i:=1) f9.1;simp at c1;unfold D' at c1;have dD:=m' (z12 aj (z12 (ab.far2 (d' cr).1 (C' (E:=fun _=>False) cs) (fun _ _ h=>h)) (d' cr).2));clear ap aH aj f9 cs cq cr c4 c0 aC bg;unfold D';go_upto_region 14 with (go_at_call 175;refine((d' dC) _ (z11 _ _)).mono ?_;rintro eL Y ⟨rb,ak,ao,rfl,bd,aN,aO⟩;have dE:=m' (z12 bd (z12 aN aO));clear bd aN aO);clear dC bj c1;obtain⟨aj,hA9,cx⟩:=d' dD;obtain⟨bd,aN,aO⟩:=d' dE;have ay:=aj.below aN;have hA10:=ab.far2 hA9 (C' (E:=fun _=>False) aN) (fun _ _ h=>h);have cy:=ab.lt2 hA9;have dF:=bd.lt;obtain⟨X,br⟩:=exq ((Y.alloc (.cells #[.pointer (some ⟨bP,0,none⟩), .pointer (some ⟨rb,0,none⟩), .bool false, .int .i64 0] 128)).alloc (.cells #[.pointer (some ⟨Y.heap.size,0,none⟩)] 115));have be:Below Y.heap.size Y X:=by rw[br];exact((z11 _ _).alloc (z13 _) _).alloc (by simp) _
   have dG:X.heap[Y.heap.size]? =some (.cells #[D' bP,D' rb, .bool false, .int .i64 0] 128 (0,0)):=(by rw[br,z25 _ _ _ (by simp)];exact z19 Y _);obtain⟨t2,dH,dI,dJ,dK⟩:=(d' dY) X Y.heap.size bP rb bQ ak ao dG (ab.far2 hA10 (C' (E:=fun _=>False) be) (fun _ _ h=>h)) (bd.far (C' (E:=fun _=>False) be) (fun _ _ h=>h)) (fun h=>by have:=cy _ h;have:=aN.size;omega) (fun h=>by have:=dF _ h;omega) (fun k h h2=>by have:=cy _ h;have:=aO _ h2;omega);have dL:∀k,t2.In k->B<=k/\gs' bS z G Z bT (F++M) k:=by
    intro k hk;rcases dK k hk with rfl|h|h
    ·exact ay.S.Yn (z13 _)
    ·exact⟨(aj.S.Yn (aO k h)).1,(aj.S.Yn (aO k h)).2⟩
    ·exact⟨z26 (d' bW).bx (cx k h).1,(cx k h).2⟩
   have dM:=m' (fun w1 v1 ek em=>ay.S.pushA (X:=X) (w1:=w1) (v1:=v1) ay.S.bnd dQ be ek t2 em dI dL);rw[dH]at dM;have en:=m' (ay.S.below be).Yh;have bt:=ay.S.wat.blk;have c0:=y' (i:=0) bt;have f0:=H' (i:=0) bt;simp at c0;have dN:=m' be;have eo:=m' bt;have eq:=m' (fun(e:G.ownBlock=some z)=>(ay.S.asu z e).2.1 (.inl rfl));have er:=m' dJ;have es:=m' ay;have et:=z14 bt;have eu:=m' br;have ev:Hid (X.cell? ⟨Y.heap.size+1,0,none⟩=some (D' Y.heap.size)):=(by show _= _;rw[br];simp[D']);clear aj hA9 cx bd aN aO ay hA10 cy dF be dG dI dJ dK dL bt dH dD dE;subst br;unfold D' at *;go_upto_region 15 with (at_builtin;(refine bV' rfl (.tmp 89) (.tmp 91) 79 rfl 115 (.pointer none) 8 underlying79 wV' rfl G (F.map fun cz=> .pointer (some ⟨cz.q,0,none⟩)) (by rw[z43];exact d' en) rfl ⟨Y.heap.size+1,0,none⟩ (.pointer (some ⟨Y.heap.size,0,none⟩)) rfl (d' ev) rfl (by rw[z43];omega) (by rw[z43];omega) ?_;intro v1 w1 cA ew cB;have cC:=m' (d' dM w1 v1 cB cA);obtain⟨g1,eM,dO⟩:=aJ' cA (by simp);rw[show(F.map (fun cz=>Value.pointer (some ⟨cz.q,0,none⟩))++[Value.pointer (some ⟨Y.heap.size,0,none⟩)]).length=F.length+1 by simp]at dO;have cD:=cv' cB (fun k hk=>(d' dN).block k hk) (d' dN).size (d' eo) (d' eq);subst dO;have ey:=y' (i:=0) cD;have f11:=H' (i:=0) cD;clear cD cA ew cB));refine G' (fun y=>∃cE,Qs B (n+4+4) bS y z cE Z bT dy (F++[t2]) M/\Far (fun k=>Us z J k\/G.ownBlock=some k) w y) ⟨_,(d' cC).1,((d' es).far.mono (fun _ _ h=> .inl h)).trans ((d' cC).2.2) (fun k hk h=>h.elim (fun e=> .inl (.inl e)) .inr)⟩ ?_;rintro y ⟨cE,bu,cF⟩;have cG:=(d' cP) y cF;have c1:=y' (i:=1) cG.1;have d4:=y' (i:=4) cG.2.1.blk;simp[ai',d' dX]at c1 d4;unfold D' at c1;have ez:=m' bu;have eA:=m' cF;clear bu cF cG cC ey f11 c0 f0 et eu;go_wp2;go_ret;have bu:=d' ez;refine⟨rfl,⟨bS,cE,Z,bT,dy,F++[t2],M,bu.mono (by omega),bu.bnd,?_,d' dT⟩,(d' eA).mono ?_⟩
   ·intro u hu;rcases z61.1 hu with h|h
    ·exact(d' dS) u h
    ·rw[z51]at h;subst h;exact d' er
   ·rintro k _ (h|h)
    ·exact⟨(d' bW).usB k h,(d' cO) k (.inl h)⟩
    ·exact⟨((d' bW).asu k h).1,(d' cO) k (.inr (.inl h))⟩
def Ag' (x:World) (q sv rp:Nat) (fl:Bool) (left:Int) (a:Mq.Sk) (r:am') (z:Nat->Value) (hk:Value) (L:List UInt8):Prop:=
 x.heap[q]? =some (.cells #[D' sv,D' rp, .bool fl, .int .i64 left] 134 (0,0))/\Jp x rp a r z hk/\
  ∀F:Int,Calls prog 30 #[D' sv, .int .u64 F] x fun e y=>∃v',e= .returned v'/\Qt x.heap.size y v' L/\Below x.heap.size x y
structure yK' (L:List UInt8) where
 At2:World->Nat->(Nat->Prop)->Prop
 lt2:∀ {x v U},At2 x v U->∀k,U k->k < x.heap.size
 far2:∀ {x y v U E},At2 x v U->Far E x y->(∀k,U k->¬E k)->At2 y v U
 open2:∀ {x} (bs:Value),Qn x bs L->Calls prog 38 #[bs] x fun r w'=>∃v U,r= .returned (.tuple #[D' v, .int .i64 0])/\At2 w' v U/\Below x.heap.size x w'/\∀k,U k->x.heap.size<=k
theorem rO' {K:cF'} (B D n:Nat) (A:Nat->Nat->Prop) (w:World) (z:Nat) (Z G J:Value) (hs:List Nat) (M F:List ax') (t:ax') (i:Nat) (bw bz bA:Int) (s:z10) (kp bB bC bD bE:Int) (bF:z10)
  (sv rp:Nat) (fl:Bool) (left:Int) (a:Mq.Sk) (r:am') (dP:Nat->Value) (hk:Value) (L:List UInt8)
  (S:Qs B n A w z Z G J hs M F) (cH:fX' D z Z G J (M++F)) (cI:∀t∈M,K.A (n+8) t) (cJ:∀t∈F,K.S (n+8) t) (dQ:F.length < 6) (bG:(M++F)[i]? =some t)
  (bU:L.length=7808) (cK:a.Qa<=100000000000000) (cL:∃dR n c,r.more= .slice dR n c) (cM:r.dead=false)
  (bV:∀ (x:World) (E:Nat->Prop),Far E w x->(∀k,t.In k->¬E k)->Ag' x t.q sv rp fl left a r dP hk L) (ab:yK' L)
  (cN:∀ {y az bH aA U ak ao},y.heap[az]? =some (.cells #[D' bH,D' aA, .bool false, .int .i64 0] 134 (0,0))->ab.At2 y bH U->Jp y aA (iw' a) (gc' a r) ak ao->¬U az->¬SkU aA ak ao az->(∀k,U k->¬SkU aA ak ao k)->
   ∃t2:ax',t2.q=az/\t2.Is y/\K.S (n+8) t2/\∀k,t2.In k->k=az\/SkU aA ak ao k\/U k) (eA:n+8<=1000000000):
  Calls prog 127 #[D' z,D' t.q,ap' bw bz bA s kp bB bC bD bE bF] w fun r y=>r= .returned (.bool true)/\Ji K B y.heap.size (n+8) y z/\Far (fun k=>B<=k/\k < D) w y:=by
 have bW:=m' S;have cO:=m' cH;have dS:=m' cI;have dT:=m' cJ;have dU:=m' cL;have aB:=m' (fun(x:World) (h:Far (Us z J) w x)=>bV x (Us z J) h (fun k hk e=>(S.us i t bG k hk).2.1 e));have cP:=m' (fun(x:World) (h:Far (fun k=>Us z J k\/G.ownBlock=some k) w x)=>bV x (fun k=>Us z J k\/G.ownBlock=some k) h (fun k hk e=>e.elim (S.us i t bG k hk).2.1 (S.us i t bG k hk).2.2.2));obtain⟨q,cQ⟩:=exq (t.q);rw[<-cQ]at aB cP ⊢;obtain⟨ad,bI⟩:=exq (⟨L.toArray⟩:z10);have cR:ad.size=7808:=by rw[bI];simp[ByteArray.size,bU]
 obtain⟨O,bX⟩:∃O:Nat,ad.size+8=O:=⟨_,rfl⟩;have aP:=m' (z12 bX cR);have eB:ad.size<=O:=by omega
 have eC:(ad.size:Int)<=O:=by omega
 have eD:¬O=0:=by omega
 have cS:=fun x=>m' (rN' ad x O bX (by omega));have cT:ad.data.toList=L:=by rw[bI]
 have bY:=m' (z12 bI cT);have bZ:=m' (Xm.start S);have dV:=S.wat.blk;have bf:=m' bU;have eE:=m' cK;have dW:=m' cM;have dX:=m' (fun y az bH aA U ak ao=> @cN y az bH aA U ak ao);clear S cH cI cJ bV cQ bI cT bG cL bX cR bU cK cM cN;unfold ap';unfold D' at *;go_enter func127,ntmps127;go_upto_region 1 with fail;refine G' (fun x=>Xm B n A w x z Z G J J hs M F/\gs' A z Z G J (M++F) w.heap.size/\x.heap[w.heap.size]? =some (.cells #[.int .i64 bw, .int .i64 bz, .int .i64 bA, .string s, .int .u64 kp, .int .i64 bB, .int .i64 bC, .int .i64 bD, .int .i64 bE, .string bF] 86 (0,0)))
  ⟨(d' bZ).below ((z11 _ _).alloc (z13 _) _),(d' bZ).Yn (z13 _),z19 w _⟩ ?_
 clear bZ dV;rintro bJ ⟨ca,cU,bK⟩;have f1:=(d' aB) bJ ca.far;have c4:=y' (i:=4) bK;have c0:=y' (i:=0) f1.1;simp at c4 c0;have aC:=z14 bK;have bg:=z14 f1.1;have bL:=m' ca;have cV:=m' cU;have cW:=m' bK;clear ca cU bK f1;refine ae'
  [Ep q 0,Ep q 0,Ep q 0,Ep sv 0,Ep w.heap.size 4,Ev (.int .u64 kp),fun v aD=>Qt bJ.heap.size aD v L,fun v aD=>Qt bJ.heap.size aD v L]
  [[1],[1020],[2021],[3022],[5],[5024],[4023,6025],[7026]] [21,22,23,24,25,26,27,8] [7,1,12,7,106] ?_ ?_ (hst:=by repeat' (first|exact V' _|exact bZ' _ _ _ _|exact trivial|apply z12))
 ·refine⟨?_,?_,?_,?_,?_,?_,?_,?_,trivial⟩;all_goals
   intro b x hb aE;have z0:=(hb.cell (p:=⟨q,0,none⟩) bg).trans c0;have z4:=(hb.cell (p:=⟨w.heap.size,4,none⟩) aC).trans c4;have bh:=((d' aB) x ((d' bL).below hb).far).2.2 kp;have cb:=hb.size;have cc:=m' bh;clear hb bh;simp only[I',List.getD_cons_zero,List.getD_cons_succ,Array.getD_eq_getD_getElem?]at aE;try simp only[and_true,Nat.reduceLT,Nat.reduceDiv,Nat.reduceMod,Nat.reduceSub,if_true,if_false,List.getD_cons_zero]at aE
   try go_simp
   try exact z11 _ _
  all_goals first
   |exact⟨rfl,z11 _ _⟩
   |(refine(d' cc).mono ?_;rintro e dY ⟨v,rfl,cd,aF⟩;exact⟨_,rfl,aF,bz' cd cb⟩)
   |exact⟨_,rfl,z11 _ _,aE⟩
   |skip
 ·intro f bM aF aG;simp only[ag']at aG;have ap:=aG.2.2.2.2.2.2.2.1;obtain⟨ce,cf⟩:=exq (f 7);rw[<-cf]at ap;simp only[O',<-cf,Nat.zero_add,Nat.reduceAdd];clear cf aG;have aH:Qt bJ.heap.size bM ce L:=ap;obtain⟨Q,aQ,cX⟩:∃Q aQ,ce= .slice (some ⟨Q,0,none⟩) 7808 aQ:=by have h:=aH;unfold Qt at h;obtain⟨g,c,e⟩:=aJ' (bz' h (z54 _)) (by have:=d' bf;omega);rw[d' bf]at e;exact⟨g,c,e⟩
  have ac:=z15 aH Q (by rw[cX];rfl);have cg:bM.ownsRow 0 5 1 ce L.length (bv L):=bz' aH (z54 _);have bi:=(d' bL).Yn ac.1;have cY:w.heap.size < Q:=z20 aC ac.1;have cZ:=(d' bL).below aF;have da:=(aF.block _ aC).trans (d' cW);subst cX;have bj:=(bo' (A:=fun _ _=>True) (by rw[Z'];exact cg) (fun _ _ _ _=>trivial)).str;rw[<-(d' bY).1]at bj;have ch:=m' (z12 cZ (z12 cg (z12 da (z12 bi cY))));clear ap aH cg ac bi cY cZ da aF bL cW c0 c4 aC bg;go_upto_region 5 with fail;refine G' (fun x=>Xm B n A w x z Z G J J hs M F/\x.ownsRow 0 5 1 (.slice (some ⟨Q,0,none⟩) 7808 aQ) L.length (bv L)/\x.heap[w.heap.size]? =some (.cells #[.int .i64 bw, .int .i64 bz, .int .i64 bA, .string s, .int .u64 kp, .int .i64 bB, .int .i64 bC, .int .i64 bD, .int .i64 bE, .string bF] 86 (0,0)))
   (by
    obtain⟨bN,aR,aS,_⟩:=d' ch;first
     |exact⟨bN,aR,aS⟩
     |(have ah:=z41 (z11 bM.heap.size bM) 1;exact⟨bN.below ah,L' aR (fun g H=>ah.block g (z15 aR g H).2),(ah.block _ (z14 aS)).trans aS⟩)) ?_
  clear bj;rintro eF ⟨aT,i3,aI⟩;have bi:=(d' ch).2.2.2;clear ch;have db:=m' (z12 aT (z12 i3 (z12 aI bi)));clear aT i3 aI bi;go_upto_region 6 with (go_at_call 77;refine(d' (cS _)).mono ?_;rintro dc dZ ⟨V,rfl,ac,aq,aJ,dd⟩;have de:=m' (z12 ac (z12 aq (z12 aJ dd)));clear ac aq aJ dd);clear cS;obtain⟨aT,i3,aI,df,bk⟩:=d' db;obtain⟨ac,aq,aJ,aU⟩:=d' de;have aV:=aT.Yn ac;have dg:=aT.below aJ;have i4:=L' i3 (fun g H=>aJ.block g (z15 i3 g H).2);have aK:=(aJ.block _ (z14 aI)).trans aI;have ea:Q < dZ.heap.size:=(z15 i4 Q rfl).2;have bl:Q≠V:=by have:=(z15 i3 Q rfl).2;omega
  have I:w.heap.size < V:=z20 (z14 aI) ac;have aL:=m' (dg.keep (.slice none 0 0) (.slice (some ⟨Q,0,none⟩) 7808 aQ) (.slice none 0 0) [] [] L (z27 _ _ _ _) i4 (z27 _ _ _ _) (fun g H=>by
   rcases H with h|h|h
   ·cases h
   ·injection h with h;subst h;exact⟨df,qg' bk⟩
   ·cases h) (by omega) (by have:=d' bf;omega) (by simp) (by simp))
  unfold D' at aL;have dh:=m' (z12 aU (z12 aK (z12 aq (z12 bl (z12 aV (z12 I bk))))));clear aT i3 aI df bk ac aq aJ aU aV dg i4 aK ea bl I db de;go_upto_region 7 with (go_at_call 76;refine(d' aL).mono ?_;rintro di eb ⟨rfl,dj,bO,ec,aa,aW,aX⟩;have dl:=m' (z12 aa (z12 aW aX));clear aa aW aX);clear aL;obtain⟨aU,aK,aq,bl,aV,I,bk⟩:=d' dh;obtain⟨aa,aW,aX⟩:=d' dl;have ci:=d' cV;have cj:¬ (((Value.slice none 0 0).ownBlock=some V\/(Value.slice (some ⟨Q,0,none⟩) 7808 aQ).ownBlock=some V\/(Value.slice none 0 0).ownBlock=some V)):=by
   rintro(h|h|h)
   ·cases h
   ·injection h with h;exact bl h
   ·cases h
  have au:=L' aU (fun g H=>aW.rest g (z15 aU g H).2 (by
   have e:V=g:=(by injection H);subst e;rintro(h|h)
   ·exact cj h
   ·exact aV.1.1 h))
  have aY:¬ (((Value.slice none 0 0).ownBlock=some w.heap.size\/(Value.slice (some ⟨Q,0,none⟩) 7808 aQ).ownBlock=some w.heap.size\/(Value.slice none 0 0).ownBlock=some w.heap.size)):=by
   rintro(h|h|h)
   ·cases h
   ·exact absurd (show Q=w.heap.size by injection h) (by omega)
   ·cases h
  have aZ:=(aW.rest _ (z14 aK) (by
   rintro(h|h)
   ·exact aY h
   ·exact ci.1.1 h)).trans aK
  have bm:=aX V aV aq cj;have bn:=aX w.heap.size ci (z14 aK) aY;have ck:=tU' au (d' aP).1 (by have:=(d' aP).2;omega);rw[(d' bY).2]at ck;have dm:=m' ck;have dn:=m' (z12 aa (z12 au (z12 aZ (z12 bm (z12 I bn)))));clear aU aK aq bl aV I bk aa aW aX ci cj au aY aZ bm bn ck dh dl;go_upto_region 8 with (go_at_call 38;refine(ab.open2 _ (d' dm)).mono ?_;rintro eG cl ⟨bP,bQ,rfl,hA2,av,ax⟩;have dq:=m' (z12 hA2 (z12 av ax));clear hA2 av ax);clear dm;obtain⟨aa,au,aZ,bm,I,bn⟩:=d' dn;obtain⟨hA2,av,ax⟩:=d' dq;have dr:=aa.below av;have cm:=L' au (fun g H=>av.block g (z15 au g H).2);have ds:=(av.block _ (z14 aZ)).trans aZ;have dt:=m' (rL' cm (d' aP).1);have ed:=(z15 au V rfl).2;have u5:=fun k (h:Us z bO k)=>aa.S.wat.Vt k h;have cn:=m' (z12 dr (z12 cm (z12 ds (z12 bm (z12 I (z12 bn (z12 hA2 (z12 (fun k (h:bQ k)=>((⟨fun e=>by have:=ax k h;omega,fun e=>by have:=ax k h;have:=u5 k e;omega,z26 aa.far.size (ax k h),aa.Yn (ax k h)⟩:k≠V/\¬Us z bO k/\w.heap.size<=k/\gs' dj z Z G bO (M++F) k))) av.size))))))));clear aa au aZ bm I bn hA2 av ax dr cm ds ed u5 dn dq;go_upto_region 9 with (go_at_call 79;refine(gf' _ _ ad cl (d' dt) (by have:=(d' aP).2;omega)).mono ?_;rintro eH eI ⟨rfl,nq,rfl⟩);refine G' (fun x=>Xm B (n+4) dj w x z Z G J bO ec M F/\x.ownsRow 0 5 1 (.slice (some ⟨V,0,none⟩) O O) O (bv (bO' ad))/\x.heap[w.heap.size]? =some (.cells #[.int .i64 bw, .int .i64 bz, .int .i64 bA, .string s, .int .u64 kp, .int .i64 bB, .int .i64 bC, .int .i64 bD, .int .i64 bE, .string bF] 86 (0,0))/\ab.At2 x bP bQ/\eb.heap.size<=x.heap.size)
   (by obtain⟨bN,aR,aS,_,_,_,dc,_,di⟩:=d' cn;have ah:=z41 (z11 cl.heap.size cl) nq;exact⟨bN.below ah,L' aR (fun g H=>ah.block g (z15 aR g H).2),(ah.block _ (z14 aS)).trans aS,ab.far2 dc (C' (E:=fun _=>False) ah) (fun _ _ h=>h),z26 di ah.size⟩) ?_
  rintro eJ ⟨du,dv,ba,hA7,ee⟩;obtain⟨ef,eg,z3,dw,I,bo,z4,ai,z5⟩:=d' cn;clear cn dt ef eg z3 z4 z5;have aL:=m' (du.keep (.slice none 0 0) (.slice (some ⟨V,0,none⟩) O O) (.slice none 0 0) [] [] (bO' ad) (z27 _ _ _ _) (rM' dv (d' aP).1) (z27 _ _ _ _) (fun g H=>by
   rcases H with h|h|h
   ·cases h
   ·injection h with h;subst h;exact⟨dw,qg' I⟩
   ·cases h) (by omega) (by rw[aN'];have:=(d' aP).2;omega) (by simp) (by simp))
  unfold D' at aL;have u7:=ab.lt2 hA7;have dx:=m' (z12 hA7 (z12 ai (z12 ba (z12 bo (z12 I u7)))));clear du dv ba hA7 ee dw I bo ai u7;go_upto_region 10 with (go_at_call 76;refine(d' aL).mono ?_;rintro eK bR ⟨rfl,bS,bT,dy,bb,bc,bp⟩;have dz:=m' (z12 bb (z12 bc bp));clear bb bc bp);clear aL;obtain⟨hA7,ai,ba,bo,I,u7⟩:=d' dx;obtain⟨bb,bc,bp⟩:=d' dz;have aY:¬ (((Value.slice none 0 0).ownBlock=some w.heap.size\/(Value.slice (some ⟨V,0,none⟩) O O).ownBlock=some w.heap.size\/(Value.slice none 0 0).ownBlock=some w.heap.size)):=by
   rintro(h|h|h)
   ·cases h
   ·exact absurd (show V=w.heap.size by injection h) (by omega)
   ·cases h
  have cp:=(bc.rest _ (z14 ba) (by
   rintro(h|h)
   ·exact aY h
   ·exact bo.1.1 h)).trans ba
  have hA8:=ab.far2 hA7 bc (by
   rintro k hk ((h|h|h)|h)
   ·cases h
   ·injection h with h;exact(ai k hk).1 h.symm
   ·cases h
   ·exact(ai k hk).2.1 h)
  have dA:∀k,bQ k->w.heap.size<=k/\gs' bS z Z G bT (M++F) k:=fun k h=>⟨(ai k h).2.2.1,bp k (ai k h).2.2.2 (u7 k h) (by
   rintro(aM|aM|aM)
   ·cases aM
   ·exact(ai k h).1 (by injection aM with aM;exact aM.symm)
   ·cases aM)⟩
  have f8:=(d' aB) bR bb.far;have c4:=y' (i:=4) cp;have c0:=y' (i:=0) f8.1;simp at c4 c0;unfold D' at c0;have aC:=z14 cp;have bg:=z14 f8.1;have cq:=m' bb;have cr:=m' (z12 hA8 dA);clear hA7 ai ba bo I u7 bb bc bp aY cp hA8 dA f8 dx dz cV;refine ae'
   [Ep q 0,Ep q 0,Ep q 0,Ep sv 0,Ep w.heap.size 4,Ev (.int .u64 kp),fun v aD=>Qt bR.heap.size aD v L,fun v aD=>Qt bR.heap.size aD v L]
   [[1],[1055],[2056],[3057],[5],[5059],[4058,6060],[7061]] [56,57,58,59,60,61,62,14] [13,1,41,7,71] ?_ ?_ (hst:=by repeat' (first|exact V' _|exact bZ' _ _ _ _|exact trivial|apply z12))
  ·refine⟨?_,?_,?_,?_,?_,?_,?_,?_,trivial⟩;all_goals
    intro b x hb aE;have z0:=(hb.cell (p:=⟨q,0,none⟩) bg).trans c0;have z4:=(hb.cell (p:=⟨w.heap.size,4,none⟩) aC).trans c4;have bh:=((d' aB) x ((d' cq).below hb).far).2.2 kp;have cb:=hb.size;have cc:=m' bh;clear hb bh;simp only[I',List.getD_cons_zero,List.getD_cons_succ,Array.getD_eq_getD_getElem?]at aE;try simp only[and_true,Nat.reduceLT,Nat.reduceDiv,Nat.reduceMod,Nat.reduceSub,if_true,if_false,List.getD_cons_zero]at aE
    try go_simp
    try exact z11 _ _
   all_goals first
    |exact⟨rfl,z11 _ _⟩
    |(refine(d' cc).mono ?_;rintro e dY ⟨v,rfl,cd,aF⟩;exact⟨_,rfl,aF,bz' cd cb⟩)
    |exact⟨_,rfl,z11 _ _,aE⟩
    |skip
  ·intro f2 bq cs aG;simp only[ag']at aG;have ap:=aG.2.2.2.2.2.2.2.1;obtain⟨dB,cu⟩:=exq (f2 13);rw[<-cu]at ap;simp only[O',<-cu,Nat.zero_add,Nat.reduceAdd];clear cu aG;obtain⟨cv,cw,eh⟩:∃cv cw,dB= .slice (some ⟨cv,0,none⟩) 7808 cw:=by have h:Qt bR.heap.size bq dB L:=ap;unfold Qt at h;obtain⟨g,c,e⟩:=aJ' (bz' h (z54 _)) (by have:=d' bf;omega);rw[d' bf]at e;exact⟨g,c,e⟩
   subst eh;have aH:bq.ownsRow 0 5 1 (.slice (some ⟨cv,0,none⟩) 7808 cw) L.length (bv L):=bz' ap (z54 _);have bj:=(bo' (A:=fun _ _=>True) (by rw[Z'];exact aH) (fun _ _ _ _=>trivial)).str;rw[<-(d' bY).1]at bj;have aj:=(d' cq).below cs;have f9:=(d' aB) bq aj.far;have dC:=m' (fun(x:World) (ei:Below bq.heap.size bq x)=>pe' ((d' aB) x (aj.below ei).far).2.1 (d' dU));have c1:=y' (i:=1) f9.1;simp at c1;unfold D' at c1;have dD:=m' (z12 aj (z12 (ab.far2 (d' cr).1 (C' (E:=fun _=>False) cs) (fun _ _ h=>h)) (d' cr).2));clear ap aH aj f9 cs cq cr c4 c0 aC bg;unfold D';go_upto_region 14 with (go_at_call 180;refine((d' dC) _ (z11 _ _)).mono ?_;rintro eL Y ⟨rb,ak,ao,rfl,bd,aN,aO⟩;have dE:=m' (z12 bd (z12 aN aO));clear bd aN aO);clear dC bj c1;obtain⟨aj,hA9,cx⟩:=d' dD;obtain⟨bd,aN,aO⟩:=d' dE;have ay:=aj.below aN;have hA10:=ab.far2 hA9 (C' (E:=fun _=>False) aN) (fun _ _ h=>h);have cy:=ab.lt2 hA9;have dF:=bd.lt;obtain⟨X,br⟩:=exq ((Y.alloc (.cells #[.pointer (some ⟨bP,0,none⟩), .pointer (some ⟨rb,0,none⟩), .bool false, .int .i64 0] 134)).alloc (.cells #[.pointer (some ⟨Y.heap.size,0,none⟩)] 117));have be:Below Y.heap.size Y X:=by rw[br];exact((z11 _ _).alloc (z13 _) _).alloc (by simp) _
   have dG:X.heap[Y.heap.size]? =some (.cells #[D' bP,D' rb, .bool false, .int .i64 0] 134 (0,0)):=(by rw[br,z25 _ _ _ (by simp)];exact z19 Y _);obtain⟨t2,dH,dI,dJ,dK⟩:=(d' dX) X Y.heap.size bP rb bQ ak ao dG (ab.far2 hA10 (C' (E:=fun _=>False) be) (fun _ _ h=>h)) (bd.far (C' (E:=fun _=>False) be) (fun _ _ h=>h)) (fun h=>by have:=cy _ h;have:=aN.size;omega) (fun h=>by have:=dF _ h;omega) (fun k h h2=>by have:=cy _ h;have:=aO _ h2;omega);have dL:∀k,t2.In k->B<=k/\gs' bS z Z G bT (M++F) k:=by
    intro k hk;rcases dK k hk with rfl|h|h
    ·exact ay.S.Yn (z13 _)
    ·exact⟨(aj.S.Yn (aO k h)).1,(aj.S.Yn (aO k h)).2⟩
    ·exact⟨z26 (d' bW).bx (cx k h).1,(cx k h).2⟩
   have dM:=m' (fun w1 v1 ej ek=>ay.S.pushS (X:=X) (w1:=w1) (v1:=v1) ay.S.bnd dQ be ej t2 ek dI dL);rw[dH]at dM;have em:=m' (ay.S.below be).Yg;have bt:=ay.S.wat.blk;have c0:=y' (i:=1) bt;have f0:=H' (i:=1) bt;simp at c0;have dN:=m' be;have en:=m' bt;have eo:=m' (fun(e:G.ownBlock=some z)=>(ay.S.ssu z e).2 (.inl rfl));have eq:=m' dJ;have er:=m' ay;have es:=z14 bt;have et:=m' br;have eu:Hid (X.cell? ⟨Y.heap.size+1,0,none⟩=some (D' Y.heap.size)):=(by show _= _;rw[br];simp[D']);clear aj hA9 cx bd aN aO ay hA10 cy dF be dG dI dJ dK dL bt dH dD dE;subst br;unfold D' at *;go_upto_region 15 with (at_builtin;(refine bV' rfl (.tmp 90) (.tmp 92) 80 rfl 117 (.pointer none) 8 underlying80 wR' rfl G (F.map fun cz=> .pointer (some ⟨cz.q,0,none⟩)) (by rw[z43];exact d' em) rfl ⟨Y.heap.size+1,0,none⟩ (.pointer (some ⟨Y.heap.size,0,none⟩)) rfl (d' eu) rfl (by rw[z43];omega) (by rw[z43];omega) ?_;intro v1 w1 cA ev cB;have cC:=m' (d' dM w1 v1 cB cA);obtain⟨g1,eM,dO⟩:=aJ' cA (by simp);rw[show(F.map (fun cz=>Value.pointer (some ⟨cz.q,0,none⟩))++[Value.pointer (some ⟨Y.heap.size,0,none⟩)]).length=F.length+1 by simp]at dO;have cD:=cv' cB (fun k hk=>(d' dN).block k hk) (d' dN).size (d' en) (d' eo);subst dO;have ew:=y' (i:=1) cD;have f11:=H' (i:=1) cD;clear cD cA ev cB));refine G' (fun y=>∃cE,Qs B (n+4+4) bS y z Z cE bT dy M (F++[t2])/\Far (fun k=>Us z J k\/G.ownBlock=some k) w y) ⟨_,(d' cC).1,((d' er).far.mono (fun _ _ h=> .inl h)).trans ((d' cC).2.2) (fun k hk h=>h.elim (fun e=> .inl (.inl e)) .inr)⟩ ?_;rintro y ⟨cE,bu,cF⟩;have cG:=(d' cP) y cF;have c1:=y' (i:=1) cG.1;have d4:=y' (i:=1) cG.2.1.blk;simp[az',d' dW]at c1 d4;unfold D' at c1;have ey:=m' bu;have ez:=m' cF;clear bu cF cG cC ew f11 c0 f0 es et;go_wp2;go_ret;have bu:=d' ey;refine⟨rfl,⟨bS,Z,cE,bT,dy,M,F++[t2],bu.mono (by omega),bu.bnd,d' dS,?_⟩,(d' ez).mono ?_⟩
   ·intro u hu;rcases z61.1 hu with h|h
    ·exact(d' dT) u h
    ·rw[z51]at h;subst h;exact d' eq
   ·rintro k _ (h|h)
    ·exact⟨(d' bW).usB k h,(d' cO) k (.inl h)⟩
    ·exact⟨((d' bW).ssu k h).1,(d' cO) k (.inr (.inr (.inl h)))⟩
variable{bN:List ax'}{aG cD:ax'}
theorem yX' (hj:bN[w]? =some aG) (F:cD.q=aG.q):(bN.set w cD).map (fun z=>D' z.q)=bN.map fun z=>D' z.q:=by
 apply z94;intro i;rw[z70,z70,z99];by_cases h:w=i
 ·subst h;obtain⟨h1,h2⟩:=z28.1 hj;simp[h1,F,h2]
 ·simp[h]
section
variable {K:cF'} {B D n m N:Nat} {A:Nat->Nat->Prop} {x y:World} {wb:Nat} {asv ssv hv:Value} {hs:List Nat} {la ls:List ax'}
theorem Qs.stepA (S:Qs B n A x wb asv ssv hv hs la ls) (G:fX' D wb asv ssv hv (la++ls)) (H:∀aG∈la,K.A n aG) (I:∀aG∈ls,K.S n aG) (hj:la[w]? =some aG) (T:lq' A x y wb asv ssv hv aG cD N) (J:N<=m) (hn:n<=m) (hK:K.A m cD):
  Ji K B y.heap.size m y wb/\Far (fun k=>B<=k/\k < D) x y:=by
 have z:=(z28.1 hj).1;obtain⟨M,O,Q,F,V⟩:=S.step (la':=la.set w cD) (ls':=ls) w aG cD (by rw[z45 z];exact hj) G T (by simp) rfl (yX' hj T.same) rfl (fun i u hu=>by
  by_cases h:i=w
  ·subst h;rw[z45 (by simpa using z),zu' z]at hu;injection hu with hu;exact .inl ⟨rfl,hu.symm⟩
  ·refine .inr ⟨h,?_⟩;by_cases h2:i < la.length
   ·rw[z45 (by simpa using h2),zv' (fun e=>h e.symm)]at hu;rw[z45 h2];exact hu
   ·rw[z29 (by simp;omega)]at hu;rw[z29 (by omega)];simpa using hu)
 refine⟨⟨M,asv,ssv,O,Q,_,ls,F.mono J,F.bnd,fun u hu=>?_,fun u hu=>K.upS hn (I u hu)⟩,V⟩;rcases wb' hu with h|h
 ·exact K.upA hn (H u h)
 ·rw[h];exact hK
theorem Qs.stepS (S:Qs B n A x wb asv ssv hv hs la ls) (F:fX' D wb asv ssv hv (la++ls)) (G:∀aG∈la,K.A n aG) (H:∀aG∈ls,K.S n aG) (hj:ls[w]? =some aG) (T:lq' A x y wb asv ssv hv aG cD N) (I:N<=m) (hn:n<=m) (hK:K.S m cD):
  Ji K B y.heap.size m y wb/\Far (fun k=>B<=k/\k < D) x y:=by
 have J:=(z28.1 hj).1;obtain⟨M,O,Q,z,V⟩:=S.step (la':=la) (ls':=ls.set w cD) (la.length+w) aG cD (by rw[z29 (by omega),vK'];exact hj) F T rfl (by simp) rfl (yX' hj T.same) (fun i u hu=>by
  by_cases h2:i < la.length
  ·rw[z45 h2]at hu;exact .inr ⟨by omega,by rw[z45 h2];exact hu⟩
  ·rw[z29 (by omega)]at hu;by_cases h:i=la.length+w
   ·subst h;rw[vK',zu' J]at hu;injection hu with hu;exact .inl ⟨rfl,hu.symm⟩
   ·rw[zv' (by omega)]at hu;exact .inr ⟨h,by rw[z29 (by omega)];exact hu⟩)
 refine⟨⟨M,asv,ssv,O,Q,la,_,z.mono I,z.bnd,fun u hu=>K.upA hn (G u hu),fun u hu=>?_⟩,V⟩;rcases wb' hu with h|h
 ·exact K.upS hn (H u h)
 ·rw[h];exact hK
end
theorem lV' (R:World->Prop) (A:Nat->Nat->Prop) (w:World) (H:Nat) (Q ad ah:Value) (hs:List Nat) (F:List ax') (q:Nat) (V i:Int) (s:z10) (kp Y Z aa ab:Int) (ac:z10)
  (G:Qj A w H Q ad ah hs) (I:w.ownsRow 0 115 1 Q F.length (F.map fun ai=>D' ai.q))
  (J:F.length < 6->∀x,Below w.heap.size w x->Calls prog 124 #[D' H,D' q,ap' 11 V i s kp Y Z aa ab ac] x fun r y=>r= .returned (.bool true)/\R y) (M:∀x,Below w.heap.size w x->R x):
  Calls prog 80 #[D' H,D' q,ap' 11 V i s kp Y Z aa ab ac] w fun r y=>r= .returned (.bool true)/\R y:=by
 have c1:=y' (i:=0) G.blk;simp at c1;obtain⟨au,cap,O,hl,_,_⟩:=bc' I;rw[z43]at O hl;have av:=z14 G.blk;have hb:∀z,Below w.heap.size w (w.alloc z):=fun z=>(z11 _ _).alloc (z13 _) z;by_cases aj:F.length < 6
 ·have ak:=fun z=>m' (J aj (w.alloc z) (hb z));have ao:¬ (6:Int)<=F.length:=by omega
  clear G I hb J M;subst O;unfold D' ap' at *;go_enter func80,ntmps80;go_upto_region 17 with fail;go_wp2_with (go_at_call 124;refine(d' (ak _)).mono ?_;rintro ax ay ⟨rfl,ap⟩);go_ret;exact⟨rfl,ap⟩
 ·have ao:(6:Int)<=F.length:=by omega
  have aq:=fun z=>m' (M (w.alloc z) (hb z));clear G I hb J M;subst O;unfold D' ap' at *;go_enter func80,ntmps80;go_wp2;go_ret;exact⟨rfl,d' (aq _)⟩
theorem na' (R:World->Prop) (A:Nat->Nat->Prop) (w:World) (H:Nat) (ad Q ah:Value) (hs:List Nat) (F:List ax') (q:Nat) (V i:Int) (s:z10) (kp Y Z aa ab:Int) (ac:z10)
  (G:Qj A w H ad Q ah hs) (I:w.ownsRow 0 117 1 Q F.length (F.map fun ai=>D' ai.q))
  (J:F.length < 6->∀x,Below w.heap.size w x->Calls prog 127 #[D' H,D' q,ap' 12 V i s kp Y Z aa ab ac] x fun r y=>r= .returned (.bool true)/\R y) (M:∀x,Below w.heap.size w x->R x):
  Calls prog 82 #[D' H,D' q,ap' 12 V i s kp Y Z aa ab ac] w fun r y=>r= .returned (.bool true)/\R y:=by
 have c1:=y' (i:=1) G.blk;simp at c1;obtain⟨au,cap,O,hl,_,_⟩:=bc' I;rw[z43]at O hl;have av:=z14 G.blk;have hb:∀z,Below w.heap.size w (w.alloc z):=fun z=>(z11 _ _).alloc (z13 _) z;by_cases aj:F.length < 6
 ·have ak:=fun z=>m' (J aj (w.alloc z) (hb z));have ao:¬ (6:Int)<=F.length:=by omega
  clear G I hb J M;subst O;unfold D' ap' at *;go_enter func82,ntmps82;go_upto_region 12 with fail;go_wp2_with (go_at_call 127;refine(d' (ak _)).mono ?_;rintro ax ay ⟨rfl,ap⟩);go_ret;exact⟨rfl,ap⟩
 ·have ao:(6:Int)<=F.length:=by omega
  have aq:=fun z=>m' (M (w.alloc z) (hb z));clear G I hb J M;subst O;unfold D' ap' at *;go_enter func82,ntmps82;go_wp2;go_ret;exact⟨rfl,d' (aq _)⟩
def CsM (m:Nat) (w:World) (v:Nat) (a:Mq.Sk) (U:Nat->Prop):Prop:=∃op ct,op<=m+1/\kd' op ct 0 w v a U/\ct<=1+(a.count+a.Qa)
variable{x:Mq.Sk}{D:Nat -> Prop}
theorem rP' (bs:Value) (l:List UInt8) (h:CsM w p a x D) (z:Jh x) (H:Qn p bs l):
  Calls prog 27 #[D' a,bs] p fun r w'=>
   ∃lv F U',r= .returned (.tuple #[lv, .int .i64 (aH' x l).1])/\Qh p.heap.size w' lv F (aH' x l).2.2 U'/\CsM w w' a (aH' x l).2.1 U'/\Far D p w'/\∀k,U' k->D k\/p.heap.size<=k:=by
 obtain⟨op,ct,h0,h1,h2⟩:=h;have g1:=z.room;have g2:=z.ep;have O:=xy' x l;refine(pb' bs l h1 (by omega) z H (.inl rfl)).mono ?_;rintro r y ⟨lv,F,U',rfl,I,G,J,M⟩;rw[Nat.zero_sub]at G;exact⟨lv,F,U',rfl,I,⟨op,_,h0,G,by omega⟩,J,M⟩
def bH' (m:Nat):cB' where
 At:=CsM m
 lt:=fun⟨_,_,_,h,_⟩=>yH' h
 far:=fun⟨op,ct,h0,h,z⟩ hF F=>⟨op,ct,h0,xx' h hF F,z⟩
 Qx:=rP'
 Qa:=fun⟨_,_,_,h,_⟩=>(yI' h).mono fun _ _ ⟨e,G⟩=>⟨e,by rw[G];exact z11 _ _⟩
 log:=fun i ⟨_,_,_,h,_⟩ _=>Au' i h
 opened:=fun bs H=>(rH' bs H).mono fun _ _ ⟨v,U,e,h,hb,hn⟩=>⟨v,U,e,⟨1,1,by omega,h,by omega⟩,hb,hn⟩
def KO:cF' where
 A n t:=∃ (F:Nat) (z:Vk),F<=n/\z.a.Qa<=n+1/\(∃G l c,z.r.ex= .slice G l c)/\t=Vk.Vh by'.C F z
 S n t:=∃ (m:Nat) (z:jZ'),m<=n/\(∃G l c,z.r.more= .slice G l c)/\t=jZ'.Vh (bH' m) z
 upA:=fun h ⟨F,z,h1,h2,h3,h4⟩=>⟨F,z,z26 h1 h,by omega,h3,h4⟩
 upS:=fun h ⟨m,z,h1,h2,h3⟩=>⟨m,z,z26 h1 h,h2,h3⟩
def nN':iW' KO where
 At0 x v U:=by'.C.At x v ag0 U
 lt0:=by'.C.lt
 below0:=fun h hb=>by'.C.far h (C' (E:=fun _=>False) hb) (fun _ _ h=>h)
 open0:=fun bs z=>by'.C.opened bs z
 mk0:=by
  intro y q sv rp U n F G H I J M;refine⟨Vk.Vh by'.C 0 ⟨q,sv,rp,ag0,rr0,lO',lO',U,0⟩,rfl,⟨F,G,vb' _ rp H,rfl,qN' 0,J,?_,?_⟩,⟨0,_,z54 _,by show 1<=n+1;omega,⟨none,0,0,rfl⟩,rfl⟩,?_⟩
  ·rintro(e|⟨_,_,e|e⟩)
   ·exact I e
   ·cases e
   ·cases e
  ·rintro k hk (e|⟨_,_,e|e⟩)
   ·have e:k=rp:=e;rw[e]at hk;exact M hk
   ·cases e
   ·cases e
  ·rintro k (e|(e|⟨_,_,e|e⟩)|e)
   ·exact .inl e
   ·exact .inr (.inl e)
   ·cases e
   ·cases e
   ·exact .inr (.inr e)
def nO':iX' KO where
 At0 x v U:=(bH' 0).At x v sk0 U
 lt0:=(bH' 0).lt
 below0:=fun h hb=>(bH' 0).far h (C' (E:=fun _=>False) hb) (fun _ _ h=>h)
 open0:=fun bs z=>(bH' 0).opened bs z
 mk0:=by
  intro y q sv rp U n F G H I J M;refine⟨jZ'.Vh (bH' 0) ⟨q,sv,rp,sk0,r0,lO', .slice none 0 0,U,0⟩,rfl,⟨F,G,wS' _ rp H,rfl,sm',J,?_,?_⟩,⟨0,_,z54 _,⟨none,0,0,rfl⟩,rfl⟩,?_⟩
  ·rintro(e|⟨_,_,e⟩|e)
   ·exact I e
   ·cases e
   ·cases e
  ·rintro k hk (e|⟨_,_,e⟩|e)
   ·have e:k=rp:=e;rw[e]at hk;exact M hk
   ·cases e
   ·cases e
  ·rintro k (e|(e|⟨_,_,e⟩|e)|e)
   ·exact .inl e
   ·exact .inr (.inl e)
   ·cases e
   ·cases e
   ·exact .inr (.inr e)
theorem pf' (a:Mq.Ag) (i:Int) (s:z10):(bg' a i s).Qa=a.Qa:=by
 unfold bg';split <;> rfl
theorem ts' (C:aW' w) (A:Nat->Nat->Prop) (F:World) (G:Nat) (J M H:Value) (hs:List Nat) (O Q i:Int) (s:z10) (kp V Y Z aa:Int) (ab:z10) (q sv rp:Nat) (z:Mq.Ag) (r:ah') (I hk:Nat->Value) (U:Nat->Prop) (left:Int)
  (ac:Qj A F G J M H hs) (P:Jf C a F q sv rp z r I hk U left) (aj:O=4\/O=5\/O=6\/O=7) (ai:a < w) (ak:a+1<=2147483647) (ad:∀b o,A b o->b < F.heap.size/\¬Us G H b/\¬ac' q rp I hk U b) (ah:∀k,ac' q rp I hk U k->¬Us G H k) (ao:s.size<=140737488353980) (ap:hs.length+52<=17592186044416):
  Calls prog 80 #[D' G,D' q,ap' O Q i s kp V Y Z aa ab] F fun x w'=>x= .returned (.bool true)/\∃a',a'.Qa=z.Qa/\Xg C (a+1) A F w' G q sv rp J M H a' r I hk U (hs.length+52):=by
 rcases aj with rfl|rfl|rfl|rfl
 ·refine(kR' C A F G J M H hs Q i s kp V Y Z aa ab q sv rp z r I hk U left ac P ai ad ah).mono ?_;rintro x w' ⟨rfl,T⟩;exact⟨rfl,_,pf' z i s,T.up (z13 _) (by omega)⟩
 ·refine(oq' C A F G J M H hs Q i s kp V Y Z aa ab q sv rp z r I hk U left ac P ai ak ad ah ap).mono ?_;rintro x w' ⟨rfl,T⟩;exact⟨rfl,_,tS' z,T⟩
 ·refine(qF' C A F G J M H hs Q i s kp V Y Z aa ab q sv rp z r I hk U left ac P ai (by omega) ad ah ao (by omega)).mono ?_;rintro x w' ⟨rfl,T⟩;exact⟨rfl,_,nJ' z _,T.up (by omega) (by omega)⟩
 ·refine(my' C A F G J M H hs Q i s kp V Y Z aa ab q sv rp z r I hk U left ac P ad ah (by omega)).mono ?_;rintro x w' ⟨rfl,T⟩;exact⟨rfl,z,rfl,T.up (by omega) (by omega)⟩
variable{q r:Nat}{u:World}{c f G:Value}{bU:Vk}{y:Mq.Ag}
theorem Xg.turned2 {n:Nat} {C:aW' w} {A:Nat->Nat->Prop} (T:Xg C a A p u r bU.q bU.sv bU.rp c f G y bU.r bU.lv bU.hk bU.U q):
  ∃z:Vk,z.a=y/\z.r=bU.r/\lq' A p u r c f G (bU.Vh C n) (z.Vh C a) q:=by
 obtain⟨F,H,I,J,U',M,O,Q,V,Y,u3,Z,aa⟩:=T.all;exact⟨⟨bU.q,bU.sv,bU.rp,y,bU.r,I,J,U',M⟩,rfl,rfl,⟨⟨F,H,O,Q,V,Y,u3,Z,aa⟩,rfl⟩⟩
variable{aW:cB'}{bV:jZ'}
theorem Zq.turned2 {A:Nat->Nat->Prop} (T:Zq aW A p u w bV.q bV.sv bV.rp c f G x bV.r bV.lv bV.hk bV.U a):
  ∃z:jZ',z.r=bV.r/\lq' A p u w c f G (bV.Vh aW) (z.Vh aW) a:=by
 obtain⟨F,H,I,J,U',M,O,Q,V,Y,u3,Z,aa⟩:=T.all;exact⟨⟨bV.q,bV.sv,bV.rp,x,bV.r,I,J,U',M⟩,rfl,⟨⟨F,H,O,Q,V,Y,u3,Z,aa⟩,rfl⟩⟩
section
variable {B D n:Nat} {A:Nat->Nat->Prop} {x:World} {wb:Nat} {asv ssv hv:Value} {hs:List Nat} {la ls:List ax'}
theorem yL' (S:Qs B n A x wb asv ssv hv hs la ls) (Z:fX' D wb asv ssv hv (la++ls)) (H:∀aG∈la,KO.A n aG) (aa:∀aG∈ls,KO.S n aG) (hj:la[w]? =some aG) (F I i:Int) (s:z10) (kp J M O Q:Int) (V:z10)
  (ab:F=4\/F=5\/F=6\/F=7) (ac:s.size<=140737488353980) (ap:n+60<=1000000000):
  Calls prog 80 #[D' wb,D' aG.q,ap' F I i s kp J M O Q V] x fun r y=>r= .returned (.bool true)/\Ji KO B y.heap.size (n+60) y wb/\Far (fun k=>B<=k/\k < D) x y:=by
 have ad:=(z28.1 hj).1;have G:(la++ls)[w]? =some aG:=by rw[z45 ad];exact hj
 have P:=S.each w aG G;obtain⟨Y,z,h1,h2,h3,rfl⟩:=H aG (z72 hj);have aq:=S.hn;refine(ts' by'.C A x wb asv ssv hv hs F I i s kp J M O Q V z.q z.sv z.rp z.a z.r z.lv z.hk z.U z.left S.wat P ab (by omega) (by omega) (fun b o h=>⟨(S.a2 b o h).1,(S.a2 b o h).2.1,(S.a2 b o h).2.2.2.2 w _ G⟩) (fun k h=>(S.us w _ G k h).2.1) ac (by omega)).mono ?_;rintro r y ⟨rfl,a',ah,T⟩;obtain⟨ai,aj,ak,ao⟩:=T.turned2 (n:=Y);exact⟨rfl,S.stepA Z H aa hj ao (by omega) (by omega) ⟨Y+1,ai,by omega,by rw[aj,ah];omega,by rw[ak];exact h3,rfl⟩⟩
theorem yM' (S:Qs B n A x wb asv ssv hv hs la ls) (ab:fX' D wb asv ssv hv (la++ls)) (ac:∀aG∈la,KO.A n aG) (V:∀aG∈ls,KO.S n aG) (hj:ls[w]? =some aG) (F G i:Int) (s:z10) (kp H I J M:Int) (O:z10)
  (ad:F=9\/F=10) (ah:s.size<=140737488353980) (ao:n+60<=1000000000):
  Calls prog 82 #[D' wb,D' aG.q,ap' F G i s kp H I J M O] x fun r y=>r= .returned (.bool true)/\Ji KO B y.heap.size (n+60) y wb/\Far (fun k=>B<=k/\k < D) x y:=by
 have Q:(la++ls)[la.length+w]? =some aG:=by rw[z29 (by omega),vK'];exact hj
 have P:=S.each _ aG Q;obtain⟨m,z,h1,h3,rfl⟩:=V aG (z72 hj);have ap:=S.hn;have Y:∀b o,A b o->b < x.heap.size/\¬Us wb hv b/\¬aM' z.q z.rp z.lv z.hk z.U b:=fun b o h=>⟨(S.a2 b o h).1,(S.a2 b o h).2.1,(S.a2 b o h).2.2.2.2 _ _ Q⟩;have Z:∀k,aM' z.q z.rp z.lv z.hk z.U k->¬Us wb hv k:=fun k h=>(S.us _ _ Q k h).2.1;have aa:∀ {y:World} {a':Mq.Sk},Zq (bH' m) A x y wb z.q z.sv z.rp asv ssv hv a' z.r z.lv z.hk z.U (hs.length+12)->Ji KO B y.heap.size (n+60) y wb/\Far (fun k=>B<=k/\k < D) x y:=by intro y a' T;obtain⟨ai,aj,ak⟩:=T.turned2;exact S.stepS ab ac V hj ak (by omega) (by omega) ⟨m,ai,by omega,by rw[aj];exact h3,rfl⟩
 rcases ad with rfl|rfl
 ·refine(qb' (bH' m) A x wb asv ssv hv hs G i s kp H I J M O z.q z.sv z.rp z.a z.r z.lv z.hk z.U z.left S.wat P Y Z ah (by omega)).mono ?_;rintro r y ⟨rfl,T⟩;exact⟨rfl,aa T⟩
 ·refine(sA' (bH' m) A x wb asv ssv hv hs G i s kp H I J M O z.q z.sv z.rp z.a z.r z.lv z.hk z.U z.left S.wat P Y Z (by omega)).mono ?_;rintro r y ⟨rfl,T⟩;exact⟨rfl,aa T⟩
end
def nP' (L:List UInt8) (w:World) (v:Nat) (U:Nat->Prop):Prop:=
 ∃p g tk z F free sh st c,w.heap[v]? =some (.cells #[D' p] 90 (0,0))/\Je w p g tk z F free sh st c/\st.dk.bytes=L/\∀k,(k=v\/PaU p c k)->U k
theorem nP'.far {L:List UInt8} {w x:World} {v:Nat} {U E:Nat->Prop} (h:nP' L w v U) (z:Far E w x) (F:∀k,U k->¬E k):nP' L x v U:=by
 obtain⟨p,g,tk,G,H,free,sh,st,c,h1,h2,h3,h4⟩:=h;exact⟨p,g,tk,G,H,free,sh,st,c,z.blk h1 (F v (h4 v (.inl rfl))),h2.far z (fun k hk=>F k (h4 k (.inr hk))),h3,h4⟩
variable{m:List UInt8}
theorem nP'.call (h:nP' m p w D) (z:Int):
  Calls prog 29 #[D' w, .int .u64 z] p fun r y=>∃v',r= .returned v'/\Qt p.heap.size y v' m/\Below p.heap.size p y:=by
 obtain⟨F,g,tk,G,H,free,sh,st,c,h1,h2,rfl,_⟩:=h;exact nG' h1 h2 z
theorem xz' (h:ir' w a q p r y D):∃ (L:List UInt8) (c2 hd:Nat) (free:List Nat) (z:Nat->List Nat),Mq.Xp L w c2 hd y free z/\Mq.Xn y free z/\nP' L p r D:=by
 obtain⟨F,g,free,sh,z,st,c,hb,G,hs,H,rfl⟩:=h;exact⟨st.dk.bytes,st.count,st.head,free,z,by rw[<-hs.op];exact hs.dk,H.places,F,g,_,_,_,free,sh,st,c,hb,G,rfl,fun _ h=>h⟩
def nQ' (L:List UInt8) (w:World) (v:Nat) (U:Nat->Prop):Prop:=
 ∃p e Qc sh st c,w.heap[v]? =some (.cells #[D' p] 93 (0,0))/\Jt w p e Qc sh st c/\st.dk.bytes=L/\∀k,(k=v\/PkU p c k)->U k
theorem nQ'.far {L:List UInt8} {w x:World} {v:Nat} {U E:Nat->Prop} (h:nQ' L w v U) (z:Far E w x) (F:∀k,U k->¬E k):nQ' L x v U:=by
 obtain⟨p,e,Qc,sh,st,c,h1,h2,h3,h4⟩:=h;exact⟨p,e,Qc,sh,st,c,z.blk h1 (F v (h4 v (.inl rfl))),h2.far z (fun k hk=>F k (h4 k (.inr hk))),h3,h4⟩
theorem nQ'.call (h:nQ' m p w D) (z:Int):
  Calls prog 30 #[D' w, .int .u64 z] p fun r y=>∃v',r= .returned v'/\Qt p.heap.size y v' m/\Below p.heap.size p y:=by
 obtain⟨F,e,Qc,sh,st,c,h1,h2,rfl,_⟩:=h;exact vi' h1 h2 z
theorem xA' (h:kd' w a q p r x D):∃ (L:List UInt8) (c2 hd:Nat),Mq.Zu L w c2 hd x.Qa x.Qc/\nQ' L p r D:=by
 obtain⟨z,sh,st,c,hb,F,hs,G,H,rfl⟩:=h;exact⟨st.dk.bytes,st.count,st.head,by rw[<-hs.op];exact hs.dk,z,_,_,sh,st,c,hb,F,rfl,fun _ h=>h⟩
theorem rQ' (z:Jn w y) (G:y.Qa+1<=2147483647):Jn w (Mq.Yj y):=by
 refine⟨G,z54 _,fun s hs=>?_,fun s hs x F=>?_⟩
 ·have:=z.sum s hs;simp only[Mq.Yj,if_pos hs,List.length_map];exact this
 ·simp only[Mq.Yj,if_pos hs,List.mem_map]at F;obtain⟨H,I,rfl⟩:=F;exact⟨(z.bod s hs H I).1,z54 _⟩
theorem rR' (z:Jh x):Jh (iw' x):=⟨fun h F=>by simp[iw']at F,by simp[iw'],z.room,z.ep⟩
section
variable {B D n:Nat} {A:Nat->Nat->Prop} {x:World} {wb:Nat} {asv ssv hv:Value} {hs:List Nat} {la ls:List ax'}
theorem xB' (S:Qs B n A x wb asv ssv hv hs la ls) (ao:fX' D wb asv ssv hv (la++ls)) (H:∀aG∈la,KO.A n aG) (ap:∀aG∈ls,KO.S n aG) (hj:la[w]? =some aG) (I J i:Int) (s:z10) (kp M O Q V:Int) (Y:z10)
  (aq:la.length < 6) (aJ:n+60<=1000000000):
  Calls prog 124 #[D' wb,D' aG.q,ap' I J i s kp M O Q V Y] x fun r y=>r= .returned (.bool true)/\Ji KO B y.heap.size (n+8) y wb/\Far (fun k=>B<=k/\k < D) x y:=by
 have au:=(z28.1 hj).1;have Z:(la++ls)[w]? =some aG:=by rw[z45 au];exact hj
 have P:=S.each w aG Z;obtain⟨F,z,h1,h2,h3,rfl⟩:=H aG (z72 hj);have P:Jf by'.C F x z.q z.sv z.rp z.a z.r z.lv z.hk z.U z.left:=P;have av:ir' z.a.Qa (1+gt' z.a) 0 x z.sv z.a z.U:=P.Xb;obtain⟨L,c2,hd,free,aK,aa,ax,ay⟩:=xz' av;have az:∀i,i < 3->(z.a.fl i).base+(z.a.fl i).kept.length<=1073741824:=fun i hi=>by have:=P.Vw.sum i hi;omega
 have aA:z.a.Qa<=1073741824:=by omega
 refine mZ' (K:=KO) B D n A x wb asv ssv hv hs la ls _ w I J i s kp M O Q V Y z.sv z.rp false z.left z.a z.r z.lv z.hk L S ao (fun aG G=>KO.upA (by omega) (H aG G)) (fun aG G=>KO.upS (by omega) (ap aG G)) aq Z aa.ok.len (by omega) h3 P.dead
  (fun y E hF ab=>?_) ⟨fun y v U=>by'.C.At y v (Mq.Yj z.a) U,by'.C.lt,by'.C.far,fun bs aB=>by'.again bs L aB aa ax aA az⟩ ?_ (by omega)
 ·have ac:=P.far hF ab;have aC:=ay.far hF (fun k hk=>ab k (.inr (.inr hk)));exact⟨ac.blk,ac.ref,fun aD=>aC.call aD⟩
 ·intro y ad ah ai U aj ak aE aF aH h4 h5 aI;exact⟨Vk.Vh by'.C F ⟨ad,ah,ai,Mq.Yj z.a,{z.r with dead:=false},aj,ak,U,0⟩,rfl,⟨aE,aF,aH,rfl,rQ' P.Vw (by omega),h4,h5,aI⟩,⟨F,⟨ad,ah,ai,Mq.Yj z.a,{z.r with dead:=false},aj,ak,U,0⟩,by omega,by show z.a.Qa+1<=n+8+1;omega,h3,rfl⟩,fun k h=>h⟩
theorem xC' (S:Qs B n A x wb asv ssv hv hs la ls) (ak:fX' D wb asv ssv hv (la++ls)) (ao:∀aG∈la,KO.A n aG) (G:∀aG∈ls,KO.S n aG) (hj:ls[w]? =some aG) (H I i:Int) (s:z10) (kp J M O Q:Int) (V:z10)
  (ap:ls.length < 6) (aD:n+60<=1000000000):
  Calls prog 127 #[D' wb,D' aG.q,ap' H I i s kp J M O Q V] x fun r y=>r= .returned (.bool true)/\Ji KO B y.heap.size (n+8) y wb/\Far (fun k=>B<=k/\k < D) x y:=by
 have Y:(la++ls)[la.length+w]? =some aG:=by rw[z29 (by omega),vK'];exact hj
 have P:=S.each _ aG Y;obtain⟨m,z,h1,h3,rfl⟩:=G aG (z72 hj);have P:Zh (bH' m) x z.q z.sv z.rp z.a z.r z.lv z.hk z.U z.left:=P;obtain⟨op,ct,aE,aq,_⟩:CsM m x z.sv z.a z.U:=P.Xb;obtain⟨L,c2,hd,Z,au⟩:=xA' aq;refine rO' (K:=KO) B D n A x wb asv ssv hv hs la ls _ (la.length+w) H I i s kp J M O Q V z.sv z.rp false z.left z.a z.r z.lv z.hk L S ak (fun aG F=>KO.upA (by omega) (ao aG F)) (fun aG F=>KO.upS (by omega) (G aG F)) ap Y Z.ok.len (by have:=P.Vw.ep;omega) h3 P.dead
  (fun y E hF aa=>?_) ⟨fun y v U=>(bH' (m+1)).At y v (iw' z.a) U,(bH' (m+1)).lt,(bH' (m+1)).far,fun bs av=>(Ae' bs L av Z (by omega)).mono fun _ _ ⟨v,U,e,h,hb,hn⟩=>⟨v,U,e,⟨op+1,1,by omega,h,by omega⟩,hb,hn⟩⟩ ?_ (by omega)
 ·have ab:=P.far hF aa;have ax:=au.far hF (fun k hk=>aa k (.inr (.inr hk)));exact⟨ab.blk,ab.ref,fun ay=>ax.call ay⟩
 ·intro y ac ad ah U ai aj az aA aB h4 h5 aC;exact⟨jZ'.Vh (bH' (m+1)) ⟨ac,ad,ah,iw' z.a,gc' z.a z.r,ai,aj,U,0⟩,rfl,⟨az,aA,aB,rfl,rR' P.Vw,h4,h5,aC⟩,⟨m+1,⟨ac,ad,ah,iw' z.a,gc' z.a z.r,ai,aj,U,0⟩,by omega,h3,rfl⟩,fun k h=>h⟩
theorem yN' (S:Ji KO B D n x wb) (z F i:Int) (s:z10) (kp G H I J:Int) (M:z10) (aC:3<=z/\z<=12) (av: -9223372036854775808<=F/\F<=9223372036854775807) (ax:s.size<=140737488353980) (ap:n+60<=1000000000):
  Calls prog 48 #[D' wb,ap' z F i s kp G H I J M] x fun r y=>r= .returned (.bool true)/\Ji KO B y.heap.size (n+60) y wb/\Far (fun k=>B<=k/\k < D) x y:=by
 have ay:∀ {y:World} {m:Nat},m<=n+60->Ji KO B y.heap.size m y wb/\Far (fun k=>B<=k/\k < D) x y->Ji KO B y.heap.size (n+60) y wb/\Far (fun k=>B<=k/\k < D) x y:=fun az h=>⟨h.1.mono az,h.2⟩;obtain rfl|rfl|hA4|aD:z=3\/z=8\/(z=4\/z=5\/z=6\/z=7\/z=11)\/(z=9\/z=10\/z=12):=by omega
 ·refine(qP' nN' B D n x wb F i s kp G H I J M S).mono ?_;rintro r y ⟨rfl,h⟩;exact⟨rfl,ay (by omega) h⟩
 ·refine(qQ' nO' B D n x wb F i s kp G H I J M S).mono ?_;rintro r y ⟨rfl,h⟩;exact⟨rfl,ay (by omega) h⟩
 ·obtain⟨A,Q,V,Y,hs,aa,ab,S,ai,ac,ad⟩:=S;have aj:∀ {y O:World},Below x.heap.size x y->Far (fun k=>B<=k/\k < D) y O->Far (fun k=>B<=k/\k < D) x O:=fun hb hF=>(C' (E:=fun k=>B<=k/\k < D) hb).trans hF (fun _ _ h=>h);have ak:∀y,Below x.heap.size x y->Ji KO B y.heap.size (n+60) y wb/\Far (fun k=>B<=k/\k < D) x y:=fun y hb=>
   ⟨Ji.mono (K:=KO) ⟨A,Q,V,Y,hs,aa,ab,S.below hb,(S.below hb).bnd,ac,ad⟩ (by omega),C' hb⟩
  by_cases h0:aa.length=0
  ·have aq:aa=[]:=z68 h0;have ao:=S.Yh;rw[aq]at ao;exact iV' _ A x wb Q V Y hs z F i s kp G H I J M S.wat ao (by omega) ak
  ·have hj:=ij' F (n:=aa.length) (by omega);have ah:=z18 hj;refine qO' _ A x wb Q V Y hs aa z F i s kp G H I J M S.wat S.Yh S.sixA av (by omega) _ ah (by omega) (fun y hb=>?_);by_cases aA:z=11
   ·subst aA;refine lV' _ A y wb Q V Y hs aa _ F i s kp G H I J M (S.below hb).wat (S.below hb).Yh (fun au O Z=>?_) (fun O Z=>ak O (hb.trans (Z.mono hb.size)));refine(xB' ((S.below hb).below Z) ai ac ad ah 11 F i s kp G H I J M au ap).mono ?_;rintro r u ⟨rfl,h1,h2⟩;exact⟨rfl,h1.mono (by omega),aj (hb.trans (Z.mono hb.size)) h2⟩
   ·refine(yL' (S.below hb) ai ac ad ah z F i s kp G H I J M (by omega) ax ap).mono ?_;rintro r u ⟨rfl,h1,h2⟩;exact⟨rfl,h1,aj hb h2⟩
 ·obtain⟨A,Q,V,Y,hs,aa,ab,S,ai,ac,ad⟩:=S;have aj:∀ {y O:World},Below x.heap.size x y->Far (fun k=>B<=k/\k < D) y O->Far (fun k=>B<=k/\k < D) x O:=fun hb hF=>(C' (E:=fun k=>B<=k/\k < D) hb).trans hF (fun _ _ h=>h);have ak:∀y,Below x.heap.size x y->Ji KO B y.heap.size (n+60) y wb/\Far (fun k=>B<=k/\k < D) x y:=fun y hb=>
   ⟨Ji.mono (K:=KO) ⟨A,Q,V,Y,hs,aa,ab,S.below hb,(S.below hb).bnd,ac,ad⟩ (by omega),C' hb⟩
  by_cases h0:ab.length=0
  ·have aq:ab=[]:=z68 h0;have ao:=S.Yg;rw[aq]at ao;exact lx' _ A x wb Q V Y hs z F i s kp G H I J M S.wat ao (by omega) ak
  ·have hj:=ij' F (n:=ab.length) (by omega);have ah:=z18 hj;refine vc' _ A x wb Q V Y hs ab z F i s kp G H I J M S.wat S.Yg S.sixS av (by omega) _ ah (by omega) (fun y hb=>?_);by_cases aB:z=12
   ·subst aB;refine na' _ A y wb Q V Y hs ab _ F i s kp G H I J M (S.below hb).wat (S.below hb).Yg (fun au O Z=>?_) (fun O Z=>ak O (hb.trans (Z.mono hb.size)));refine(xC' ((S.below hb).below Z) ai ac ad ah 12 F i s kp G H I J M au ap).mono ?_;rintro r u ⟨rfl,h1,h2⟩;exact⟨rfl,h1.mono (by omega),aj (hb.trans (Z.mono hb.size)) h2⟩
   ·refine(yM' (S.below hb) ai ac ad ah z F i s kp G H I J M (by omega) ax ap).mono ?_;rintro r u ⟨rfl,h1,h2⟩;exact⟨rfl,h1,aj hb h2⟩
end
open Go.ChangeShapes Go.WideShapes Go.ChangeAt
theorem Tryz.own:ownKnob prog.godebug=none:=by kernel_rfl
theorem Tryz.laidOut:laidOutB prog=true:=by kernel_rfl
theorem tV':prog.cellsOf 86=10:=by kernel_rfl
theorem yO':prog.cellsOf 41=5:=by kernel_rfl
theorem rS':prog.cellsOf 3=1:=by kernel_rfl
theorem xD':prog.cellsOf 27=1:=by kernel_rfl
theorem strCells:prog.cellsOf 9=1:=by kernel_rfl
theorem nR' (b off k:Nat):(⟨b,off,none⟩:Addr).add k=⟨b,off+k,none⟩:=by
 unfold Addr.add;split
 ·rename_i h;rw[h];rfl
 ·rfl
theorem lW' {z:Type} {d:DataW z}:∀ {l:List (DataW z)},d∈l->Rows.uptoBulk d<=Rows.uptoBulkAll l
 |[],h=>by cases h
 |x::r,h=>by
  rw[Rows.uptoBulkAll];rw[vw']at h;rcases h with rfl|h
  ·omega
  ·have:=lW' h;omega
theorem xE' {z:Type} (d:DataW z):1<=Rows.uptoBulk d:=by
 cases d with
 |lit x=>cases x <;> simp[Rows.uptoBulk]
 | _=>simp[Rows.uptoBulk]
theorem rT' {z:Type}:∀ (l:List (DataW z)),l.length<=Rows.uptoBulkAll l
 |[]=>by simp
 |x::r=>by rw[Rows.uptoBulkAll,z56];have:=rT' r;have:=xE' x;omega
def tW' (z F:Int) (s b:z10):Prop:=(-9223372036854775808<=z/\z<=9223372036854775807)/\(-9223372036854775808<=F/\F<=9223372036854775807)/\s.size<=1048576/\b.size<=1048576
def OpJ (w:World) (F o:Nat):Prop:=
 ∃ (G z i:Int) (s:z10) (kp k e st q:Int) (b:z10),tW' z i s b/\
  ∀j,j < 10->w.cell? ⟨F,o+j,none⟩= #[.int .i64 G, .int .i64 z, .int .i64 i, .string s, .int .u64 kp, .int .i64 k, .int .i64 e, .int .i64 st, .int .i64 q, .string b][j]?
theorem gX' (w:World):Qs w.heap.size 0 (fun _ _=>False) (w.alloc (.cells #[.slice none 0 0, .slice none 0 0, .slice none 0 0] 83)) w.heap.size (.slice none 0 0) (.slice none 0 0) (.slice none 0 0) [] [] []:=
 ⟨by simp,⟨z19 w _,z27 _ _ _ _,fun p z=>absurd z tr'⟩,z27 _ _ _ _,z27 _ _ _ _,by simp,by simp,fun i u h=>by(simp at h),fun i j u v h=>by(simp at h),fun i u h=>by(simp at h),fun k h=>by(cases h),fun k h=>by(cases h),fun k h=>h.elim (fun h=>by omega) (fun h=>by cases h),by simp,fun b o h=>h.elim⟩
theorem xF' (K:cF') (w:World):Ji K w.heap.size (w.heap.size+1) 0 (w.alloc (.cells #[.slice none 0 0, .slice none 0 0, .slice none 0 0] 83)) w.heap.size:=
 ⟨_,_,_,_,_,[],[],gX' w,fun k h=>by
  rcases h with (h|h)|h|h|⟨i,u,h,_⟩
  ·omega
  ·cases h
  ·cases h
  ·cases h
  ·simp at h,fun t h=>absurd h tr',fun t h=>absurd h tr'⟩
def pg' (K:cF') (f0 t0:Int):Prop:=∀ (B D n:Nat) (x:World) (z:Nat),Ji K B D n x z->∀ (F G i:Int) (s:z10) (kp I J M O:Int) (H:z10),f0<=F/\F<=t0->tW' G i s H->n+60<=1000000000->
 Calls prog 48 #[D' z,ap' F G i s kp I J M O H] x fun r y=>r= .returned (.bool true)/\Ji K B y.heap.size (n+60) y z/\Far (fun k=>B<=k/\k < D) x y
variable{M X:Int}
theorem vq' {K:cF'} (hst:pg' K M X) (aa:Option Addr) (len cap:Nat) (w:World) (bb:60 * len+60<=1000000000) (h:0 < len->∃z off,aa=some ⟨z,off,none⟩/\z < w.heap.size/\∀i,i < len->OpJ w z (off+i * 10)):
  Calls prog 15 #[.slice aa len cap, .int .i64 M, .int .i64 X, .int .i64 M, .int .i64 X] w fun r w'=>r= .returned (.int .i64 (-1))/\Below w.heap.size w w':=by
 have aU:=m' hst;clear hst;have ab:=m' h;have ac:=m' (xF' K w);clear h;have n1:len<=9223372036854775807:=by omega
 go_enter func15,ntmps15;go_wp2;go_loopw[12] (fun i wr=>∃k n:Nat,k<=len/\i= .int .i64 k/\n<=60 * k/\Ji K w.heap.size wr.heap.size n wr w.heap.size/\Below w.heap.size w wr) (fun i _=>len - (intOf i).toNat)
 case atStart=>exact⟨0,0,by omega,rfl,by omega,(d' ac).size,(z11 _ _).alloc (z13 _) _⟩
 case round=>
  obtain⟨k,n,hk,rfl,hn,S,hb⟩:=hrel;by_cases aV:k < len
  ·obtain⟨z,off,rfl,H,ad⟩:=(d' ab) (by omega);obtain⟨O,ah,ai,s,kp,aj,ak,ao,ap,aq,au,I⟩:=ad k aV;have c0:=(hb.cell (p:=⟨z,off+k * 10+0,none⟩) H).trans (I 0 (by omega));have c1:=(hb.cell (p:=⟨z,off+k * 10+1,none⟩) H).trans (I 1 (by omega));have c2:=(hb.cell (p:=⟨z,off+k * 10+2,none⟩) H).trans (I 2 (by omega));have c3:=(hb.cell (p:=⟨z,off+k * 10+3,none⟩) H).trans (I 3 (by omega));have c4:=(hb.cell (p:=⟨z,off+k * 10+4,none⟩) H).trans (I 4 (by omega));have c5:=(hb.cell (p:=⟨z,off+k * 10+5,none⟩) H).trans (I 5 (by omega));have av:=(hb.cell (p:=⟨z,off+k * 10+6,none⟩) H).trans (I 6 (by omega));have ax:=(hb.cell (p:=⟨z,off+k * 10+7,none⟩) H).trans (I 7 (by omega));have ay:=(hb.cell (p:=⟨z,off+k * 10+8,none⟩) H).trans (I 8 (by omega));have az:=(hb.cell (p:=⟨z,off+k * 10+9,none⟩) H).trans (I 9 (by omega));simp at c0 c1 c2 c3 c4 c5 av ax ay az;have J:=m' S;have F:=m' hb;have aA:=m' au;clear I ad H S hb au ab ac;go_upto_region 6 with fail;refine G' (fun x=>Ji K w.heap.size wr.heap.size n x w.heap.size/\Below w.heap.size w x/\w.heap.size<=wr.heap.size/\wr.heap.size < x.heap.size/\x.heap[wr.heap.size]? =some (.cells #[.int .i64 O, .int .i64 ah, .int .i64 ai, .string s, .int .u64 kp, .int .i64 aj, .int .i64 ak, .int .i64 ao, .int .i64 ap, .string aq] 86 (0,0)))
    ⟨(d' J).below ((z11 _ _).alloc (z13 _) _),(d' F).trans (((z11 _ _).alloc (z13 _) _).mono (d' F).size),(d' F).size,by simp,z19 wr _⟩ ?_
   clear c0 c1 c2 c3 c4 c5 av ax ay az J F;generalize wr.heap.size=aW;rintro x ⟨S,hb,bc,aX,G⟩;have Q:=y' (i:=0) G;have aB:=y' (i:=1) G;have aC:=y' (i:=2) G;have aD:=y' (i:=3) G;have aE:=y' (i:=4) G;have aF:=y' (i:=5) G;have aG:=y' (i:=6) G;have aH:=y' (i:=7) G;have aI:=y' (i:=8) G;have aJ:=y' (i:=9) G;simp at Q aB aC aD aE aF aG aH aI aJ;have aK:=m' G;have F:=m' hb;have J:=m' S;clear S hb aX G;by_cases k8:M<=O
   ·by_cases k10:O<=X
    ·have V:=m' ((d' aU) w.heap.size aW n x w.heap.size (d' J) O ah ai s kp aj ak ao ap aq ⟨k8,k10⟩ (d' aA) (by omega));unfold D' ap' at V;clear J aA;go_upto_region 8 with (go_at_call 48;refine(d' V).mono ?_;rintro r bd ⟨rfl,aL,aM⟩;have aY:=m' aL;have Y:=m' aM;clear aL aM);have aN:=(d' Y).blk (d' aK) (by omega);have aO:=(d' F).trans ((d' Y).below (B:=w.heap.size) (d' F).size (fun g be e=>by omega));have aP:=m' aN;have aQ:=m' aO;have aR:=m' (d' aY).looks;unfold D' at aR;clear V Q aB aC aD aE aF aG aH aI aJ aK F aN aO Y;go_upto_region 9 with (go_at_call 49;refine(d' aR).mono ?_;rintro r bf ⟨rfl,aS,Z⟩;have aT:=(Z.block _ (z14 (d' aP))).trans (d' aP);have Q:=y' (i:=0) aT;simp at Q;have aZ:=m' aS;have ba:=m' Z;clear aS Z aT);go_wp2;go_roundw
     case rel=>exact⟨k+1,n+60,by omega,by go_num,by omega,(d' aZ).size,(d' aQ).trans ((d' ba).mono (d' aQ).size)⟩
     case measure=>simp[intOf];omega
    ·have bg:X < O:=(by omega);go_wp2;go_roundw
     case rel=>exact⟨k+1,n,by omega,by go_num,by omega,(d' J).size,d' F⟩
     case measure=>simp[intOf];omega
   ·have bh:O < M:=(by omega);go_wp2;go_roundw
    case rel=>exact⟨k+1,n,by omega,by go_num,by omega,(d' J).size,d' F⟩
    case measure=>simp[intOf];omega
  ·have F:=m' hb;clear hb S;go_wp2;go_ret;exact⟨rfl,d' F⟩
variable{p:World}{w a:Nat}{dT:Nat -> Bool}{bK:Bool}{t:List Value}
theorem xG' {M:Type} {enc:TypeId×Value->M} {y:DataW M×List MemPlace}
  (h:DataW.trod enc prog p w dT bK a 86 t=some y) (O:Rows.uptoBulk y.1<=1048576):
  ∃ (H G i:Int) (s:z10) (kp k e st q:Int) (b:z10),t=[.int .i64 H, .int .i64 G, .int .i64 i, .string s, .int .u64 kp, .int .i64 k, .int .i64 e, .int .i64 st, .int .i64 q, .string b]/\tW' G i s b:=by
 obtain⟨xs,n,_,rfl,hl,ao,z⟩:=DataW.trod_struct underlying86 h;rw[tV']at hl;match t,hl,xs,ao with
 |[d0,d1,d2,d3,d4,d5,d6,d7,d8,d9],_,[ay,az,aA,aB,aC,aD],_=>
  have h0:=z 0 _ rfl;have h1:=z 1 _ rfl;have h2:=z 2 _ rfl;have h3:=z 3 _ rfl;have h4:=z 4 _ rfl;have h5:=z 5 _ rfl;simp[rS',strCells,xD',yO']at h0 h1 h2 h3 h4 h5;obtain⟨H,Q,_,_⟩:=rK' underlying3 h0;obtain⟨G,V,_,I⟩:=rK' underlying3 h1;obtain⟨i,Y,_,J⟩:=rK' underlying3 h2;obtain⟨s,Z,ap,_⟩:=DataW.trod_string underlying9 h3;obtain⟨kp,aa,_,_⟩:=rK' underlying27 h4;obtain⟨aq,n2,_,au,_,av,F⟩:=DataW.trod_struct underlying41 h5;match aq,av with
  |[z0,aE,aF,z3,z4],_=>have g0:=F 0 _ rfl;have g1:=F 1 _ rfl;have g2:=F 2 _ rfl;have ab:=F 3 _ rfl;have ac:=F 4 _ rfl;simp[rS',strCells]at g0 g1 g2 ab ac;obtain⟨k,ad,_,_⟩:=rK' underlying3 g0;obtain⟨e,ah,_,_⟩:=rK' underlying3 g1;obtain⟨st,ai,_,_⟩:=rK' underlying3 g2;obtain⟨q,aj,_,_⟩:=rK' underlying3 ab;obtain⟨b,ak,ax,_⟩:=DataW.trod_string underlying9 ac;simp at Q V Y Z aa ad ah ai aj ak;subst Q V Y Z aa ad ah ai aj ak;subst ax au ap;simp only[Lit.wf,Bool.and_eq_true,decide_eq_true_eq]at I J;rw[show IntKind.i64.min= -9223372036854775808 from by decide,show IntKind.i64.max=9223372036854775807 from by decide]at I J;simp only[Rows.uptoBulk,Rows.uptoBulkAll,List.map_cons]at O;simp at O;exact⟨H,G,i,s,kp,k,e,st,q,b,rfl,I,J,by omega,by omega⟩
variable{c:Value}{fI:List MemPlace}
theorem vr' {M:Type} {enc:TypeId×Value->M} {d:DataW M}
  (h:DataW.Trod enc prog p w dT bK 22 c d fI) (Z:∃a len cap,c= .slice a len cap) (aa:Rows.uptoBulk d<=1048576):
  ∃O len cap,c= .slice O len cap/\len<=1048576/\(0 < len->∃F off,O=some ⟨F,off,none⟩/\F < p.heap.size/\∀i,i < len->OpJ p F (off+i * 10)):=by
 obtain⟨a0,z,c0,rfl⟩:=Z;obtain⟨ax,Q⟩:=h;have ab:(Value.slice a0 z c0).cells.toList=[.slice a0 z c0]:=rfl;rw[ab]at Q;rcases Deep.open_slice underlying22 Q with ⟨e,_⟩|⟨a,len,cap,m,n,D,ay,e,_,hl,_,ac,hd,hi⟩
 ·injection e with e;injection e with G H I;subst G H I;exact⟨none,0,0,rfl,by omega,fun h=>absurd h (by omega)⟩
 ·injection e with e;injection e with G H I;subst G H I;injection hd with hd _;subst hd;have az:z<=m:=by rw[ac];split <;> omega
  have V:((List.range z).map D).length<=1048576/\∀x∈ (List.range z).map D,Rows.uptoBulk x<=1048576:=by simp only[Rows.uptoBulk]at aa;have h1:=rT' ((List.range z).map D);refine⟨by omega,fun x ad=>?_⟩;have:=lW' ad;omega
  refine⟨some a,z,c0,rfl,by have:=V.1;simpa using this,fun h0=>?_⟩;rw[tV']at hi;obtain⟨F,off,Y⟩:=a;have ah:Y=none/\F < p.heap.size:=by
   obtain⟨ai,h1,h2⟩:=hi 0 (by omega);obtain⟨_,aj,J⟩:=World.cells?_some h1;have:=J 0 (by omega);rw[z18 (by omega)]at this;simp only[Addr.add,Nat.zero_mul,if_true]at this;unfold World.cell? at this;simp only at this;split at this
   ·rename_i hb;refine⟨?_,z14 hb⟩;cases Y with
    |none=>rfl
    |some _=>simp at this
   ·cases this
  obtain⟨rfl,ak⟩:=ah;refine⟨F,off,rfl,ak,fun i ao=>?_⟩;obtain⟨ai,h1,h2⟩:=hi i (by omega);obtain⟨_,aj,J⟩:=World.cells?_some h1;obtain⟨ap,aq,au,s,kp,k,e,st,q,b,rfl,av⟩:=xG' h2 (V.2 _ (z63.2 ⟨i,by simpa using ao,rfl⟩));refine⟨ap,aq,au,s,kp,k,e,st,q,b,av,fun j hj=>?_⟩;have:=J j hj;rw[nR',nR']at this;rw[this];simp
theorem tt' {K:cF'} (z:iW' K) (w:World):Calls prog 50 #[D' w.heap.size,ap' 3 0 0 ⟨#[]⟩ 0 0 0 0 0 ⟨#[]⟩] (w.alloc (.cells #[.slice none 0 0, .slice none 0 0, .slice none 0 0] 83)) fun r w'=>
  r= .returned (.bool true)/\Ji K w.heap.size w'.heap.size 0 w' w.heap.size/\Below w.heap.size w w':=by
 have S:=gX' w;refine(wW' z w.heap.size _ 0 _ _ w.heap.size _ _ _ [] [] [] 0 0 ⟨#[]⟩ 0 0 0 0 0 ⟨#[]⟩ S S.bnd (fun t h=>absurd h tr') (fun t h=>absurd h tr') (by simp)).mono ?_;rintro r w' ⟨rfl,F,G⟩;exact⟨rfl,F,((z11 _ _).alloc (z13 _) _).trans (G.below (by simp) (fun k hk h=>by omega))⟩
theorem tu' {K:cF'} (z:iX' K) (w:World):Calls prog 50 #[D' w.heap.size,ap' 8 0 0 ⟨#[]⟩ 0 0 0 0 0 ⟨#[]⟩] (w.alloc (.cells #[.slice none 0 0, .slice none 0 0, .slice none 0 0] 83)) fun r w'=>
  r= .returned (.bool true)/\Ji K w.heap.size w'.heap.size 0 w' w.heap.size/\Below w.heap.size w w':=by
 have S:=gX' w;refine(wX' z w.heap.size _ 0 _ _ w.heap.size _ _ _ [] [] [] 0 0 ⟨#[]⟩ 0 0 0 0 0 ⟨#[]⟩ S S.bnd (fun t h=>absurd h tr') (fun t h=>absurd h tr') (by simp)).mono ?_;rintro r w' ⟨rfl,F,G⟩;exact⟨rfl,F,((z11 _ _).alloc (z13 _) _).trans (G.below (by simp) (fun k hk h=>by omega))⟩
variable{o bS:z10}
theorem dF' (h1:o.size<=1000:=by decide) (h2:bS.size<=1000:=by decide):tW' 0 0 o bS:=⟨by omega,by omega,by omega,by omega⟩
variable{M X:Int}
theorem rU' {K:cF'} (ah:iW' K) (hst:pg' K M X) (aq:M<=4) (au:7<=X) (w:World):
  Calls prog 16 #[] w fun r w'=>r= .returned (.bool true)/\Below w.heap.size w w':=by
 have F:=m' (tt' ah w);have G:=m' hst;clear hst;unfold D' ap' at F;go_enter func16,ntmps16;go_upto_region 3 with (go_at_call 50;refine(d' F).mono ?_;rintro r w1 ⟨rfl,J,O⟩;have Q:=m' J;have H:=m' O;clear J O);clear F;have z:=m' ((d' G) w.heap.size _ 0 w1 w.heap.size (d' Q) 4 0 0 ⟨#[97]⟩ 0 0 0 0 0 ⟨#[]⟩ ⟨by omega,by omega⟩ dF' (by omega));unfold D' ap' at z;go_upto_region 6 with (go_at_call 48;refine(d' z).mono ?_;rintro r ai ⟨rfl,V,Y⟩;have Z:=m' V;have I:=m' ((d' H).trans (Y.below (B:=w.heap.size) (d' H).size (fun k hk h=>by omega)));clear V Y);clear z Q H;have z:=m' ((d' G) w.heap.size _ 60 ai w.heap.size (d' Z) 5 0 0 ⟨#[]⟩ 0 0 0 0 0 ⟨#[]⟩ ⟨by omega,by omega⟩ dF' (by omega));unfold D' ap' at z;go_upto_region 7 with (go_at_call 48;refine(d' z).mono ?_;rintro r aj ⟨rfl,aa,ab⟩;have ak:=m' aa;have ac:=m' ((d' I).trans (ab.below (B:=w.heap.size) (d' I).size (fun k hk h=>by omega)));clear aa ab);clear z Z I;have z:=m' ((d' G) w.heap.size _ 120 aj w.heap.size (d' ak) 7 0 0 ⟨#[]⟩ 0 0 0 0 0 ⟨#[]⟩ ⟨by omega,by omega⟩ dF' (by omega));unfold D' ap' at z;go_upto_region 8 with (go_at_call 48;refine(d' z).mono ?_;rintro r av ⟨rfl,ao,ad⟩;have ap:=m' ((d' ac).trans (ad.below (B:=w.heap.size) (d' ac).size (fun k hk h=>by omega)));clear ao ad);go_wp2;go_ret;exact⟨rfl,d' ap⟩
theorem tw' {K:cF'} (aj:iX' K) (hst:pg' K M X) (ax:M<=9) (ay:10<=X) (w:World):
  Calls prog 17 #[] w fun r w'=>r= .returned (.bool true)/\Below w.heap.size w w':=by
 have F:=m' (tu' aj w);have Q:=m' hst;clear hst;obtain⟨V,G⟩:=exq (⟨(Qb.bytes 3 0 0 1 (⟨#[97]⟩:z10).data.toList).toArray⟩:z10);have H:=fun w'=>m' (bY' 3 0 0 1 ⟨#[97]⟩ w' (by decide));rw[<-G]at H;have ak:V.size<=1000:=by rw[G];simp[ByteArray.size,da']
 clear G;unfold D' ap' at F;go_enter func17,ntmps17;go_upto_region 3 with (go_at_call 50;refine(d' F).mono ?_;rintro r w1 ⟨rfl,Y,Z⟩;have aa:=m' Y;have I:=m' Z;clear Y Z);clear F;go_upto_region 6 with (go_at_call 51;refine(d' (H _)).mono ?_;rintro r ao ⟨rfl,J⟩;have ab:=m' ((d' aa).below J).size;have O:=m' ((d' I).trans (J.mono (d' I).size));clear J);clear H aa I;have z:=m' ((d' Q) w.heap.size _ 0 ao w.heap.size (d' ab) 9 0 0 V 0 0 0 0 0 ⟨#[]⟩ ⟨by omega,by omega⟩ (dF' ak) (by omega));unfold D' ap' at z;go_upto_region 7 with (go_at_call 48;refine(d' z).mono ?_;rintro r ap ⟨rfl,ac,ad⟩;have aq:=m' ac;have ah:=m' ((d' O).trans (ad.below (B:=w.heap.size) (d' O).size (fun k hk h=>by omega)));clear ac ad);clear z ab O;have z:=m' ((d' Q) w.heap.size _ 60 ap w.heap.size (d' aq) 10 0 0 ⟨#[]⟩ 0 0 0 0 0 ⟨#[]⟩ ⟨by omega,by omega⟩ dF' (by omega));unfold D' ap' at z;go_upto_region 8 with (go_at_call 48;refine(d' z).mono ?_;rintro r az ⟨rfl,au,ai⟩;have av:=m' ((d' ah).trans (ai.below (B:=w.heap.size) (d' ah).size (fun k hk h=>by omega)));clear au ai);go_wp2;go_ret;exact⟨rfl,d' av⟩
theorem je':pg' KO 3 12:=fun B D n x Q S z F i s kp G H I J M O hb hn=>yN' S z F i s kp G H I J M O hb.1 (by have:=hb.2.2.1;omega) hn
theorem OpJ.below {w x:World} {z o:Nat} (h:OpJ w z o) (F:z < w.heap.size) (hb:Below w.heap.size w x):OpJ x z o:=by
 obtain⟨G,H,I,s,kp,k,e,st,q,b,J,M⟩:=h;exact⟨G,H,I,s,kp,k,e,st,q,b,J,fun j hj=>(hb.cell (p:=⟨z,o+j,none⟩) F).trans (M j hj)⟩
theorem vs' (F:Option Addr) (len cap:Nat) (w:World) (Z:len<=1048576) (h:0 < len->∃z off,F=some ⟨z,off,none⟩/\z < w.heap.size/\∀i,i < len->OpJ w z (off+i * 10)):
  Calls prog 6 #[.slice F len cap] w fun r w'=>r= .returned (.bool true)/\Below w.heap.size w w':=by
 have O:=fun w1 (hb:Below w.heap.size w w1)=>m' (vq' je' F len cap w1 (by omega) (fun h0=>by obtain⟨z,off,e,H,Q⟩:=h h0;exact⟨z,off,e,z20 H hb.size,fun i hi=>(Q i hi).below H hb⟩));clear h;go_enter func6,ntmps6;go_wp2_with (first|(go_at_call 16;refine(rU' nN' je' (by omega) (by omega) _).mono ?_;rintro r w1 ⟨rfl,I⟩;have J:=m' I;clear I)|(go_at_call 17;refine(tw' nO' je' (by omega) (by omega) _).mono ?_;rintro r aa ⟨rfl,M⟩;have G:=m' ((d' J).trans (M.mono (d' J).size));have V:=O _ (d' G);clear M)|(go_at_call 15;refine(d' V).mono ?_;rintro r ab ⟨rfl,Y⟩));go_ret;exact⟨rfl,(d' G).trans (Y.mono (d' G).size)⟩
theorem ph' (os:Os) (I:os.Started) (J:Type) (enc:TypeId×Value->J) (M:Stop.Interp):
  ReturnsInHanded {} Tryz.checked os 6 .any ((Rows.OpenSpec.upto Rows.opensSpec).pre6 enc prog Tryz.f6 Rows.opensUptoRow.domain false) (((Rows.OpenSpec.upto Rows.opensSpec).at M).post enc prog Tryz.f6 false true false false):=by
 refine returnsInHanded_of_cond (C:=Tryz.checked) (k:=Rows.uptoSmall) rfl Tryz.own I (by kernel_rfl) func6
  (OpenSpec.witness (enc:=enc) (C:=Tryz.checked) (x:=([.nil],[],[])) rfl false ⟨#[],#[.slice none 0 0],[]⟩ 8 (by kernel_rfl) (by kernel_rfl) (by kernel_rfl) (by kernel_rfl) (by kernel_rfl) (by kernel_rfl)) ?_
 intro W base args O ai aj z F ak hk ao;have G:∀ (j:Nat) t v,Tryz.f6.params[j]? =some t->args[j]? =some v->Value.okWide prog W .any base t v:=z;have Q:=F;obtain⟨p,q,hA0,V,rfl,ap,aq⟩:=F;have H:DataW.TrodAll enc prog W 0 (fun _=>true) true Tryz.f6.params.toList args.toList O p:=hA0;rw[params6]at H G;obtain⟨v0,au,d0,av,Y,ax,ay,rfl,rfl,h0,r0⟩:=trodAll_cons H;obtain⟨rfl,rfl,rfl⟩:=trodAll_nil r0;obtain rfl:args= #[v0]:=by cases args;simp_all
 obtain⟨rfl,rfl⟩:=trodVars_none V;have k0:=h0;have lt0:∀x∈Y,x.block < W.heap.size:=by obtain⟨m,Z⟩:=k0;exact DataW.trod_lt m _ _ _ Z
 have aa:Rows.uptoBulk d0<=1048576:=by have h:Rows.uptoBulkAll ([d0]++[])<=1048576:=tX' hk;have:=lW' (d:=d0) (l:=[d0]++[]) (by simp);omega
 obtain⟨ab,len,cap,rfl,ac,ad⟩:=vr' h0 (okWide_slice underlying22 (G 0 22 v0 rfl rfl)) aa;clear hA0 z;refine(vs' ab len cap W ac ad).mono fun e az ⟨ah,bel⟩=>?_;subst ah;exact⟨_,rfl,_,_,_,[],_,[],Q,trodAll_mk1 (shut_bool underlying4 _),(trodAll_cons_mk (Below.trod Tryz.laidOut (by kernel_rfl) (tX' (by kernel_rfl)) k0 bel lt0) trodAll_mk0),rfl,bel.frame _,fun h=>by cases h⟩
theorem opens_holds:Rows.OpensUptoSaid:=
 OpenClaim.holds_of_cond 6 Tryz.f6 rfl rfl rfl rfl rfl rfl rfl ⟨rfl,rfl,rfl,rfl,rfl⟩ rfl rfl rfl rfl rfl (by kernel_rfl) func6 (by kernel_rfl)
  (tX' (by kernel_rfl)) (by unfold Func.isWrapper;rw[if_neg (by decide+kernel)];exact⟨rfl,rfl⟩)
  (fun os z F enc _ G=>by rw[OpenClaim.pre_of_none' rfl];exact ph' os z F enc G)
