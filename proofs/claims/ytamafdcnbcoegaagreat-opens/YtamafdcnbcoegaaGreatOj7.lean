/- Part 7. -/
import Derived.Laws.Cover3
import Derived.RangeFuncNested
import Derived.RangeFuncBound
import Derived.RangeFuncCalls
import Derived.RangeFuncLeaves
import Derived.Shelf.Abstract
import Derived.Shelf.RegionOpen
import Derived.OwnWalkIn
import Derived.TacticsInMore
import Derived.LoopNIn
import Derived.LoopIn
import Derived.Test.YtamafdcnbcoegaaGreatOj6
set_option maxRecDepth 100000
set_option maxHeartbeats 40000000
namespace Go.Proofs.YtamafdcnbcoegaaGreat
attribute [local simp, local go_sem] Ev Ep Ei Eb Et
abbrev wA':= @Go.IntKind.wrap_u64
abbrev z189:= @Array.replicate_succ
abbrev z190:= @Array.replicate_zero
abbrev z200:= @List.append_toArray
abbrev z213:= @List.push_toArray
abbrev uI':= @Go.wpIn_wide
open Go.RowKit Go.Proofs.Tryz
structure Vf (w:World) (s dp:Nat) (st:Mq.Stv) (lv uv:Value):Prop where
 blk:w.heap[s]? =some (.cells #[D' dp, .int .u32 st.Qe, .int .u64 st.count, .int .i64 st.head] 203 (0,0))
 dk:Yd w dp st.dk lv uv
 op:st.Qe < 4294967296
 ct:st.count < 18446744073709551616
 hd:st.head<=1
def StU (s dp:Nat) (lv z:Value) (k:Nat):Prop:=k=s\/DkU dp lv z k
variable{p:World}{w a:Nat}{P:Mq.Stv}{c f:Value}
theorem Vf.sep (h:Vf p w a P c f):¬DkU a c f w:=ey' h.dk h.blk (by decide) (by decide) (by decide)
theorem Vf.far {E:Nat->Prop} {w x:World} {s dp:Nat} {st:Mq.Stv} {lv z:Value} (h:Vf w s dp st lv z) (F:Far E w x) (G:∀k,StU s dp lv z k->¬E k):Vf x s dp st lv z:=
 ⟨F.blk h.blk (G s (.inl rfl)),h.dk.far F (fun k hk=>G k (.inr hk)),h.op,h.ct,h.hd⟩
theorem Vf.lt {w:World} {s dp:Nat} {st:Mq.Stv} {lv z:Value} (h:Vf w s dp st lv z):∀k,StU s dp lv z k->k < w.heap.size:=by
 rintro k (rfl|hk)
 ·exact z14 h.blk
 ·exact h.dk.lt k hk
theorem dr' (w:World) (s dp:Nat) (st:Mq.Stv) (lv F:Value) (G:Vf w s dp st lv F) (a b d:Nat) (aA:a < 4294967296) (hb:b < 4294967296) (hd:d < 4294967296):
  Calls prog 149 #[D' s, .agg #[.int .i64 a, .int .i64 b, .int .i64 d]] w fun r w'=>r= .returned (.int .i64 (st.Qr a b d).1)/\
   ∃H,Vf w' s dp (st.Qr a b d).2 lv H/\Loc w F H/\Far (StU s dp lv F) w w':=by
 have aj:=z14 G.blk;have ak:st.next < 18446744073709551616:=Nat.mod_lt _ (by omega)
 have aR:=G.dk.len;have hk:64 * (1 - st.head)+64<=st.dk.bytes.length:=by omega
 have ao:=Mq.Jw st.Qe st.next (inside:=Mq.Jq a b d) (by rw[Mq.Jo];omega)
 have aS:=G.hd;have M:=m' G;unfold D' at *;go_enter func149,ntmps149;have O:=fun z=>(hao w z aj).trans G.blk;have c1:∀z,(w.alloc z).cell? ⟨s,3,none⟩=some (.int .i64 st.head):=fun z=>y' (i:=3) (O z);have c2:∀z,(w.alloc z).cell? ⟨s,2,none⟩=some (.int .u64 st.count):=fun z=>y' (i:=2) (O z);have d1:w.cell? ⟨s,3,none⟩=some (.int .i64 st.head):=y' (i:=3) G.blk;have d2:w.cell? ⟨s,2,none⟩=some (.int .u64 st.count):=y' (i:=2) G.blk;have f1:∀z,(w.alloc z).frozen? ⟨s,3,none⟩=false:=fun z=>H' (i:=3) (O z);have f2:∀z,(w.alloc z).frozen? ⟨s,2,none⟩=false:=fun z=>H' (i:=2) (O z);have g1:w.frozen? ⟨s,3,none⟩=false:=H' (i:=3) G.blk;have g2:w.frozen? ⟨s,2,none⟩=false:=H' (i:=2) G.blk;clear G O;have aB:IntKind.i64.wrap (1 - (st.head:Int))=1 - (st.head:Int):=by rw[z36];omega
 go_upto_region 3 with fail
 have hn:IntKind.u64.wrap ((st.count:Int)+1)=((st.next:Nat):Int):=by rw[wA',Mq.Stv.next];omega
 have ap:1 - (st.head:Int)=((1 - st.head:Nat):Int):=by omega
 refine G' (fun x=>x.heap[s]? =some (.cells #[.pointer (some ⟨dp,0,none⟩), .int .u32 st.Qe, .int .u64 st.next, .int .i64 (1 - st.head:Nat)] 203 (0,0))/\x.heap[w.heap.size]? =some (.cells #[.int .i64 a, .int .i64 b, .int .i64 d] 136 (0,0))/\Yd x dp st.dk lv F/\Far (fun k=>k=s) w x/\w.heap.size < x.heap.size) ?_ ?_
 ·rw[hn,ap];have hF:Far (fun k=>k=s) w (((w.setCell ⟨s,3,none⟩ (.int .i64 (1 - st.head:Nat))).setCell ⟨s,2,none⟩ (.int .u64 st.next)).alloc (.cells #[.int .i64 a, .int .i64 b, .int .i64 d] 136)):=
   ((Q' w s 3 _).trans (Q' _ s 2 _) (fun _ _ h=>h)).trans (C' ((z11 _ _).alloc (z13 _) _)) (fun _ _ h=>h)
  refine⟨?_,?_,(d' M).dk.far hF (fun k hk e=>(d' M).sep (by rw[<-e];exact hk)),hF,by simp⟩
  ·rw[hao _ _ (by simp;exact aj)];have h1:=aa' (j:=3) (v:= .int .i64 (1 - st.head:Nat)) (d' M).blk;have h2:=aa' (j:=2) (v:= .int .u64 st.next) h1;simpa[D']using h2
  ·have:=z19 ((w.setCell ⟨s,3,none⟩ (.int .i64 (1 - st.head:Nat))).setCell ⟨s,2,none⟩ (.int .u64 st.next)) (.cells #[.int .i64 a, .int .i64 b, .int .i64 d] 136);simpa using this
 rintro x ⟨h0,h1,J,hF,aT⟩;have aU:=z14 h0;have aq:¬DkU dp lv F s:=ey' J h0 (by decide) (by decide) (by decide);have aC:¬DkU dp lv F w.heap.size:=ey' J h1 (by decide) (by decide) (by decide);have aV:=J.lt;obtain⟨Y,Z⟩:=exq (Mq.Xc st.Qe st.next (Mq.Jq a b d));rw[<-Z]at ao;have aa:=fun y (hb:y.heap[s]? = _) (J:Yd y dp st.dk lv F)=>m' (fS' y s dp lv F (.int .u32 st.Qe) (.int .u64 st.next) (.int .i64 (1 - st.head:Nat)) st.dk (1 - st.head) Y ao hk hb J);have au:=fun y=>m' (hT' st.Qe st.next a b d y (d' M).op ak aA hb hd);rw[<-Z]at au;obtain⟨ab,ac⟩:=exq ((st.dk.put (1 - st.head) Y).1);obtain⟨av,ad⟩:=exq ((st.dk.put (1 - st.head) Y).2);rw[<-ac,<-ad]at aa;have aD:=m' (z12 Z (z12 ac ad));have ax:=m' h0;have aE:=m' h1;have aF:=m' J;have aG:=m' hF;clear Z ac ad h0 h1 J hF c1 c2 d1 d2 f1 f2 g1 g2 aB hn ap;unfold D' at aa;refine af'
  [Ep s 0,Ep s 0,Ep s 0,Ep s 3,Ei (1 - st.head:Nat),
   Ep s 0,Ep s 0,Ep s 1,Ev (.agg #[.int .u32 st.Qe, .int .u64 st.next]),Ev (.agg #[.int .i64 a, .int .i64 b, .int .i64 d]),
   Ev (.agg #[.int .u32 st.Qe, .int .u64 st.next, .int .i64 a, .int .i64 b, .int .i64 d]),Ev (.agg (bv Y).toArray),fun v y=>v= .int .i64 ab/\∃H,Yd y dp av lv H/\Loc x F H,Ei ab]
  [[0],[0],[2023],[3024],[4025],[0],[6027],[7028],[8029],[3],[9030,10031],[11032],[1022,5026,12033],[13034]] [23,24,25,26,27,28,29,30,31,32,33,34,35,5] [4,1,17,13]
  [(12,DkU dp lv F)] ?_ ?_ (hst:=by repeat' (first|exact V' _|exact(fun _ y I h hb=>⟨h.1,h.2.imp fun H h=>⟨h.1.far (C' (E:=fun _=>False) hb) (fun _ _ h=>h),h.2⟩⟩)|exact trivial|apply z12))
 ·refine⟨?_,?_,?_,?_,?_,?_,?_,?_,?_,?_,?_,?_,?_,?_,trivial⟩;all_goals
   intro a' I hb ah;have z0:=hb.blk (d' ax) (ay' (by exact aq));have ay:=hb.blk (d' aE) (ay' (by exact aC));have aW:I.cell? ⟨s,1,none⟩=some (.int .u32 st.Qe):=y' (i:=1) z0;have aX:I.cell? ⟨s,2,none⟩=some (.int .u64 st.next):=y' (i:=2) z0;have aY:I.cell? ⟨s,3,none⟩=some (.int .i64 (1 - st.head:Nat)):=y' (i:=3) z0;obtain⟨n0,n1,n2⟩:=gF' ay;have aH:=m' z0;clear z0 ay;simp[I']at ah
  iterate 11
   ·clear hb;go_simp;exact⟨_,rfl,Far.refl _ _,rfl⟩
  ·clear hb;go_simp;refine(d' (au I)).mono ?_;rintro r w1 ⟨rfl,aI⟩;exact⟨_,rfl,C' aI,rfl⟩
  ·have az:=(d' aF).far hb (by rintro k hk ⟨q,Q,g1,g2,aZ⟩;simp at Q;subst Q;exact g1 rfl);have aJ:=m' (d' (aa I (d' aH) az));have aK:=hb.size;clear hb az;go_simp;refine(d' aJ).mono ?_;rintro r w1 ⟨rfl,H,k1,k2,k3⟩;exact⟨_,rfl,an' (.head _) k3,rfl,H,k1,bT' k2 aK⟩
  ·clear hb;obtain⟨ah,_⟩:=ah;go_simp;exact⟨_,rfl,Far.refl _ _,rfl⟩
 ·intro f I V ai;obtain⟨_,H,k1,k2⟩:=ai.2.2.2.2.2.2.2.2.2.2.2.2.1;have aL:=ai.2.2.2.2.2.2.2.2.2.2.2.2.2.1;have V:Far (DkU dp lv F) x I:=V.mono (fun b _ h=>by obtain⟨q,Q,h⟩:=h;simp at Q;subst Q;exact h);have z0:=V.blk (d' ax) aq;have aM:=m' (z12 k1 (z12 k2 (z12 V z0)));clear ai k1 k2 V z0;simp only[O',aL];go_simp;go_wp2;go_ret;obtain⟨k1,k2,k3,k4⟩:=d' aM;obtain⟨aN,aO,aP⟩:=d' aD;have aQ:st.Qr a b d=(ab,{st with head:=1 - st.head,count:=st.next,dk:=av}):=by unfold Mq.Stv.Qr;rw[<-aN,<-aO,<-aP]
  rw[aQ];exact⟨rfl,H,⟨k4,k1,(d' M).op,ak,by show 1 - st.head<=1;omega⟩,bT' k2 (by omega),((d' aG).mono (fun _ _ e=> .inl e)).trans k3 (fun _ _ e=> .inr e)⟩
theorem fl' (w:World) (s dp:Nat) (st:Mq.Stv) (lv F:Value) (I:Vf w s dp st lv F) (z sm q:Nat) (body:z10) (aC:64 * (2+z)+64<=st.dk.bytes.length) (aD:sm < 256) (J:q < 4294967296) (aE:body.size<=20):
  Calls prog 89 #[D' s, .int .i64 z, .agg #[.int .i64 sm, .int .i64 q, .string body]] w fun r w'=>r= .returned (.int .i64 (st.Qz z sm q body.data.toList).1)/\
   ∃G,Vf w' s dp (st.Qz z sm q body.data.toList).2 lv G/\Loc w F G/\Far (StU s dp lv F) w w':=by
 have ak:=z14 I.blk;have ao:st.next < 18446744073709551616:=Nat.mod_lt _ (by omega)
 have aX:=I.dk.len;have ap:=Mq.Jw st.Qe st.next (inside:=Mq.Za sm q body.data.toList) (by rw[Mq.Zv];simp;omega)
 have aF:=I.hd;have Q:=m' I;unfold D' at *;go_enter func89,ntmps89;have ab:=fun H=>(hao w H ak).trans I.blk;have c2:∀H,(w.alloc H).cell? ⟨s,2,none⟩=some (.int .u64 st.count):=fun H=>y' (i:=2) (ab H);have d2:w.cell? ⟨s,2,none⟩=some (.int .u64 st.count):=y' (i:=2) I.blk;have f2:∀H,(w.alloc H).frozen? ⟨s,2,none⟩=false:=fun H=>H' (i:=2) (ab H);have g2:w.frozen? ⟨s,2,none⟩=false:=H' (i:=2) I.blk;clear I ab;have aG:IntKind.i64.wrap (2+(z:Int))=2+(z:Int):=by rw[z36];omega
 go_upto_region 2 with fail
 have hn:IntKind.u64.wrap ((st.count:Int)+1)=((st.next:Nat):Int):=by rw[wA',Mq.Stv.next];omega
 refine G' (fun x=>x.heap[s]? =some (.cells #[.pointer (some ⟨dp,0,none⟩), .int .u32 st.Qe, .int .u64 st.next, .int .i64 st.head] 203 (0,0))/\x.heap[w.heap.size]? =some (.cells #[.int .i64 sm, .int .i64 q, .string body] 155 (0,0))/\Yd x dp st.dk lv F/\Far (fun k=>k=s) w x/\w.heap.size < x.heap.size) ?_ ?_
 ·rw[hn];have hF:Far (fun k=>k=s) w ((w.setCell ⟨s,2,none⟩ (.int .u64 st.next)).alloc (.cells #[.int .i64 sm, .int .i64 q, .string body] 155)):=
   (Q' w s 2 _).trans (C' ((z11 _ _).alloc (z13 _) _)) (fun _ _ h=>h)
  refine⟨?_,?_,(d' Q).dk.far hF (fun k hk e=>(d' Q).sep (by rw[<-e];exact hk)),hF,by simp⟩
  ·rw[hao _ _ (by simp;exact ak)];have h2:=aa' (j:=2) (v:= .int .u64 st.next) (d' Q).blk;simpa[D']using h2
  ·have:=z19 (w.setCell ⟨s,2,none⟩ (.int .u64 st.next)) (.cells #[.int .i64 sm, .int .i64 q, .string body] 155);simpa using this
 rintro x ⟨h0,h1,O,hF,aY⟩;have aZ:=z14 h0;have aq:¬DkU dp lv F s:=ey' O h0 (by decide) (by decide) (by decide);have aH:¬DkU dp lv F w.heap.size:=ey' O h1 (by decide) (by decide) (by decide);obtain⟨Y,Z⟩:=exq (Mq.Xc st.Qe st.next (Mq.Za sm q body.data.toList));rw[<-Z]at ap;have aa:=fun y (hb:y.heap[s]? = _) (O:Yd y dp st.dk lv F)=>m' (fS' y s dp lv F (.int .u32 st.Qe) (.int .u64 st.next) (.int .i64 st.head) st.dk (2+z) Y ap aC hb O);have au:=fun y=>m' (fK' st.Qe st.next sm q body y (d' Q).op ao aD J aE);rw[<-Z]at au;obtain⟨ac,ad⟩:=exq ((st.dk.put (2+z) Y).1);obtain⟨av,ah⟩:=exq ((st.dk.put (2+z) Y).2);rw[<-ad,<-ah]at aa;have aI:=m' (z12 Z (z12 ad ah));have ax:=m' h0;have aJ:=m' h1;have aK:=m' O;have aL:=m' hF;obtain⟨ay,az⟩:=exq (2+z);rw[<-az]at aa;have aM:2+(z:Int)=(ay:Int):=by omega
 rw[aM]at aG;clear az;clear Z ad ah h0 h1 O hF c2 d2 f2 g2 hn;unfold D' at aa;refine af'
  [Ep s 0,Ei z,Ei ay,Ep s 0,Ep s 0,Ep s 1,Ev (.agg #[.int .u32 st.Qe, .int .u64 st.next]),Ev (.agg #[.int .i64 sm, .int .i64 q, .string body]),
   Ev (.agg (bv Y).toArray),fun v y=>v= .int .i64 ac/\∃G,Yd y dp av lv G/\Loc x F G,Ei ac]
  [[0],[1],[2017],[0],[4019],[5020],[6021],[5],[7022,8023],[1016,3018,9024],[10025]] [17,18,19,20,21,22,23,24,25,26,7] [6,1,9,10]
  [(9,DkU dp lv F)] ?_ ?_ (hst:=by repeat' (first|exact V' _|exact(fun _ y M h hb=>⟨h.1,h.2.imp fun G h=>⟨h.1.far (C' (E:=fun _=>False) hb) (fun _ _ h=>h),h.2⟩⟩)|exact trivial|apply z12))
 ·refine⟨?_,?_,?_,?_,?_,?_,?_,?_,?_,?_,?_,trivial⟩;all_goals
   intro a' M hb ai;have z0:=hb.blk (d' ax) (ay' (by exact aq));have aA:=hb.blk (d' aJ) (ay' (by exact aH));have ba:M.cell? ⟨s,1,none⟩=some (.int .u32 st.Qe):=y' (i:=1) z0;have bb:M.cell? ⟨s,2,none⟩=some (.int .u64 st.next):=y' (i:=2) z0;obtain⟨n0,n1,n2⟩:=gF' aA;have aN:=m' z0;clear z0 aA;simp[I']at ai
  iterate 2
   ·clear hb;go_simp;exact⟨_,rfl,Far.refl _ _,rfl⟩
  ·clear hb;go_simp;exact⟨_,rfl,Far.refl _ _,rfl⟩
  iterate 5
   ·clear hb;go_simp;exact⟨_,rfl,Far.refl _ _,rfl⟩
  ·clear hb;go_simp;refine(d' (au M)).mono ?_;rintro r w1 ⟨rfl,aO⟩;exact⟨_,rfl,C' aO,rfl⟩
  ·have aB:=(d' aK).far hb (by rintro k hk ⟨q,J,g1,g2,bc⟩;simp at J;subst J;exact g1 rfl);have aP:=m' (d' (aa M (d' aN) aB));have aQ:=hb.size;clear hb aB;go_simp;refine(d' aP).mono ?_;rintro r w1 ⟨rfl,G,k1,k2,k3⟩;exact⟨_,rfl,an' (.head _) k3,rfl,G,k1,bT' k2 aQ⟩
  ·clear hb;obtain⟨ai,_⟩:=ai;go_simp;exact⟨_,rfl,Far.refl _ _,rfl⟩
 ·intro f M V aj;obtain⟨_,G,k1,k2⟩:=aj.2.2.2.2.2.2.2.2.2.1;have aR:=aj.2.2.2.2.2.2.2.2.2.2.1;have V:Far (DkU dp lv F) x M:=V.mono (fun b _ h=>by obtain⟨q,J,h⟩:=h;simp at J;subst J;exact h);have z0:=V.blk (d' ax) aq;have aS:=m' (z12 k1 (z12 k2 (z12 V z0)));clear aj k1 k2 V z0;simp only[O',aR];go_simp;go_wp2;go_ret;obtain⟨k1,k2,k3,k4⟩:=d' aS;obtain⟨aT,aU,aV⟩:=d' aI;have aW:st.Qz z sm q body.data.toList=(ac,{st with count:=st.next,dk:=av}):=by unfold Mq.Stv.Qz;rw[<-aT,<-aU,<-aV]
  rw[aW];exact⟨rfl,G,⟨k4,k1,(d' Q).op,ao,aF⟩,bT' k2 (by omega),((d' aL).mono (fun _ _ e=> .inl e)).trans k3 (fun _ _ e=> .inr e)⟩
theorem aL' (z:Vf p w a P c f):
  Calls prog 86 #[D' w] p fun r w'=>r= .returned (.bool P.dk.dead)/\w'=p:=by
 have c0:p.cell? ⟨w,0,none⟩=some (D' a):=y' (i:=0) z.blk;have c3:p.cell? ⟨a,3,none⟩=some (.bool P.dk.dead):=y' (i:=3) z.dk.blk;unfold D' at *;clear z;have F:∀y:World,y=p->Calls prog 128 #[.pointer (some ⟨a,0,none⟩)] y fun r w'=>r= .returned (.bool P.dk.dead)/\w'=p:=by rintro y rfl;clear c0;go_enter func128,ntmps128;go_wp2;go_ret;exact⟨rfl,rfl⟩
 have F:=m' F;clear c3;go_enter func86,ntmps86;go_wp2_with (go_at_call 128;refine((d' F) _ rfl).mono ?_;rintro r y ⟨rfl,rfl⟩);go_ret;exact⟨rfl,rfl⟩
theorem iM' (z:Vf p w a P c f):
  Calls prog 111 #[D' w] p fun r w'=>r= .returned (.int .i64 P.Qe)/\w'=p:=by
 have c0:p.cell? ⟨w,1,none⟩=some (.int .u32 P.Qe):=y' (i:=1) z.blk;have F:IntKind.i64.wrap (P.Qe:Int)=(P.Qe:Int):=by have:=z.op;rw[z36];omega
 unfold D' at *;clear z;go_enter func111,ntmps111;go_wp2;go_ret;exact⟨by simp,rfl⟩
theorem uJ' (w:World):(isAgg 207).run prog w= .ok true w:=by
 simp[isAgg,run_underlying underlying207]
variable{B:Array Oper}{N:Oper}{I:Act}{Z:Exit -> Act -> World -> Prop}
theorem gN' {rest:List Oper} (F:N.guard=none) (x:Operand) (G:N.op= .load 207 x)
  (z:Addr) (H:I.eval x= .pointer (some z)) (S:List UInt8) (J:S.length=64) (M:∀j v,(bv S)[j]? =some v->p.cell? (z.add j)=some v)
  (h:wpList prog B Z rest (I.put N.dst (.agg (bv S).toArray)) p):wpList prog B Z (N::rest) I p:=by
 refine pi' F fun K hK=>?_;unfold Oper.wp execOp;simp only[G,H,Instr.loadAt,Instr.sureAddr,Sem.run_bind,Sem.run_pure,Result.andThen_ok,el' p z 207 (bv S) M (uJ' p) (by rw[iI',Z',J])];exact hK _ _ h
theorem ic' (w:World) (v:Value) (L:List UInt8) (k:Nat) (V:Qn w v L) (hk:64 * k+64<=L.length) (Y:L.length<=10000):
  Calls prog 195 #[v, .int .i64 k] w fun r w'=>r= .returned (.agg (bv ((L.drop (k * 64)).take 64)).toArray)/\Below w.heap.size w w':=by
 obtain⟨ad,cap,rfl,h1,h2,h3⟩:=V;obtain⟨b,off,rfl,F⟩:=h3 (by omega);obtain⟨n,hn⟩:=exq (L.length);rw[<-hn]at hk Y h1 h2 F ⊢;have z:((L.drop (k * 64)).take 64).length=64:=by rw[z71,z97,<-hn];omega
 have G:∀j v,(bv ((L.drop (k * 64)).take 64))[j]? =some v->w.cell? ⟨b,off+k * 64+j,none⟩=some v:=by
  intro j v hj;have H:j < 64:=by have:=(z28.1 hj).1;rw[Z',z]at this;exact this
  rw[eb' (by rw[z];exact H)]at hj;cases hj;have:=F (k * 64+j) (by omega);rw[<-xK']at this;rw[this];simp[List.getD_eq_getElem?_getD,H,List.getElem?_drop]
 obtain⟨S,I⟩:=exq ((L.drop (k * 64)).take 64);rw[<-I]at z G ⊢;have J:=m' G;clear G F I hn;have i0:(0:Int)<=(k:Int) * 64:=by omega
 have ah:(k:Int) * 64<=(k:Int) * 64+64:=by omega
 have ai:(k:Int) * 64+64<=(n:Int):=by omega
 have i3:(k:Int) * 64+64<=(cap:Int):=by omega
 have aj:((k:Int) * 64).toNat=k * 64:=by omega
 have ak:((k:Int) * 64+64).toNat=k * 64+64:=by omega
 have ao:IntKind.i64.wrap ((k:Int) * 64)=(k:Int) * 64:=by rw[z36];omega
 have ap:IntKind.i64.wrap ((k:Int)+1)=(k:Int)+1:=by rw[z36];omega
 have aq:IntKind.i64.wrap (((k:Int)+1) * 64)=(k:Int) * 64+64:=by rw[z36];omega
 have au:¬cap=k * 64:=by omega
 have av:∀y:World,(Instr.arrayAt 207 (.slice (some ⟨b,off+k * 64,none⟩) 64 (cap - k * 64))).run prog y= .ok (.pointer (some ⟨b,off+k * 64,none⟩)) y:=fun y=>by simp[Instr.arrayAt,run_underlying underlying207]
 go_enter func195,ntmps195;go_upto_region 1 with fail;refine G' (fun x=>x.heap[w.heap.size]? =some (.cells (bv bd').toArray 207 (0,0))/\(∀j v,(bv S)[j]? =some v->x.cell? ⟨b,off+k * 64+j,none⟩=some v)/\Below w.heap.size w x) ?_ ?_
 ·refine⟨fJ' (z19 _ _) (by kernel_rfl),fun j v hj=>?_,(z11 _ _).alloc (z13 _) _⟩;have h:=(d' J) j v hj;exact(z85 w _ ⟨b,off+k * 64+j,none⟩ (z66 _ _ h)).trans h
 rintro x ⟨h0,M,O⟩;have Z:=m' h0;have aa:=m' M;have Q:=m' O;have ax:=z14 h0;clear h0 M O J;go_wp2_with (first
  |(refine gN' rfl (.tmp 12) rfl ⟨b,off+k * 64,none⟩ rfl S z (by intro j v hj;rw[dG'];exact(d' aa) j v hj) ?_)
  |(refine dp' rfl (.tmp 4) (.tmp 13) rfl w.heap.size rfl S z rfl 207 _ (by simp[Z',aA']) (d' Z) ?_;intro z4 ab ac;go_simp))
 exact z50 (ex' results195 _ _ w.heap.size _ _ z rfl ab) rfl ⟨rfl,(d' Q).trans (ac.below (d' Q).size (fun k hk e=>by omega))⟩
theorem ld':prog.built 207 []=some (bv bd').toArray:=by kernel_rfl
theorem ck' {rest:List Oper} (z:N.guard=none) (F:N.op= .build 207 #[])
  (h:wpList prog B Z rest (I.put N.dst (.agg (bv bd').toArray)) p):wpList prog B Z (N::rest) I p:=by
 refine wpList_build z 207 #[] F ?_ ?_
 ·simp[ld']
 ·simpa[ld']using h
theorem mF' (w:World):Calls prog 194 #[.agg (bv bd').toArray] w fun r w'=>
  r= .returned (.tuple #[.agg #[.int .u32 0, .int .u64 0, .int .i64 0, .int .i64 0, .int .i64 0], .bool true])/\Below w.heap.size w w':=by
 have F:=fun y=>iJ' (S:=bd') (T:=bd') aA' aA' y;rw[z47 rfl]at F;go_enter func194,ntmps194;go_upto_region 1 with fail;refine G' (fun x=>x.heap[w.heap.size]? =some (.cells (bv bd').toArray 207 (0,0))/\x.heap[w.heap.size+1]? =some (.cells #[.int .u32 0, .int .u64 0, .int .i64 0, .int .i64 0, .int .i64 0] 217 (0,0))/\Below w.heap.size w x) (cL' _ _ _) ?_;rintro x ⟨h0,h1,z⟩;obtain⟨G,H,I,J,M⟩:=dn' h1;have Y:x.frozen? ⟨w.heap.size+1,0,none⟩=false:=H' (i:=0) h1;have Z:x.frozen? ⟨w.heap.size+1,1,none⟩=false:=H' (i:=1) h1;have aa:x.frozen? ⟨w.heap.size+1,2,none⟩=false:=H' (i:=2) h1;have ab:x.frozen? ⟨w.heap.size+1,3,none⟩=false:=H' (i:=3) h1;have ac:x.frozen? ⟨w.heap.size+1,4,none⟩=false:=H' (i:=4) h1;have O:=m' h0;have Q:=m' z;clear h0 h1 z;go_wp2_with (first
  |(refine cf' rfl (.tmp 1) rfl w.heap.size rfl 207 bd' aA' (d' O) ?_)
  |(refine ck' rfl rfl ?_;go_simp))
 refine z50 (v:= .tuple #[.agg #[.int .u32 0, .int .u64 0, .int .i64 0, .int .i64 0, .int .i64 0], .bool true]) (by simp[results,results194,go_sem,G,H,I,J,M]) rfl ⟨rfl,?_⟩;have V:=d' Q;exact((((V.setCell (p:=⟨w.heap.size+1,0,none⟩) (by simp) _).setCell (p:=⟨w.heap.size+1,1,none⟩) (by simp) _).setCell (p:=⟨w.heap.size+1,2,none⟩) (by simp) _).setCell (p:=⟨w.heap.size+1,3,none⟩) (by simp) _).setCell (p:=⟨w.heap.size+1,4,none⟩) (by simp) _
theorem jX' (w:World) (last:Nat):Calls prog 197 #[.agg (bv bd').toArray, .int .u32 last] w fun r w'=>
  r= .returned (.tuple #[.agg #[.int .i64 0, .int .i64 0, .string ⟨#[]⟩], .bool true])/\Below w.heap.size w w':=by
 have F:=fun y=>iJ' (S:=bd') (T:=bd') aA' aA' y;rw[z47 rfl]at F;go_enter func197,ntmps197;go_upto_region 1 with fail;refine G' (fun x=>x.heap[w.heap.size]? =some (.cells (bv bd').toArray 207 (0,0))/\x.heap[w.heap.size+1]? =some (.cells #[.int .i64 0, .int .i64 0, .string ⟨#[]⟩] 155 (0,0))/\Below w.heap.size w x) (cL' _ _ _) ?_;rintro x ⟨h0,h1,z⟩;obtain⟨G,H,I⟩:=gF' h1;have Q:x.frozen? ⟨w.heap.size+1,0,none⟩=false:=H' (i:=0) h1;have V:x.frozen? ⟨w.heap.size+1,1,none⟩=false:=H' (i:=1) h1;have Y:x.frozen? ⟨w.heap.size+1,2,none⟩=false:=H' (i:=2) h1;have J:=m' h0;have M:=m' z;clear h0 h1 z;go_wp2_with (first
  |(refine cf' rfl (.tmp 2) rfl w.heap.size rfl 207 bd' aA' (d' J) ?_)
  |(refine ck' rfl rfl ?_;go_simp))
 refine z50 (v:= .tuple #[.agg #[.int .i64 0, .int .i64 0, .string ⟨#[]⟩], .bool true]) (by simp[results,results197,go_sem,G,H,I]) rfl ⟨rfl,?_⟩;have O:=d' M;exact((O.setCell (p:=⟨w.heap.size+1,0,none⟩) (by simp) _).setCell (p:=⟨w.heap.size+1,1,none⟩) (by simp) _).setCell (p:=⟨w.heap.size+1,2,none⟩) (by simp) _
namespace Mq
def newer (o c z F:Nat):Bool:=if o≠z then decide (z < o)else decide (F < c)
end Mq
theorem jE' (o c z F:Nat) (w:World):Calls prog 196 #[.agg #[.int .u32 o, .int .u64 c], .agg #[.int .u32 z, .int .u64 F]] w fun r w'=>r= .returned (.bool (Mq.newer o c z F))/\Below w.heap.size w w':=by
 by_cases h:o=z
 ·subst h;go_enter func196,ntmps196;go_wp2;go_ret;exact⟨by simp[Mq.newer],((z11 _ _).alloc (z13 _) _).alloc (by simp) _⟩
 ·have G:¬ (o:Int)=(z:Int):=by omega
  have H:((o:Int) == (z:Int))=false:=by simp;omega
  go_enter func196,ntmps196;go_wp2;go_ret;exact⟨by simp[Mq.newer,h],((z11 _ _).alloc (z13 _) _).alloc (by simp) _⟩
variable{l:Array Value}{bK:Bool}
theorem dR' (h:l[w]?.getD undef= .bool bK):l[w]? =some (.bool bK):=by
 cases z:l[w]? with
 |none=>rw[z]at h;simp[undef]at h
 |some v=>rw[z]at h;simp at h;rw[h]
theorem iN':(prog.info? 217).map (·.size)=some 5:=by kernel_rfl
theorem bp' (w:World) (g:Nat) (z:Array Value):Far (fun k=>k=g) w (w.setRow g z):=⟨rfl,rfl,rfl,by simp,fun k _ hk=>pu' w g k _ hk⟩
theorem wB':(prog.info? 155).map (fun i=>(i.zero,i.size,i.bytes))=some (some (.agg #[.int .i64 0, .int .i64 0, .string ⟨#[]⟩]),3,32):=by kernel_rfl
theorem fT' (w:World) (v:Value) (L:List UInt8) (J:Qn w v L) (h0:0 < L.length) (M:L.length<=10000):
  Calls prog 192 #[v] w fun r w'=>∃v',r= .returned v'/\Qt w.heap.size w' v' L/\Below w.heap.size w w':=by
 obtain⟨Y,cap,rfl,h1,h2,h3⟩:=J;obtain⟨b,off,rfl,z⟩:=h3 h0;obtain⟨n,hn⟩:=exq (L.length);rw[<-hn]at h0 M h1 h2 z ⊢;have O:=m' z;have G:=m' hn;clear z hn h3;have H:Qt w.heap.size (w.alloc (.cells #[] 5)) (.slice (some ⟨w.heap.size,0,none⟩) 0 0) []:=
  ⟨by simp[bv], .inr ⟨w.heap.size,0,_,rfl,z13 _,z19 w _,by simp,by unfold maxLen;omega,by simp,by simp[bv]⟩⟩
 have Q:=m' H;clear H;have Z:∀y:World,(binOp .eql 44 (.slice (some ⟨b,off,none⟩) n cap) (.slice none 0 0)).run prog y= .ok (.bool false) y:=fun y=>by have:=run_equal_slice_nil (P:=prog) y 44 5 (some ⟨b,off,none⟩) n cap underlying44;simp[binOp,this]
 go_enter func192,ntmps192;go_wp2_with (at_builtin;refine gZ' rfl (.tmp 5) (.tmp 6) rfl w.heap.size _ [] (d' Q) rfl ⟨b,off,none⟩ n cap L rfl (d' G).symm (by
  intro j u hj;have I:j < L.length:=by have:=(z28.1 hj).1;rw[Z']at this;exact this
  rw[eb' I]at hj;cases hj;have h:=(d' O) j (by rw[d' G];exact I);rw[dG'];exact(z85 w _ ⟨b,off+j,none⟩ (z66 _ _ h)).trans h) (by simp;omega) (by simp) ?_;intro v' w' V F;go_simp)
 go_ret;exact⟨v',rfl,by simpa using V,((z11 _ _).alloc (z13 _) _).trans (Y' (B:=w.heap.size) F (by simp) (fun g F=>by simp[Value.ownBlock]at F;omega))⟩
theorem qn' (w:World) (v:Value) (L:List UInt8) (F:Qn w v L) (h0:128<=L.length) (G:L.length<=10000):
  Calls prog 148 #[v] w fun r w'=>∃p lv,r= .returned (D' p)/\Yd w' p ⟨L,0,false⟩ lv (.slice none 0 0)/\Below w.heap.size w w'/\∀k,DkU p lv (.slice none 0 0) k->w.heap.size<=k:=by
 have I:=m' (fT' w v L F (by omega) G);clear F;unfold D';go_enter func148,ntmps148;go_wp2_with (go_at_call 192;refine(d' I).mono ?_;rintro r y ⟨lv,rfl,z,hb⟩;obtain⟨J,cap,rfl,_⟩:=z.shape;replace z:=m' z;replace hb:=m' hb);go_ret;have H:=d' z;have hb:=d' hb;refine⟨_,_,rfl,⟨z19 y _,?_,bb' _ _ _,⟨h0,G⟩,by simp⟩,hb.alloc hb.size _,?_⟩
 ·exact z53 (H.mono (z54 _)) _
 ·rintro k (rfl|hk|hk)
  ·exact hb.size
  ·exact(H.lt k hk).1
  ·cases hk
def qo' (B:Nat) (L:List UInt8) (p:Nat) (w:World):Prop:=∃lv,Yd w p ⟨L,0,false⟩ lv (.slice none 0 0)/\∀k,DkU p lv (.slice none 0 0) k->B<=k
variable{m:List UInt8}{u:World}
theorem fU' (h:qo' w m a p) (hb:Below p.heap.size p u):qo' w m a u:=h.imp fun _ h=>⟨h.1.far (C' (E:=fun _=>False) hb) (fun _ _ h=>h),h.2⟩
variable{j:TypeId}{q:Nat}{t:List Value}
theorem ak' {B':Nat} (h:p.ownsRow w j a c q t) (z:B'<=w):p.ownsRow B' j a c q t:=by
 obtain⟨h1,h2⟩:=h;refine⟨h1,?_⟩;rcases h2 with h2|⟨g,cap,F,rfl,hb,r⟩
 ·exact .inl h2
 ·exact .inr ⟨g,cap,F,rfl,z26 z hb,r⟩
theorem mG':(prog.info? 187).map (·.size)=some 4:=by kernel_rfl
theorem dA' (q:Nat) (z:q<=1000000000000) (w:World):Calls prog 202 #[.int .i64 q] w fun e w'=>e= .returned (.int .i64 ((q:Int)+2))/\w'=w:=by
 have F:IntKind.i64.wrap ((q:Int)+2)=(q:Int)+2:=by rw[z36];omega
 go_enter func202,ntmps202;go_wp2;go_ret;exact⟨rfl,rfl⟩
theorem wC':(prog.info? 3).map (fun i=>(i.zero,i.size,i.bytes))=some (some (.int .i64 0),1,8):=by kernel_rfl
theorem mH' (q:Nat) (aj:q<=1000000000) (b:z10) (ak:0 < b.size) (w:World):
  Calls prog 155 #[.int .i64 q, .string b] w fun e w'=>∃v,e= .returned v/\w'.ownsRow w.heap.size 3 1 v (Mq.bitsOf q b[0].toNat 3).length (J' (Mq.bitsOf q b[0].toNat 3))/\Below w.heap.size w w':=by
 obtain⟨i0,hi,ab,ac,ad⟩:=au' wC';go_enter func155,ntmps155;go_wp2;go_loopw[5,6,7] (fun v5 _ i wr=>∃j:Nat,j<=3/\i= .int .i64 j/\wr.ownsRow w.heap.size 3 1 v5 (Mq.bitsOf q b[0].toNat j).length (J' (Mq.bitsOf q b[0].toNat j))/\Below w.heap.size w wr) (fun _ _ i _=>3 - (intOf i).toNat)
 case atStart=>exact⟨0,by omega,rfl,z27 _ _ _ _,z11 _ _⟩
 case round=>
  obtain⟨j,hj,rfl,ah,hb⟩:=hrel;have G:=m' ah;have J:=m' hb;clear ah hb;rcases(show j=0\/j=1\/j=2\/j=3 by omega)with rfl|rfl|rfl|rfl
  ·have V:=cp' q b[0].toNat 0;have M:(bits BinOp.and IntKind.u8 (((b[0].toNat:Nat):Int)) 1==1)=decide (b[0].toNat % 2=1):=Ak' ⟨b[0].toNat,b[0].toNat_lt⟩;have ai:IntKind.i64.wrap ((q:Int)+2+0)=(q:Int)+2+0:=(by rw[z36];omega);have Y:=fun y=>dA' q (by omega) y;by_cases z:b[0].toNat % 2=1
   ·have F:=m' (show Mq.bitsOf q b[0].toNat (0+1)=Mq.bitsOf q b[0].toNat 0++[q+2+0] by simp[Mq.bitsOf,z]);simp only[z,decide_true]at M;generalize Mq.bitsOf q b[0].toNat 0=O at V F G;have Z:=(d' J).size;go_upto_region 7 with (first|(go_at_call 202;refine(Y _).mono ?_;rintro e y ⟨rfl,rfl⟩)|(at_builtin;refine z62 _ rfl (.tmp 16) (.tmp 21) 26 rfl w.heap.size 3 i0 (.int .i64 0) 1 8 underlying26 hi ab ac ad rfl (by decide) u5 O.length (J' O) rfl ((d' G).alloc _) ⟨y.heap.size,0,none⟩ 1 1 [.int .i64 ((q:Int)+2)] rfl rfl aq' (by intro u hu;simp at hu;subst hu;rfl) (by unfold maxLen;omega) (by omega) (by simp;omega) ?_;intro v' w1 H Q _;have I:Below w.heap.size w w1:=(d' J).trans (((z11 _ y).alloc Z _).trans (Y' (B:=w.heap.size) Q (by simp;omega) (fun g aa=>(z15 (d' G) g aa).1)));replace H:=m' H;replace I:=m' I;clear Q));go_wp2;go_roundw
    case rel=>exact⟨0+1,by omega,by go_num,by have:=d' H;rw[d' F,z35,ch'];simpa using this,d' I⟩
    case measure=>simp[intOf]
   ·have F:=m' (show Mq.bitsOf q b[0].toNat (0+1)=Mq.bitsOf q b[0].toNat 0 by simp[Mq.bitsOf,z]);simp only[z,decide_false]at M;go_wp2;exact⟨⟨0+1,by omega,by go_num,by rw[d' F];exact d' G,d' J⟩,by simp[intOf]⟩
  ·have V:=cp' q b[0].toNat 1;have M:(bits BinOp.and IntKind.u8 (((b[0].toNat:Nat):Int) / 2) 1==1)=decide (b[0].toNat / 2 % 2=1):=Al' ⟨b[0].toNat,b[0].toNat_lt⟩;have ai:IntKind.i64.wrap ((q:Int)+2+1)=(q:Int)+2+1:=(by rw[z36];omega);have Y:=fun y=>dA' q (by omega) y;by_cases z:b[0].toNat / 2 % 2=1
   ·have F:=m' (show Mq.bitsOf q b[0].toNat (1+1)=Mq.bitsOf q b[0].toNat 1++[q+2+1] by simp[Mq.bitsOf,z]);simp only[z,decide_true]at M;generalize Mq.bitsOf q b[0].toNat 1=O at V F G;have Z:=(d' J).size;go_upto_region 7 with (first|(go_at_call 202;refine(Y _).mono ?_;rintro e y ⟨rfl,rfl⟩)|(at_builtin;refine z62 _ rfl (.tmp 16) (.tmp 21) 26 rfl w.heap.size 3 i0 (.int .i64 0) 1 8 underlying26 hi ab ac ad rfl (by decide) u5 O.length (J' O) rfl ((d' G).alloc _) ⟨y.heap.size,0,none⟩ 1 1 [.int .i64 ((q:Int)+2+1)] rfl rfl aq' (by intro u hu;simp at hu;subst hu;rfl) (by unfold maxLen;omega) (by omega) (by simp;omega) ?_;intro v' w1 H Q _;have I:Below w.heap.size w w1:=(d' J).trans (((z11 _ y).alloc Z _).trans (Y' (B:=w.heap.size) Q (by simp;omega) (fun g aa=>(z15 (d' G) g aa).1)));replace H:=m' H;replace I:=m' I;clear Q));go_wp2;go_roundw
    case rel=>exact⟨1+1,by omega,by go_num,by have:=d' H;rw[d' F,z35,ch'];simpa using this,d' I⟩
    case measure=>simp[intOf]
   ·have F:=m' (show Mq.bitsOf q b[0].toNat (1+1)=Mq.bitsOf q b[0].toNat 1 by simp[Mq.bitsOf,z]);simp only[z,decide_false]at M;go_wp2;exact⟨⟨1+1,by omega,by go_num,by rw[d' F];exact d' G,d' J⟩,by simp[intOf]⟩
  ·have V:=cp' q b[0].toNat 2;have M:(bits BinOp.and IntKind.u8 (((b[0].toNat:Nat):Int) / 4) 1==1)=decide (b[0].toNat / 4 % 2=1):=Am' ⟨b[0].toNat,b[0].toNat_lt⟩;have ai:IntKind.i64.wrap ((q:Int)+2+2)=(q:Int)+2+2:=(by rw[z36];omega);have Y:=fun y=>dA' q (by omega) y;by_cases z:b[0].toNat / 4 % 2=1
   ·have F:=m' (show Mq.bitsOf q b[0].toNat (2+1)=Mq.bitsOf q b[0].toNat 2++[q+2+2] by simp[Mq.bitsOf,z]);simp only[z,decide_true]at M;generalize Mq.bitsOf q b[0].toNat 2=O at V F G;have Z:=(d' J).size;go_upto_region 7 with (first|(go_at_call 202;refine(Y _).mono ?_;rintro e y ⟨rfl,rfl⟩)|(at_builtin;refine z62 _ rfl (.tmp 16) (.tmp 21) 26 rfl w.heap.size 3 i0 (.int .i64 0) 1 8 underlying26 hi ab ac ad rfl (by decide) u5 O.length (J' O) rfl ((d' G).alloc _) ⟨y.heap.size,0,none⟩ 1 1 [.int .i64 ((q:Int)+2+2)] rfl rfl aq' (by intro u hu;simp at hu;subst hu;rfl) (by unfold maxLen;omega) (by omega) (by simp;omega) ?_;intro v' w1 H Q _;have I:Below w.heap.size w w1:=(d' J).trans (((z11 _ y).alloc Z _).trans (Y' (B:=w.heap.size) Q (by simp;omega) (fun g aa=>(z15 (d' G) g aa).1)));replace H:=m' H;replace I:=m' I;clear Q));go_wp2;go_roundw
    case rel=>exact⟨2+1,by omega,by go_num,by have:=d' H;rw[d' F,z35,ch'];simpa using this,d' I⟩
    case measure=>simp[intOf]
   ·have F:=m' (show Mq.bitsOf q b[0].toNat (2+1)=Mq.bitsOf q b[0].toNat 2 by simp[Mq.bitsOf,z]);simp only[z,decide_false]at M;go_wp2;exact⟨⟨2+1,by omega,by go_num,by rw[d' F];exact d' G,d' J⟩,by simp[intOf]⟩
  ·go_wp2;go_ret;exact⟨_,rfl,d' G,d' J⟩
def eJ' (b:z10):Value:= .agg #[.string b]
def tJ':Value:= .agg #[.string ⟨#[]⟩]
theorem sF' (w:World):(zeroValue 235).run prog w= .ok tJ' w:=zeroValue235 w
def gO' (l:List (Nat×Value)):Prop:=∀x∈l,∃b,x.2=eJ' b
variable{d:List (Nat×Value)}
theorem gm' (h:gO' d) (k:Int):(∃b,al' d k=some (eJ' b))\/al' d k=none:=by
 cases z:al' d k with
 |none=>exact .inr rfl
 |some v=>obtain⟨x,F,_,rfl⟩:=dE' z;obtain⟨b,e⟩:=h x F;exact .inl ⟨b,by rw[e]⟩
theorem le' (hb:p.heap[w]? =some (.cells l j (0,0))) (h1:l[a+1]? =some f) (S:Jb p c f d) (A:gO' d) (n:Int):
  Calls prog 165 #[.pointer (some ⟨w,a,none⟩), .int .i64 n] p fun e w'=>e= .returned (.bool (al' d n).isSome)/\Below p.heap.size p w':=by
 have c1:p.cell? ⟨w,a+1,none⟩=some f:=(y' hb).trans h1;have z:=(bw' (P:=prog) (w:=p) (t:=168) underlying168 underlying3 (sF' p) S.map n).1;clear S hb h1;rcases gm' A n with ⟨b,h⟩|h;all_goals
  rw[h]at z ⊢;simp only[Option.getD_some,Option.getD_none,Option.isSome_some,Option.isSome_none,eJ',tJ']at z ⊢;clear h A;go_enter func165,ntmps165;go_wp2;go_ret;refine⟨rfl,?_⟩;exact(z11 _ _).alloc (z13 _) _
theorem wD' (S:eR' p w a j l c f d) (hl:d.length < 1000) (n:Nat) (b:z10):
  Calls prog 206 #[.pointer (some ⟨w,a,none⟩), .int .i64 n,eJ' b] p fun e w'=>e= .returned (.tuple #[])/\cq' p w' w a j l c f (br' d n (eJ' b)):=by
 obtain⟨V,h0,h1,S,aa⟩:=S;obtain⟨av,ab⟩:=exq (f);rw[<-ab];have ab:=m' ab;have c0:p.cell? ⟨w,a,none⟩=some c:=(y' V).trans h0;have c1:p.cell? ⟨w,a+1,none⟩=some f:=(y' V).trans h1;unfold eJ';have ax:=z14 V;go_enter func206,ntmps206;go_upto_region 1 with fail;refine G' (fun x=>x.heap[w]? =some (.cells l j (0,0))/\x.heap[p.heap.size]? =some (.cells #[.string b] 235 (0,0))/\Jb x c f d/\Far (fun _=>False) p x/\p.heap.size < x.heap.size) ?_ ?_
 ·have F:Far (fun _=>False) p (p.alloc (.cells #[.string b] 235)):=C' ((z11 _ _).alloc (z13 _) _);exact⟨F.blk V id,z19 p _,S.far F (fun _ _ h=>h),F,by simp⟩
 clear c0 c1 S;rintro x ⟨hb,G,S,F,O⟩;have c0:x.cell? ⟨w,a,none⟩=some c:=(y' hb).trans h0;have c1:x.cell? ⟨w,a+1,none⟩=some f:=(y' hb).trans h1;have ay:x.frozen? ⟨w,a+1,none⟩=false:=by simp[World.frozen?,hb]
 have az:= @run_makeMap prog;have aA:∀y:World,(binOp .eql 168 (.map none) (.map none)).run prog y= .ok (.bool true) y:=fun y=>by kernel_rfl
 have aB:∀ (y:World) (m:Nat),(binOp .eql 168 (.map (some m)) (.map none)).run prog y= .ok (.bool false) y:=fun y m=>by kernel_rfl
 have ac:(x.alloc (.map #[] 0)).heap[w]? =some (.cells l j (0,0)):=(z25 x _ w (z14 hb)).trans hb;have aC:(x.alloc (.map #[] 0)).cell? ⟨w,a+1,none⟩=some f:=(y' ac).trans h1;have aD:(x.alloc (.map #[] 0)).frozen? ⟨w,a+1,none⟩=false:=by simp[World.frozen?,ac]
 rcases S.map with ⟨rfl,ad⟩|⟨Q,rfl,ad⟩;all_goals
  go_upto_region 3 with fail
  refine G' (fun y=>∃Q,y.heap[w]? =some (.cells (l.setIfInBounds (a+1) (.map (some Q))) j (0,0))/\y.heap[p.heap.size]? =some (.cells #[.string b] 235 (0,0))/\Jc y c (d.map (·.1))/\Xd y Q (al' d)/\
   Far (fun k=>k=w) p y/\p.heap.size < y.heap.size/\(be' av=some Q\/p.heap.size<=Q)) ?_ ?_
 ·refine⟨x.heap.size,aa' ac,(P' (by omega)).trans ((z25 x _ _ O).trans G),?_,?_,?_,?_, .inr (qg' O)⟩
  ·exact S.nums.keep (fun g J=>(P' (fun e=>S.ne hb aa (.inl (by rw[<-e];exact J)))).trans (z25 x _ g (z15 S.nums g J).2))
  ·rw[ad];exact(gi' x).keep (P' (by have:=z14 hb;omega))
  ·exact((F.mono (fun _ _ h=>h.elim)).trans (C' ((z11 _ x).alloc (z13 _) _)) (fun _ _ h=>h)).trans (Q' _ w (a+1) _) (fun _ _ h=>h)
  ·simp;omega
 rotate_left
 ·refine⟨Q,by rw[bs' h1];exact hb,G,S.nums,ad,F.mono (fun _ _ h=>h.elim),O, .inl (by rw[d' ab];rfl)⟩
 all_goals
  have hs:=m' S.sorted;clear c0 c1 ac aC aD ay G S ad hb O az aA aB F ax;rintro y ⟨H,hb,G,N,I,ap,O,aE⟩;have aF:a < l.size:=(z21.1 h0).1;have ak:a+1 < l.size:=(z21.1 h1).1;have a0:(l.setIfInBounds (a+1) (.map (some H)))[a]? =some c:=by rw[z16 (by omega)];exact h0
  have a1:(l.setIfInBounds (a+1) (.map (some H)))[a+1]? =some (.map (some H)):=by simp[ak]
  have c0:y.cell? ⟨w,a,none⟩=some c:=(y' hb).trans a0;have hk:=gl' (v:=eJ' b) (n:=n) (d' hs);have M:=cM' N (d' hs) (by simp;omega) n;have ao:(d.map (·.1)).countP (· < n)<=(d.map (·.1)).length:=z89;have aG:(d.map (·.1)).length < 1000:=by simpa using hl
  generalize (d.map (·.1)).countP (· < n)=k at hk M ao;generalize (d.map (·.1)).contains n=aH at hk M;generalize d.map (·.1)=ns at hk M ao N aG;replace hk:=m' hk;replace M:=m' M;cases aH
  case' false=>
   go_upto_region 4 with (go_at_call 132;refine(d' M).mono ?_;rintro e aI ⟨rfl,q,rfl⟩)
   go_upto_region 6 with fail
   refine(fe' (w:=(y.drewN q).alloc (.cells #[.int .i64 n] 3)) (ns:=ns) (N.keep (fun g J=>z25 (y.drewN q) _ g (z15 N g J).2)) (by omega) k n y.heap.size ao (z19 (y.drewN q) _) (fun e=>by have:=(z15 N _ e).2;omega)).mono ?_;rintro e z ⟨nv',rfl,ah,ai,aJ⟩;have aj:=ai.blk ((z25 (y.drewN q) _ w (z14 hb)).trans hb) (fun e=>(Qi.Qv N).ne hb (fun e=>aa e.symm) e);have aK:=ai.blk ((z25 (y.drewN q) _ _ O).trans G) (fun e=>(Qi.Qv N).ne G (by decide) e);have aW:=(y' aj).trans a0;have aX:z.frozen? ⟨w,a,none⟩=false:=(by simp[World.frozen?,aj]);obtain⟨aL,Y⟩:=exq (ns.take k++n::ns.drop k);rw[<-Y]at ah;obtain⟨g',aM,rfl⟩:=aJ' ah (by rw[Y];simp only[List.length_append,List.length_cons];omega);replace Y:=m' Y;go_upto_region 6 with fail
  case' true=>
   go_upto_region 4 with (go_at_call 132;refine(d' M).mono ?_;rintro e aI ⟨rfl,q,rfl⟩)
   go_upto_region 6 with fail
  all_goals
   refine G' (fun z=>∃nv',z.heap[w]? =some (.cells ((l.setIfInBounds a nv').setIfInBounds (a+1) (.map (some H))) j (0,0))/\z.heap[p.heap.size]? =some (.cells #[.string b] 235 (0,0))/\Jc z nv' ((br' d n (eJ' b)).map (·.1))/\Xd z H (al' d)/\
    Far (fun k=>k=w\/c.ownBlock=some k) p z/\Loc p c nv') ?_ ?_
  ·have Z:=d' hk;simp only[if_true]at Z;refine⟨c,?_,G,by rw[Z];exact N,I,(ap.mono (fun _ _ h=> .inl h)).trans (aw' _ y q) (fun _ _ h=>h), .inr (.inl rfl)⟩;rw[bs' h0];exact hb
  rotate_left
  ·have aN:c.ownBlock≠some H:=N.Vd I;have aO:∀g,(Value.slice (some ⟨g',0,none⟩) aL.length aM).ownBlock=some g->g≠w:=fun g J e=>(Qi.Qv ah).ne aj (fun e=>aa e.symm) (by rw[J,e]);have Z:=d' hk;simp only[Bool.false_eq_true,if_false]at Z;have aq:Far (fun _=>False) y ((y.drewN q).alloc (.cells #[.int .i64 n] 3)):=(aw' (fun _=>False) y q).trans (C' ((z11 _ _).alloc (z13 _) _)) (fun _ _ h=>h);have aP:Far (fun b=>b=w\/c.ownBlock=some b) p z:=(ap.mono (fun _ _ h=> .inl h)).trans ((aq.mono (fun _ _ h=>h.elim)).trans ai (fun _ _ h=>h)) (fun _ _ h=> .inr h);refine⟨_,?_,(P' (by have:=z14 V;omega)).trans aK,?_,?_,aP.trans (Q' z w a _) (fun _ _ h=> .inl h),bT' aJ (by simp;omega)⟩
   ·rw[set_comm _ _ (show a≠a+1 by omega)];exact aa' aj
   ·rw[Z,<-d' Y];exact ah.keep (fun g J=>P' (aO g J))
   ·exact I.keep ((P' (fun e=>I.Qy (by rw[e];exact hb))).trans ((ai.rest _ (by have:=I.lt;simp;omega) aN).trans (aq.rest _ I.lt id)))
  all_goals
   rintro z ⟨nv',hb,G,aQ,I,F,aR⟩;obtain⟨au,aS,aT⟩:=dQ' (P:=prog) (w:=z) (t:=168) underlying168 underlying3 I n (eJ' b);have aU:=aS z.drew rfl;unfold eJ' at aU;have c1:z.cell? ⟨w,a+1,none⟩=some (.map (some H)):=(y' hb).trans (by simp[ak]);have aV:=y' (i:=0) G;simp at aV;go_region;refine z77 (z65 rfl _ _ _) rfl ⟨rfl,?_⟩;exact kg' (v:=eJ' b) (W:={z.drew with heap:=z.drew.heap.setIfInBounds H au}) aF ak hb aa aQ I F aR aE aT ((aw' _ z 1).trans (ci' H au) (fun _ _ h=>h)) (d' hs) hl
theorem sG' (S:eR' p w a j l c f d):
  Calls prog 203 #[.pointer (some ⟨w,a,none⟩)] p fun e w'=>e= .returned (.tuple #[])/\cq' p w' w a j l c f []:=by
 obtain⟨I,h0,h1,S,Q⟩:=S;have aa:a < l.size:=(z21.1 h0).1;have ab:a+1 < l.size:=(z21.1 h1).1;obtain⟨J,F⟩:=exq (f);rw[<-F];replace F:=m' F;have c1:p.cell? ⟨w,a+1,none⟩=some f:=(y' I).trans h1;have ah:=S.nums.cases;have G:(f= .map none/\∀ty,(Builtin.clear_ #[168] ty #[.map none]).run prog p= .ok (.tuple #[]) p)\/
   ∃b a,f= .map (some b)/\b≠w/\c.ownBlock≠some b/\(∀ty,(Builtin.clear_ #[168] ty #[.map (some b)]).run prog p= .ok (.tuple #[]) {p with heap:=p.heap.setIfInBounds b a})/\Xd {p with heap:=p.heap.setIfInBounds b a} b (fun _=>none):=by
  rcases S.map with ⟨rfl,G⟩|⟨M,rfl,G⟩
  ·exact .inl ⟨rfl,fun ty=>fM' underlying168⟩
  ·obtain⟨V,ai,Y⟩:=fL' (P:=prog) (w:=p) (t:=168) underlying168 G;exact .inr ⟨M,V,rfl,fun e=>G.Qy (by rw[e];exact I),S.nums.Vd G,fun ty=>ai ty p rfl,Y⟩
 rcases G with ⟨rfl,aj⟩|⟨M,V,rfl,ak,ao,aj,Y⟩;all_goals
  go_enter func203,ntmps203;go_upto_region 1 with fail;refine G' (fun x=>x.heap[w]? =some (.cells l j (0,0))/\Jc x c (d.map (·.1))/\jU' x J (al' [])/\Far (fun k=>k=w\/ShU c J k) p x) ?_ ?_
 ·exact⟨I,S.nums,by rw[d' F];exact .inl ⟨rfl,ek'⟩,Far.refl _ _⟩
 rotate_left
 ·have H:=ci' (w:=p) M V;refine⟨H.blk I (fun e=>ak e.symm),S.nums.keep (fun g ac=>H.rest g (z15 S.nums g ac).2 (fun e=>ao (by rw[ac,e]))),by rw[d' F];exact .inr ⟨M,rfl,by rw[ek'];exact Y⟩,H.mono (fun k _ e=> .inr (.inr (by rw[d' F,e];rfl)))⟩
 all_goals
  clear S;rintro x ⟨hb,N,O,H⟩;have c0:x.cell? ⟨w,a,none⟩=some c:=(y' hb).trans h0;have f0:x.frozen? ⟨w,a,none⟩=false:=by simp[World.frozen?,hb]
  rcases ah with ⟨rfl,_⟩|⟨g,cap,ax,rfl,ay,hn,ap,az,aA⟩
  ·go_wp2;refine z77 (z65 rfl _ _ _) rfl ⟨rfl,?_⟩;refine⟨⟨_,J,⟨?_,?_,?_,⟨cb' _,O.keep (fun b z=>P' (fun e=>?_)),by simp,by simp⟩,Q⟩, .inr (.inl rfl), .inl rfl⟩,H.trans (Q' x w a _) (fun _ _ h=> .inl h)⟩
   ·have:=aa' (j:=a) (v:= .slice none 0 0) hb;rw[bs' (i:=a+1)]
    ·exact this
    ·rw[z16 (by omega),h1,d' F]
   ·rw[z16 (by omega)];simp[aa]
   ·simp[ab]
   ·rcases O with ⟨h,_⟩|⟨aq,h,Z⟩
    ·rw[h]at z;cases z
    ·rw[h]at z;cases z;exact Z.Qy (by rw[e];exact hb)
  ·go_wp2;refine z77 (z65 rfl _ _ _) rfl ⟨rfl,?_⟩;rcases N.cases with ⟨h,_⟩|⟨g',aB,aC,h,ad,aD,aE,au,aF⟩
   ·cases h
   ·injection h with h _ h3;injection h with h;injection h with h;subst h h3;have av:g≠w:=fun e=>by subst e;rw[ad]at hb;injection hb with hb;injection hb with _ hb _;exact Q hb.symm
    refine⟨⟨_,J,⟨?_,?_,?_,⟨gj' (ns:=[]) ((P' av).trans ad) (z54 _) ap au rfl,O.keep (fun b z=>P' (fun e=>?_)),by simp,by simp⟩,Q⟩, .inr (.inl rfl), .inl rfl⟩,H.trans (Q' x w a _) (fun _ _ h=> .inl h)⟩
    ·rw[bs' (i:=a+1)]
     ·exact aa' (j:=a) hb
     ·rw[z16 (by omega),h1,d' F]
    ·rw[z16 (by omega)];simp[aa]
    ·simp[ab]
    ·rcases O with ⟨h,_⟩|⟨aq,h,Z⟩
     ·rw[h]at z;cases z
     ·rw[h]at z;cases z;exact Z.Qy (by rw[e];exact hb)
def cl' (l:List (Nat×Value)) (q:Nat):Nat->Nat
 |0=>0
 |j+1=>cl' l q j+if(al' l ((q+2+j:Nat):Int)).isSome=true then 2 ^ j else 0
theorem qp' (l:List (Nat×Value)) (q:Nat):∀j,cl' l q j < 2 ^ j
 |0=>by simp[cl']
 |j+1=>by
  have:=qp' l q j;unfold cl';split
  ·rw[Nat.pow_succ];omega
  ·rw[Nat.pow_succ];omega
theorem or0:bits BinOp.or IntKind.u8 0 1=1:=by decide+kernel
theorem or1:∀x:Fin 2,bits BinOp.or IntKind.u8 ((x.val:Nat):Int) 2=((x.val+2:Nat):Int):=by decide+kernel
theorem or2:∀x:Fin 4,bits BinOp.or IntKind.u8 ((x.val:Nat):Int) 4=((x.val+4:Nat):Int):=by decide+kernel
theorem qq' (S:eR' p w a j l c f d) (A:gO' d) (q:Nat) (aq:q<=1000000000):
  Calls prog 164 #[.int .i64 q, .func (.func 165) #[.pointer (some ⟨w,a,none⟩)] #[]] p fun e w'=>e= .returned (.string ⟨#[UInt8.ofNat (cl' d q 3)]⟩)/\Below p.heap.size p w':=by
 have ao:=m' S;have ai:=fun k (hk:ShU c f k)=>S.sh.lt k hk;have ap:=z14 S.blk;go_enter func164,ntmps164;go_wp2;go_loopw[5,6,7] (fun v5 _ i wr=>∃J:Nat,J<=3/\i= .int .i64 J/\v5= .int .u8 (cl' d q J:Nat)/\Below p.heap.size p wr) (fun _ _ i _=>3 - (intOf i).toNat)
 case atStart=>exact⟨0,by omega,rfl,rfl,z11 _ _⟩
 case round=>
  obtain⟨J,hj,rfl,rfl,hb⟩:=hrel;have aa:eR' wr w a j l c f d:=by have Z:=d' ao;exact⟨(hb.block w ap).trans Z.blk,Z.c0,Z.c1,Z.sh.keep (fun g ab=>hb.block g (ai g (.inl ab))) (fun g ab=>hb.block g (ai g (.inr ab))),Z.ty⟩
  have ac:=fun k:Int=>m' (le' aa.blk aa.c1 aa.sh A k);have O:=m' hb;have Q:=hb.size;clear hb aa;have V:=fun y=>dA' q (by omega) y;have ad:=qp' d q J;rcases(show J=0\/J=1\/J=2\/J=3 by omega)with rfl|rfl|rfl|rfl
  ·have aj:IntKind.i64.wrap ((q:Int)+2+0)=(q:Int)+2+0:=(by rw[z36];omega);have F:=ac ((q:Int)+2);have G:Hid (cl' d q (0+1)=cl' d q 0+if(al' d ((q:Int)+2)).isSome=true then 2 ^ 0 else 0):=rfl;generalize Y:cl' d q 0=x at *;have ak:=or0;obtain rfl:x=0:=(by omega);cases M:(al' d ((q:Int)+2)).isSome
   ·rw[M]at F G;go_upto_region 6 with (first|(go_at_call 202;refine(V _).mono ?_;rintro e y ⟨rfl,rfl⟩)|(go_at_call 165;refine(d' F).mono ?_;rintro e H ⟨rfl,z⟩;have I:=m' ((d' O).trans (z.mono Q));clear z));exact⟨⟨0+1,by omega,by go_num,by rw[d' G];simp,d' I⟩,by simp[intOf]⟩
   ·rw[M]at F G;go_upto_region 6 with (first|(go_at_call 202;refine(V _).mono ?_;rintro e y ⟨rfl,rfl⟩)|(go_at_call 165;refine(d' F).mono ?_;rintro e H ⟨rfl,z⟩;have I:=m' ((d' O).trans (z.mono Q));clear z));go_wp2;exact⟨⟨0+1,by omega,by go_num,by rw[d' G];simp,d' I⟩,by simp[intOf]⟩
  ·have aj:IntKind.i64.wrap ((q:Int)+2+1)=(q:Int)+2+1:=(by rw[z36];omega);have F:=ac ((q:Int)+2+1);have G:Hid (cl' d q (1+1)=cl' d q 1+if(al' d ((q:Int)+2+1)).isSome=true then 2 ^ 1 else 0):=rfl;generalize Y:cl' d q 1=x at *;have ak:=or1 ⟨x,ad⟩;replace Y:=m' Y;cases M:(al' d ((q:Int)+2+1)).isSome
   ·rw[M]at F G;go_upto_region 6 with (first|(go_at_call 202;refine(V _).mono ?_;rintro e y ⟨rfl,rfl⟩)|(go_at_call 165;refine(d' F).mono ?_;rintro e H ⟨rfl,z⟩;have I:=m' ((d' O).trans (z.mono Q));clear z));exact⟨⟨1+1,by omega,by go_num,by rw[d' G];simp,d' I⟩,by simp[intOf]⟩
   ·rw[M]at F G;go_upto_region 6 with (first|(go_at_call 202;refine(V _).mono ?_;rintro e y ⟨rfl,rfl⟩)|(go_at_call 165;refine(d' F).mono ?_;rintro e H ⟨rfl,z⟩;have I:=m' ((d' O).trans (z.mono Q));clear z));go_wp2;exact⟨⟨1+1,by omega,by go_num,by rw[d' G];simp,d' I⟩,by simp[intOf]⟩
  ·have aj:IntKind.i64.wrap ((q:Int)+2+2)=(q:Int)+2+2:=(by rw[z36];omega);have F:=ac ((q:Int)+2+2);have G:Hid (cl' d q (2+1)=cl' d q 2+if(al' d ((q:Int)+2+2)).isSome=true then 2 ^ 2 else 0):=rfl;generalize Y:cl' d q 2=x at *;have ak:=or2 ⟨x,ad⟩;replace Y:=m' Y;cases M:(al' d ((q:Int)+2+2)).isSome
   ·rw[M]at F G;go_upto_region 6 with (first|(go_at_call 202;refine(V _).mono ?_;rintro e y ⟨rfl,rfl⟩)|(go_at_call 165;refine(d' F).mono ?_;rintro e H ⟨rfl,z⟩;have I:=m' ((d' O).trans (z.mono Q));clear z));exact⟨⟨2+1,by omega,by go_num,by rw[d' G];simp,d' I⟩,by simp[intOf]⟩
   ·rw[M]at F G;go_upto_region 6 with (first|(go_at_call 202;refine(V _).mono ?_;rintro e y ⟨rfl,rfl⟩)|(go_at_call 165;refine(d' F).mono ?_;rintro e H ⟨rfl,z⟩;have I:=m' ((d' O).trans (z.mono Q));clear z));go_wp2;exact⟨⟨2+1,by omega,by go_num,by rw[d' G];simp,d' I⟩,by simp[intOf]⟩
  ·have au:cl' d q 3 < 8:=ad;have av:∀H:World,(convert 44 9 (.slice (some ⟨H.heap.size,0,none⟩) 1 1)).run prog (H.alloc (.cells #[.int .u8 (cl' d q 3:Nat)] 5))= .ok (.string ⟨#[UInt8.ofNat (cl' d q 3)]⟩) (H.alloc (.cells #[.int .u8 (cl' d q 3:Nat)] 5)):=fun H=>
    ec' (l:=[UInt8.ofNat (cl' d q 3)]) (b:=H.heap.size) (off:=0) (n:=1) (cap:=1) rfl (fun i hi=>by obtain rfl:i=0:=(by omega);rw[y' (z19 H _)];simp;omega)
   generalize ah:cl' d q 3=x at *;replace ah:=m' ah;go_wp2;go_ret;exact⟨(congrArg (fun x=>Ending.returned (Value.string ⟨#[UInt8.ofNat x]⟩)) (d' ah)).symm,((d' O).alloc Q _)⟩
theorem jY' (a b c:Nat) (ak:a < 4294967296) (hb:b < 4294967296) (ao:c < 4294967296) (w:World):
  Calls prog 162 #[.agg #[.int .i64 a, .int .i64 b, .int .i64 c]] w fun e w'=>e= .returned (.string ⟨(Qb.le4 a++Qb.le4 b++Qb.le4 c).toArray⟩)/\Below w.heap.size w w':=by
 have ap:∀y:World,(Instr.index 98 (.agg #[.int .i64 a, .int .i64 b, .int .i64 c]) (.int .i64 0)).run prog y= .ok (.int .i64 a) y:=fun y=>by kernel_rfl
 have aq:∀y:World,(Instr.index 98 (.agg #[.int .i64 a, .int .i64 b, .int .i64 c]) (.int .i64 1)).run prog y= .ok (.int .i64 b) y:=fun y=>by kernel_rfl
 have au:∀y:World,(Instr.index 98 (.agg #[.int .i64 a, .int .i64 b, .int .i64 c]) (.int .i64 2)).run prog y= .ok (.int .i64 c) y:=fun y=>by kernel_rfl
 have hl:∀n:Int,(Qb.le4 n).length=4:=fun n=>Qb.Qw n;go_enter func162,ntmps162;go_upto_region 2 with fail;refine G' (fun x=>x.cell? ⟨w.heap.size,0,none⟩=some (.int .i64 a)/\x.cell? ⟨w.heap.size,1,none⟩=some (.int .i64 b)/\x.cell? ⟨w.heap.size,2,none⟩=some (.int .i64 c)/\Below w.heap.size w x/\w.heap.size < x.heap.size) ?_ ?_
 ·have:=z19 w (.cells #[.int .i64 a, .int .i64 b, .int .i64 c] 98);exact⟨y' this,y' this,y' this,(z11 _ _).alloc (z13 _) _,by simp⟩
 rintro x ⟨c0,c1,c2,ai,aj⟩;go_wp2;go_loopw[3,5,7] (fun v _ i wr=>∃j:Nat,j<=3/\i= .int .i64 j/\Qt (w.heap.size+1) wr v ((Qb.le4 a++Qb.le4 b++Qb.le4 c).take (4 * j))/\Below w.heap.size w wr/\w.heap.size < wr.heap.size) (fun _ _ i _=>3 - (intOf i).toNat)
 case atStart=>exact⟨0,by omega,rfl,gY' _ _,ai,aj⟩
 case round=>
  obtain⟨j,hj,rfl,ab,ac,Z⟩:=hrel;have G:=m' ab;have V:=m' ac;clear ab ac;rcases(show j=0\/j=1\/j=2\/j=3 by omega)with rfl|rfl|rfl|rfl
  ·have I:=m' (show(Qb.le4 a++Qb.le4 b++Qb.le4 c).take (4 * (0+1))=(Qb.le4 a++Qb.le4 b++Qb.le4 c).take (4 * 0)++Qb.le4 a by simp[Qb.le4]);go_upto_region 6 with (go_at_call 135;refine(aE' (w.heap.size+1) (a:Int) u3 _ wr (by simp only[List.length_take,List.length_append,hl];omega) (by omega) (by omega) (d' G)).mono ?_;rintro r J ⟨v',rfl,H,z⟩;have F:Below (w.heap.size+1) wr J:=Y' z (by omega) (fun g z=>((d' G).lt g z).1);have M:=m' H;have O:=m' ((d' V).trans (F.mono (by omega)));have Q:=z20 Z F.size;clear H z F);go_wp2;exact⟨⟨0+1,by omega,by go_num,by rw[d' I];exact d' M,d' O,Q⟩,by simp[intOf]⟩
  ·have I:=m' (show(Qb.le4 a++Qb.le4 b++Qb.le4 c).take (4 * (1+1))=(Qb.le4 a++Qb.le4 b++Qb.le4 c).take (4 * 1)++Qb.le4 b by simp[Qb.le4]);go_upto_region 6 with (go_at_call 135;refine(aE' (w.heap.size+1) (b:Int) u3 _ wr (by simp only[List.length_take,List.length_append,hl];omega) (by omega) (by omega) (d' G)).mono ?_;rintro r J ⟨v',rfl,H,z⟩;have F:Below (w.heap.size+1) wr J:=Y' z (by omega) (fun g z=>((d' G).lt g z).1);have M:=m' H;have O:=m' ((d' V).trans (F.mono (by omega)));have Q:=z20 Z F.size;clear H z F);go_wp2;exact⟨⟨1+1,by omega,by go_num,by rw[d' I];exact d' M,d' O,Q⟩,by simp[intOf]⟩
  ·have I:=m' (show(Qb.le4 a++Qb.le4 b++Qb.le4 c).take (4 * (2+1))=(Qb.le4 a++Qb.le4 b++Qb.le4 c).take (4 * 2)++Qb.le4 c by simp[Qb.le4]);go_upto_region 6 with (go_at_call 135;refine(aE' (w.heap.size+1) (c:Int) u3 _ wr (by simp only[List.length_take,List.length_append,hl];omega) (by omega) (by omega) (d' G)).mono ?_;rintro r J ⟨v',rfl,H,z⟩;have F:Below (w.heap.size+1) wr J:=Y' z (by omega) (fun g z=>((d' G).lt g z).1);have M:=m' H;have O:=m' ((d' V).trans (F.mono (by omega)));have Q:=z20 Z F.size;clear H z F);go_wp2;exact⟨⟨2+1,by omega,by go_num,by rw[d' I];exact d' M,d' O,Q⟩,by simp[intOf]⟩
  ·have Y:(Qb.le4 a++Qb.le4 b++Qb.le4 c).length=12:=(by simp[hl]);rw[z46 (by rw[Y];omega)]at G;have ad:=(d' G).addr (by rw[Y];omega);rw[Y]at ad;obtain⟨g,cap,rfl,av,ax,ay,az,ah⟩:=ad;have aA:=ec' (w:=wr) (b:=g) (off:=0) (cap:=cap) Y ah;generalize aa:Qb.le4 a++Qb.le4 b++Qb.le4 c=fr at *;replace aa:=m' aa;clear ah G;go_wp2;go_ret;exact⟨(congrArg (fun x:List UInt8=>Ending.returned (Value.string ⟨x.toArray⟩)) (d' aa)).symm,d' V⟩
structure Yq (w:World) (p:Nat) (e:Nat) (Qc:Nat->List z10) (sh:Nat->List (Nat×Value)) (arr:Array Value) (s:Nat) (lv nv mv:Nat->Value) (rv:Value):Prop where
 blk:w.heap[p]? =some (.cells arr 176 (0,0))
 sz:arr.size=12
 a0:arr[0]? =some (D' s)
 a1:arr[1]? =some (.int .i64 e)
 al:∀i,i < 3->arr[2+i * 3]? =some (lv i)
 an:∀i,i < 3->arr[2+i * 3+1]? =some (nv i)
 am:∀i,i < 3->arr[2+i * 3+2]? =some (mv i)
 ar:arr[11]? =some rv
 lgs:∀i,i < 3->Qi w 9 1 (lv i) (Qc i).length (ao' (Qc i))
 shs:∀i,i < 3->Jb w (nv i) (mv i) (sh i)
 are:∀i,i < 3->gO' (sh i)
 apl:∀i j,i < 3->j < 3->i≠j->∀g,(lv i).ownBlock=some g->(lv j).ownBlock≠some g
 aps:∀i j,i < 3->j < 3->i≠j->∀k,ShU (nv i) (mv i) k->¬ShU (nv j) (mv j) k
 cnt:(Qc 0).length+(Qc 1).length+(Qc 2).length<=120
 ep:e<=2147483647
def KsU (p:Nat) (lv nv mv:Nat->Value) (k:Nat):Prop:=k=p\/(∃i,i < 3/\(lv i).ownBlock=some k)\/∃i,i < 3/\ShU (nv i) (mv i) k
section
variable {w x:World} {p e s:Nat} {Qc:Nat->List z10} {sh:Nat->List (Nat×Value)} {arr:Array Value} {lv nv mv:Nat->Value} {rv:Value}
theorem Yq.far {E:Nat->Prop} (h:Yq w p e Qc sh arr s lv nv mv rv) (z:Far E w x) (F:∀k,KsU p lv nv mv k->¬E k):Yq x p e Qc sh arr s lv nv mv rv:=
 ⟨z.blk h.blk (F p (.inl rfl)),h.sz,h.a0,h.a1,h.al,h.an,h.am,h.ar,fun i hi=>(h.lgs i hi).far z (fun g G=>F g (.inr (.inl ⟨i,hi,G⟩))),fun i hi=>(h.shs i hi).far z (fun k hk=>F k (.inr (.inr ⟨i,hi,hk⟩))),h.are,h.apl,h.aps,h.cnt,h.ep⟩
theorem Yq.lt (h:Yq w p e Qc sh arr s lv nv mv rv):∀k,KsU p lv nv mv k->k < w.heap.size:=by
 rintro k (rfl|⟨i,hi,hk⟩|⟨i,hi,hk⟩)
 ·exact z14 h.blk
 ·exact(h.lgs i hi).lt k hk
 ·exact(h.shs i hi).lt k hk
theorem Yq.logc (h:Yq w p e Qc sh arr s lv nv mv rv) {i:Nat} (hi:i < 3):∃z cap,lv i= .slice z (Qc i).length cap/\w.cell? ⟨p,2+i * 3,none⟩=some (.slice z (Qc i).length cap):=by
 obtain⟨z,cap,e,_⟩:=(h.lgs i hi).shape;exact⟨z,cap,e,by rw[y' h.blk,h.al i hi,e]⟩
theorem Yq.Vb (h:Yq w p e Qc sh arr s lv nv mv rv) {i:Nat} (hi:i < 3):(Qc i).length<=120:=by
 have:=h.cnt;obtain rfl|rfl|rfl:i=0\/i=1\/i=2:=by omega
 all_goals omega
end
theorem bG' (w:World) (p o n cap:Nat) (z:Option Addr) (F:w.cell? ⟨p,o,none⟩=some (.slice z n cap)):
  Calls prog 161 #[.pointer (some ⟨p,o,none⟩)] w fun r w'=>r= .returned (.int .i64 n)/\w'=w:=by
 go_enter func161,ntmps161;go_wp2;go_ret;exact⟨rfl,rfl⟩
theorem dS' (w:World) (p o n cap:Nat) (z:Option Addr) (F:w.cell? ⟨p,o,none⟩=some (.slice z n cap)) (hn:n<=1000):
  Calls prog 158 #[.pointer (some ⟨p,o,none⟩)] w fun r w'=>r= .returned (.int .i64 (n+1:Nat))/\w'=w:=by
 have G:=m' (bG' w p o n cap z F);have H:IntKind.i64.wrap ((n:Int)+1)=(n:Int)+1:=by rw[z36];omega
 clear F;go_enter func158,ntmps158;go_wp2_with (go_at_call 161;refine(d' G).mono ?_;rintro r y ⟨rfl,rfl⟩);go_ret;exact⟨by simp,rfl⟩
theorem eK' {w:World} {p e s:Nat} {Qc:Nat->List z10} {sh:Nat->List (Nat×Value)} {arr:Array Value} {lv nv mv:Nat->Value} {rv:Value} (z:Yq w p e Qc sh arr s lv nv mv rv):
  Calls prog 157 #[D' p] w fun r w'=>r= .returned (.int .i64 ((Qc 0).length+(Qc 1).length+(Qc 2).length:Nat))/\w'=w:=by
 obtain⟨a0,k0,_,c0⟩:=z.logc (i:=0) (by omega);obtain⟨a1,k1,_,c1⟩:=z.logc (i:=1) (by omega);obtain⟨a2,k2,_,c2⟩:=z.logc (i:=2) (by omega);have J:=z.cnt;have G:=m' (bG' w p 2 _ k0 a0 c0);have H:=m' (bG' w p 5 _ k1 a1 c1);have I:=m' (bG' w p 8 _ k2 a2 c2);generalize (Qc 0).length=n0 at *;generalize (Qc 1).length=n1 at *;generalize (Qc 2).length=n2 at *;clear z c0 c1 c2;unfold D';go_enter func157,ntmps157;go_wp2;go_loopw[3,4,5] (fun v _ i wr=>∃j:Nat,j<=3/\i= .int .i64 j/\v= .int .i64 (if j=0 then 0 else if j=1 then n0 else if j=2 then n0+n1 else n0+n1+n2:Nat)/\wr=w) (fun _ _ i _=>3 - (intOf i).toNat)
 case atStart=>exact⟨0,by omega,rfl,rfl,rfl⟩
 case round=>
  obtain⟨j,hj,rfl,rfl,rfl⟩:=hrel;rcases(show j=0\/j=1\/j=2\/j=3 by omega)with rfl|rfl|rfl|rfl
  ·have F:IntKind.i64.wrap (n0:Int)=(n0:Int):=(by rw[z36];omega);go_wp2_with (go_at_call 161;refine(d' G).mono ?_;rintro r y ⟨rfl,rfl⟩);exact⟨⟨1,by omega,by go_num,by simp,by first|rfl|trivial⟩,by simp[intOf]⟩
  ·have F:IntKind.i64.wrap ((n0:Int)+(n1:Int))=(n0:Int)+(n1:Int):=(by rw[z36];omega);go_wp2_with (go_at_call 161;refine(d' H).mono ?_;rintro r y ⟨rfl,rfl⟩);exact⟨⟨2,by omega,by go_num,by simp,by first|rfl|trivial⟩,by simp[intOf]⟩
  ·have F:IntKind.i64.wrap ((n0:Int)+(n1:Int)+(n2:Int))=(n0:Int)+(n1:Int)+(n2:Int):=(by rw[z36];omega);go_wp2_with (go_at_call 161;refine(d' I).mono ?_;rintro r y ⟨rfl,rfl⟩);exact⟨⟨3,by omega,by go_num,by simp,by first|rfl|trivial⟩,by simp[intOf]⟩
  ·go_wp2;go_ret;exact⟨by simp,rfl⟩
variable{S:Nat -> List z10}{R:Nat -> List (Nat×Value)}{b z cA:Nat -> Value}
theorem jF' (F:Yq p w a S R l q b z cA c):
  Calls prog 204 #[D' w] p fun r w'=>r= .returned (.bool (decide ((S 0).length+(S 1).length+(S 2).length < 120)))/\w'=p:=by
 have G:=m' (eK' F);have I:=F.cnt;generalize (S 0).length+(S 1).length+(S 2).length=n at *;clear F;unfold D' at *;by_cases h:n < 120
 ·rw[z47 h];have H:(n:Int) < 120:=by omega
  go_enter func204,ntmps204;go_wp2_with (go_at_call 157;refine(d' G).mono ?_;rintro r y ⟨rfl,rfl⟩);go_ret;exact⟨by simp,rfl⟩
 ·rw[z52 h];have H:¬ (n:Int) < 120:=by omega
  go_enter func204,ntmps204;go_wp2_with (go_at_call 157;refine(d' G).mono ?_;rintro r y ⟨rfl,rfl⟩);go_ret;exact⟨by simp;omega,rfl⟩
structure Sv where
 arr:Array Value
 s:Nat
 dp:Nat
 lv:Nat->Value
 nv:Nat->Value
 mv:Nat->Value
 rv:Value
 dlv:Value
 duv:Value
def cI' (p:Nat):List Value:=[.int .i64 1, .func (.func 109) #[D' p] #[], .int .i64 3, .func (.func 110) #[D' p] #[]]
structure Jt (w:World) (p e:Nat) (Qc:Nat->List z10) (sh:Nat->List (Nat×Value)) (st:Mq.Stv) (c:Sv):Prop where
 ks:Yq w p e Qc sh c.arr c.s c.lv c.nv c.mv c.rv
 stt:Vf w c.s c.dp st c.dlv c.duv
 rl:Qi w 179 2 c.rv 2 (cI' p)
 len:st.dk.bytes.length=7808
def PkU (p:Nat) (c:Sv) (k:Nat):Prop:=KsU p c.lv c.nv c.mv k\/StU c.s c.dp c.dlv c.duv k\/c.rv.ownBlock=some k
section
variable {w x y:World} {p e:Nat} {Qc:Nat->List z10} {sh:Nat->List (Nat×Value)} {st:Mq.Stv} {c:Sv}
theorem Jt.lt (h:Jt w p e Qc sh st c):∀k,PkU p c k->k < w.heap.size:=by
 rintro k (hk|hk|hk)
 ·exact h.ks.lt k hk
 ·exact h.stt.lt k hk
 ·exact h.rl.lt k hk
theorem Jt.far {E:Nat->Prop} (h:Jt w p e Qc sh st c) (z:Far E w x) (F:∀k,PkU p c k->¬E k):Jt x p e Qc sh st c:=
 ⟨h.ks.far z (fun k hk=>F k (.inl hk)),h.stt.far z (fun k hk=>F k (.inr (.inl hk))),h.rl.far z (fun g G=>F g (.inr (.inr G))),h.len⟩
theorem cz' {arr:Array Value} {s:Nat} {lv nv mv:Nat->Value} {rv:Value} (h:Yq w p e Qc sh arr s lv nv mv rv) {q:Nat} {z:Array Value} {t:TypeId} {fr:Nat×Nat} (hb:w.heap[q]? =some (.cells z t fr)) (h1:t≠176) (h2:t≠9) (h3:t≠3):¬KsU p lv nv mv q:=by
 rintro(rfl|⟨i,hi,hk⟩|⟨i,hi,hk⟩)
 ·have:=h.blk;rw[hb]at this;injection this with this;injection this with _ this _;exact h1 this
 ·exact(h.lgs i hi).ne hb (fun e=>h2 e.symm) hk
 ·rcases hk with hk|hk
  ·exact(Qi.Qv (h.shs i hi).nums).ne hb (fun e=>h3 e.symm) hk
  ·rcases(h.shs i hi).map with ⟨e,_⟩|⟨b,e,F⟩
   ·rw[e]at hk;cases hk
   ·rw[e]at hk;cases hk;exact F.Qy hb
theorem cR' {F:TypeId} {size n:Nat} {v:Value} {xs:List Value} (h:Qi w F size v n xs) {g:Nat} (G:v.ownBlock=some g):∃z,w.heap[g]? =some (.cells z F (0,0)):=by
 obtain⟨_,h2⟩:=h;rcases h2 with ⟨rfl,_⟩|⟨g',o,cap,z,rfl,H,_⟩
 ·cases G
 ·cases G;exact⟨z,H⟩
theorem Jt.sep (h:Jt w p e Qc sh st c):∀k,KsU p c.lv c.nv c.mv k->¬StU c.s c.dp c.dlv c.duv k:=by
 rintro k hk (hs|hs|hs|hs)
 ·subst hs;exact cz' h.ks h.stt.blk (by decide) (by decide) (by decide) hk
 ·subst hs;exact cz' h.ks h.stt.dk.blk (by decide) (by decide) (by decide) hk
 ·obtain⟨F,z⟩:=cR' (Qi.Qv h.stt.dk.row) hs;exact cz' h.ks z (by decide) (by decide) (by decide) hk
 ·obtain⟨F,z⟩:=cR' h.stt.dk.un hs;exact cz' h.ks z (by decide) (by decide) (by decide) hk
theorem Jt.sepr (h:Jt w p e Qc sh st c):∀k,c.rv.ownBlock=some k->¬KsU p c.lv c.nv c.mv k/\¬StU c.s c.dp c.dlv c.duv k:=by
 intro k hk;obtain⟨F,z⟩:=cR' h.rl hk;refine⟨cz' h.ks z (by decide) (by decide) (by decide),?_⟩;rintro(hs|hs)
 ·rw[hs,h.stt.blk]at z;injection z with z;injection z with _ z _;exact absurd z (by decide)
 ·exact ey' h.stt.dk z (by decide) (by decide) (by decide) hs
end
def Xf (w x:World) (p e:Nat) (Qc:Nat->List z10) (sh:Nat->List (Nat×Value)) (st:Mq.Stv) (c:Sv):Prop:=
 ∃z,Jt x p e Qc sh st z/\Far (PkU p c) w x/\(∀k,PkU p z k->PkU p c k\/w.heap.size<=k)/\z.s=c.s/\z.rv=c.rv
theorem qr' (h:Yq p w a S R l q b z cA c) (i:Nat) (hi:i < 3) (V:z10) (v':Value)
  (hF:Far (fun k=>(b i).ownBlock=some k) p u) (Y:Qi u 9 1 v' ((S i).length+1) (ao' (S i++[V]))) (hl:Loc p (b i) v') (Z:(S 0).length+(S 1).length+(S 2).length < 120):
  Yq (u.setCell ⟨w,2+i * 3,none⟩ v') w a (fun j=>if j=i then S i++[V]else S j) R (l.setIfInBounds (2+i * 3) v') q (fun j=>if j=i then v' else b j) z cA c:=by
 have aa:∀j,j < 3->(b j).ownBlock≠some w:=fun j hj=>(h.lgs j hj).ne h.blk (by decide);have ab:=hF.blk h.blk (aa i hi);have hs:=Q' u w (2+i * 3) v';have ac:Far (fun k=>k=w\/(b i).ownBlock=some k) p (u.setCell ⟨w,2+i * 3,none⟩ v'):=(hF.mono (fun _ _ h=> .inr h)).trans hs (fun _ _ h=> .inl h);have ah:v'.ownBlock≠some w:=Y.ne ab (by decide);have H:∀j,j≠2+i * 3->(l.setIfInBounds (2+i * 3) v')[j]? =l[j]? :=fun j hj=>z16 (fun a=>hj a.symm);refine⟨aa' ab,by simpa using h.sz,?_,?_,?_,?_,?_,?_,?_,?_,h.are,?_,h.aps,?_,h.ep⟩
 ·rw[H _ (by omega)];exact h.a0
 ·rw[H _ (by omega)];exact h.a1
 ·intro j hj;by_cases I:j=i
  ·subst I;have ai:2+j * 3 < l.size:=by rw[h.sz];omega
   simp[ai]
  ·rw[if_neg I,H _ (by omega)];exact h.al j hj
 ·intro j hj;rw[H _ (by omega)];exact h.an j hj
 ·intro j hj;rw[H _ (by omega)];exact h.am j hj
 ·rw[H _ (by omega)];exact h.ar
 ·intro j hj;by_cases I:j=i
  ·subst I;have:=Y.far hs (fun g F a=>ah (by rw[F,a]));simpa using this
  ·simp only[if_neg I];exact(h.lgs j hj).far ac (fun g F a=>a.elim (fun a=>aa j hj (by rw[F,a])) (fun a=>h.apl j i hj hi I g F a))
 ·intro j hj;refine(h.shs j hj).far ac (fun k hk a=>?_);have Z:∃ad t,p.heap[k]? =some (.cells ad t (0,0))/\t≠3:=by
   rcases a with rfl|a
   ·exact⟨_,_,h.blk,by decide⟩
   ·obtain⟨ap,Q⟩:=cR' (h.lgs i hi) a;exact⟨_,_,Q,by decide⟩
  obtain⟨ad,t,Q,aj⟩:=Z;exact(h.shs j hj).ne Q aj hk
 ·intro j J hj M O g F;by_cases h1:j=i
  ·subst h1;rw[if_pos rfl]at F;rw[if_neg (fun a=>O a.symm)];intro G;rcases hl with hl|hl|⟨ak,hl,ao⟩
   ·rw[hl]at F;cases F
   ·rw[hl]at F;exact h.apl j J hj M O g F G
   ·rw[hl]at F;cases F;have:=(h.lgs J M).lt g G;omega
  ·rw[if_neg h1]at F;by_cases h2:J=i
   ·subst h2;rw[if_pos rfl];intro G;rcases hl with hl|hl|⟨ak,hl,ao⟩
    ·rw[hl]at G;cases G
    ·rw[hl]at G;exact h.apl j J hj M O g F G
    ·rw[hl]at G;cases G;have:=(h.lgs j hj).lt g F;omega
   ·rw[if_neg h2];exact h.apl j J hj M O g F
 ·obtain rfl|rfl|rfl:i=0\/i=1\/i=2:=by omega
  all_goals
   simp;omega
variable{L:Sv}
theorem sH' (F:Jt p w a S R P L) (i:Nat) (hi:i < 3) (b:z10) (hb:b.size<=20)
  (aG:(S 0).length+(S 1).length+(S 2).length < 120):
  Calls prog 222 #[D' w, .int .i64 i, .string b] p fun r w'=>
   r= .returned (.int .i64 (P.Qz ((S 0).length+(S 1).length+(S 2).length) i ((S i).length+1) b.data.toList).1)/\
   Xf p w' w a (if(P.Qz ((S 0).length+(S 1).length+(S 2).length) i ((S i).length+1) b.data.toList).1=0 then fun j=>if j=i then S i++[b]else S j else S) R
    (P.Qz ((S 0).length+(S 1).length+(S 2).length) i ((S i).length+1) b.data.toList).2 L:=by
 obtain⟨n,hn⟩:=exq ((S 0).length+(S 1).length+(S 2).length);obtain⟨q,I⟩:=exq ((S i).length+1);obtain⟨H,cap,aH,aI⟩:=F.ks.logc hi;have bp:=F.ks.Vb hi;have aX:=z14 F.ks.blk;have aJ:=fun y (ab:Below p.heap.size p y)=>m' (dS' y w (2+i * 3) _ cap H ((ab.cell (p:=⟨w,2+i * 3,none⟩) aX).trans aI) (by omega));have aK:=fun y (ab:Below p.heap.size p y)=>m' (eK' (F.ks.far (C' (E:=fun _=>False) ab) (fun _ _ h=>h)));rw[<-I]at aJ;rw[<-hn]at aK aG ⊢;rw[<-I];have aL:=fun y (ab:Below p.heap.size p y)=>m' (fl' y L.s L.dp P L.dlv L.duv (F.stt.far (C' (E:=fun _=>False) ab) (fun _ _ h=>h)) n i q b (by rw[F.len];omega) (by omega) (by omega) hb);have c0:p.cell? ⟨w,0,none⟩=some (D' L.s):=by rw[y' F.ks.blk,F.ks.a0]
 obtain⟨ah,az⟩:=exq ((P.Qz n i q b.data.toList).1);obtain⟨ai,hst⟩:=exq ((P.Qz n i q b.data.toList).2);rw[<-az,<-hst]at aL ⊢;have aY:ai.dk.bytes.length=7808:=by
  rw[hst];unfold Mq.Stv.Qz Mq.Dk.put;simp only
  split
  ·exact F.len
  ·split
   ·exact F.len
   ·simp only
    rw[Mq.Jv (Mq.Jw _ _ (by rw[Mq.Zv];simp;omega)) (by rw[F.len];omega)];exact F.len
 have aZ:=m' (z12 hn (z12 I (z12 az hst)));have bq:(0:Int)<=(i:Int):=by omega
 have br:(i:Int) < 3:=by omega
 have Q:=m' F;have aj:=m' aH;clear F aH hn I az hst aI;unfold D' at *;go_enter func222,ntmps222;go_upto_region 2 with fail;refine af'
  [Ep w 0,Ep w 0,Ep w 0,Ep L.s 0,Ep w 0,Ei n,Ei i,Ep w (2+i * 3),Ei q,Ev (.string b),
   Ev (.agg #[.int .i64 i, .int .i64 q, .string b]),fun v y=>v= .int .i64 ah/\∃O,Vf y L.s L.dp ai L.dlv O/\Loc p L.duv O,Ei ah]
  [[0],[1014],[2015],[3016],[0],[5018],[1],[7],[8021],[2],[7020,9022,10023],[4017,6019,11024],[12025]] [15,16,17,18,19,20,21,22,23,24,25,26,9] [8,1,5,12,13]
  [(11,StU L.s L.dp L.dlv L.duv)] ?_ ?_ (hst:=by repeat' (first|exact V' _|exact(fun _ _ _ h hb=>⟨h.1,h.2.imp fun _ h=>⟨h.1.far (C' (E:=fun _=>False) hb) (fun _ _ h=>h),h.2⟩⟩)|exact trivial|apply z12))
 ·refine⟨?_,?_,?_,?_,?_,?_,?_,?_,?_,?_,?_,?_,?_,trivial⟩;all_goals
   intro bt z hb V;simp[I']at V
  iterate 3
   ·clear hb;go_simp;exact⟨_,rfl,Far.refl _ _,rfl⟩
  ·have z0:z.cell? ⟨w,0,none⟩=some (.pointer (some ⟨L.s,0,none⟩)):=(by have:=hb.blk (d' Q).ks.blk (ay' (by exact fun h=>(d' Q).sep w (.inl rfl) h));rw[y' this,(d' Q).ks.a0];rfl);clear hb;go_simp;exact⟨_,rfl,Far.refl _ _,rfl⟩
  ·clear hb;go_simp;exact⟨_,rfl,Far.refl _ _,rfl⟩
  ·have J:=eY' hb (by intro q I;simp at I;subst I;show bJ' _ 11 5=true;decide+kernel);have ac:=m' (d' (aK z J));clear hb J;go_simp;refine(d' ac).mono ?_;rintro r aM ⟨rfl,rfl⟩;exact⟨_,rfl,Far.refl _ _,rfl⟩
  iterate 2
   ·clear hb;go_simp;exact⟨_,rfl,Far.refl _ _,rfl⟩
  ·have J:=eY' hb (by intro q I;simp at I;subst I;show bJ' _ 11 8=true;decide+kernel);have ac:=m' (d' (aJ z J));clear hb J;go_simp;refine(d' ac).mono ?_;rintro r aM ⟨rfl,rfl⟩;exact⟨_,rfl,Far.refl _ _,rfl⟩
  iterate 2
   ·clear hb;go_simp;exact⟨_,rfl,Far.refl _ _,rfl⟩
  ·have J:Below p.heap.size p z:=es' hb;have ac:=m' (d' (aL z J));have ba:=J.size;clear hb J;go_simp;refine(d' ac).mono ?_;rintro r aM ⟨rfl,O,k1,k2,k3⟩;exact⟨_,rfl,an' (.head _) k3,rfl,O,k1,bT' k2 ba⟩
  ·clear hb;obtain⟨V,_⟩:=V;go_simp;exact⟨_,rfl,Far.refl _ _,rfl⟩
 ·intro f z hF aA;obtain⟨_,O,k1,k2⟩:=aA.2.2.2.2.2.2.2.2.2.2.2.1;have bb:=aA.2.2.2.2.2.2.2.2.2.2.2.2.1;have hF:Far (StU L.s L.dp L.dlv L.duv) p z:=dM' hF;have aN:Jt z w a S R ai {L with duv:=O}:=⟨(d' Q).ks.far hF (fun k hk h=>(d' Q).sep k hk h),k1,(d' Q).rl.far hF (fun g M h=>((d' Q).sepr g M).2 h),aY⟩;have Y:=m' aN;have bc:=m' hF;have bd:=m' k2;clear aA hF k1 k2 aN;simp only[O',bb];have ak:∀ (aB:Nat->List z10) (ao:World) (aC:Array Value) (ap:Nat->Value),Yq ao w a aB R aC L.s ap L.nv L.mv L.rv->Far (fun k=>k=w\/(L.lv i).ownBlock=some k) z ao->(∀j,j < 3->Loc z (L.lv j) (ap j))->Xf p ao w a aB R ai L:=by
   intro aB ao aC ap be V hl;have G:=d' Y;have aO:=d' bc;refine⟨{L with arr:=aC,lv:=ap,duv:=O},⟨be,G.stt.far V (fun k hk Z=>?_),G.rl.far V (fun g M Z=>?_),G.len⟩,?_,?_,rfl,rfl⟩
   ·rcases Z with rfl|Z
    ·exact G.sep _ (.inl rfl) hk
    ·exact G.sep k (.inr (.inl ⟨i,hi,Z⟩)) hk
   ·rcases Z with rfl|Z
    ·exact(G.sepr _ M).1 (.inl rfl)
    ·exact(G.sepr _ M).1 (.inr (.inl ⟨i,hi,Z⟩))
   ·exact(aO.mono (fun _ _ h=> .inr (.inl h))).trans V (fun k _ h=>h.elim (fun h=> .inl (.inl h)) (fun h=> .inl (.inr (.inl ⟨i,hi,h⟩))))
   ·have bu:=aO.size;have bf:=d' bd;rintro k ((rfl|⟨j,hj,hk⟩|hk)|(rfl|rfl|hk|hk)|hk)
    ·exact .inl (.inl (.inl rfl))
    ·rcases hl j hj with h|h|⟨g,h,M⟩
     ·rw[h]at hk;cases hk
     ·exact .inl (.inl (.inr (.inl ⟨j,hj,by rw[<-h];exact hk⟩)))
     ·rw[h]at hk;cases hk;exact .inr (by omega)
    ·exact .inl (.inl (.inr (.inr hk)))
    ·exact .inl (.inr (.inl (.inl rfl)))
    ·exact .inl (.inr (.inl (.inr (.inl rfl))))
    ·exact .inl (.inr (.inl (.inr (.inr (.inl hk)))))
    ·rcases bf with h|h|⟨g,h,M⟩
     ·rw[h]at hk;cases hk
     ·exact .inl (.inr (.inl (.inr (.inr (.inr (by rw[<-h];exact hk))))))
     ·rw[h]at hk;cases hk;exact .inr M
    ·exact .inl (.inr (.inr hk))
  by_cases h0:ah=0
  ·subst h0;have G:=(d' Y).ks;have bg:z.cell? ⟨w,2+i * 3,none⟩=some (.slice H (S i).length cap):=by rw[y' G.blk,G.al i hi,d' aj]
   have bw:z.frozen? ⟨w,2+i * 3,none⟩=false:=H' (i:=2+i * 3) G.blk;have aP:=G.lgs i hi;have bh:=m' aP;have aD:=m' ak;clear G aP ak;have bi:(S i).length<=1000:=(by omega);have aq:Qi z 9 1 (.slice H (S i).length cap) (S i).length (ao' (S i)):=(by have:=d' bh;rw[show({L with duv:=O}:Sv).lv i= .slice H (S i).length cap from d' aj]at this;exact this);have aQ:=fun ad=>m' (aq.keep (w':=z.alloc ad) (fun g M=>hao _ _ (aq.lt g M)));obtain⟨m,aa⟩:=exq ((S i).length);obtain⟨au,aE⟩:=exq (ao' (S i));rw[<-aa]at bi bg;rw[<-aa,<-aE]at aQ;have bj:=m' (z12 aa aE);have bk:∀ad v' w1,Qi w1 9 1 v' (m+1) (au++[.string b])->App (z.alloc ad) w1 (.slice H m cap) v'->∃av ax,v'= .slice av (m+1) ax/\w1.cell? ⟨w,2+i * 3,none⟩=some (.slice H m cap)/\w1.frozen? ⟨w,2+i * 3,none⟩=false/\
     Hid (Qi w1 9 1 v' (m+1) (au++[.string b])/\Loc z (.slice H m cap) v'/\Far (fun k=>(Value.slice H m cap).ownBlock=some k) z w1):=by
    intro ad v' w1 h1 h2;obtain⟨av,ax,bl,_⟩:=h1.shape;have aR:Far (fun k=>(Value.slice H m cap).ownBlock=some k) z w1:=(C' (E:=fun k=>(Value.slice H m cap).ownBlock=some k) ((z11 _ _).alloc (z13 _) ad)).trans (ba' h2.grown) (fun _ _ h=>h);have aS:(Value.slice H m cap).ownBlock≠some w:=by rw[aa];exact aq.ne (d' Y).ks.blk (by decide)
    have aT:=aR.blk (d' Y).ks.blk aS;refine⟨av,ax,bl,?_,H' (i:=2+i * 3) aT,m' ⟨h1,dy' (w:=z) (by simp) h2,aR⟩⟩;rw[y' aT,(d' Y).ks.al i hi,aa];exact congrArg some (d' aj)
   clear aq aa aE;go_upto_region 6 with (at_builtin;refine cx' rfl (.tmp 33) (.tmp 35) 45 rfl 9 _ 1 16 underlying45 bQ' rfl _ m au (d' (aQ _)) rfl ⟨z.heap.size,0,none⟩ 1 1 [.string b] rfl rfl aq' (by intro u hu;simp at hu;subst hu;rfl) (by omega) (by omega) (by omega) ?_;intro v' w1 h1 h2;obtain⟨av,ax,rfl,bz,bA,bm⟩:=bk _ _ _ h1 h2;clear h1 h2;go_simp);go_wp2;go_ret;obtain⟨bn,aU,aV⟩:=d' bm;obtain⟨aW,bo⟩:=d' bj;have ay:L.lv i= .slice H m cap:=by rw[aW];exact d' aj
   refine⟨rfl,(d' aD) _ _ _ _ (qr' (d' Y).ks i hi b _ ?_ ?_ ?_ ?_) ?_ ?_⟩
   ·show Far (fun k=>(L.lv i).ownBlock=some k) z w1;rw[ay];exact aV
   ·rw[<-aW,show ao' (S i++[b])=au++[.string b] by rw[bo];simp[ao']];exact bn
   ·show Loc z (L.lv i) _;rw[ay];exact aU
   ·rw[<-(d' aZ).1];exact aG
   ·rw[ay];exact(aV.mono (fun _ _ h=> .inr h)).trans (Q' w1 w (2+i * 3) _) (fun _ _ h=> .inl h)
   ·intro j hj;show Loc z (L.lv j) (if j=i then _ else L.lv j);by_cases aF:j=i
    ·rw[if_pos aF,aF,ay];exact aU
    ·rw[if_neg aF];exact .inr (.inl rfl)
  ·have aS:(ah==0)=false:=(by simpa using h0);have aD:=m' (ak S z L.arr L.lv (d' Y).ks (Far.refl _ _) (fun _ _=> .inr (.inl rfl)));clear ak;go_wp2;go_ret;exact⟨rfl,d' aD⟩
def gP':List (Nat×Value)->Nat->List (Nat×Value)
 |[],_=>[]
 |x::r,n=>if x.1=n then r else x::gP' r n
theorem fV':∀ (l:List (Nat×Value)) (n:Nat),(gP' l n).Sublist l
 |[],_=>List.Sublist.refl _
 |x::r,n=>by
  unfold gP';split
  ·exact List.sublist_cons_self _ _
  ·exact(fV' r n).cons_cons _
theorem nu' (hs:(d.map (·.1)).Pairwise (· < ·)) (n:Nat):al' (gP' d n)=mB' (al' d) n:=by
 induction d with
 |nil=>funext k;simp[gP',al',mB']
 |cons x r ih=>
  rw[z48,z60]at hs;unfold gP';split
  ·rename_i h;subst h;exact(lc' (fun y z=>hs.1 y.1 (z63.2 ⟨y,z,rfl⟩))).symm
  ·rename_i h;funext k;have:=congrFun (ih hs.2) k;unfold mB' at this ⊢;rw[cj',cj',this];by_cases h1:k=(x.1:Int)
   ·rw[if_pos h1,if_pos h1,if_neg (by omega)]
   ·rw[if_neg h1,if_neg h1]
theorem uK' (hs:(d.map (·.1)).Pairwise (· < ·)) (z:(d.map (·.1)).contains w=true):
  (gP' d w).map (·.1)=(d.map (·.1)).take ((d.map (·.1)).countP (· < w))++(d.map (·.1)).drop ((d.map (·.1)).countP (· < w)+1):=by
 induction d with
 |nil=>simp at z
 |cons x r ih=>
  have M:=hs;rw[z48,z60]at hs;unfold gP';split
  ·rename_i h;subst h;have G:(r.map (·.1)).countP (· < x.1)=0:=fO' (fun y H=>by have:=hs.1 y H;omega);rw[z48,rW',G];simp
  ·rename_i h;have F:(r.map (·.1)).contains w=true:=by rw[z48,yf']at z;have I:(w==x.1)=false:=(by simp;omega);rw[I,yg']at z;exact z
   have J:x.1 < w:=(by have:w∈r.map (·.1):=(by simpa using F);exact hs.1 w this);rw[z48,ih hs.2 F,z48,rW'];simp[J]
theorem sI' (S:eR' p w a j l c f d) (n:Nat) (hn:al' d n=none):
  Calls prog 223 #[.pointer (some ⟨w,a,none⟩), .int .i64 n] p fun e w'=>e= .returned (.tuple #[tJ', .bool false])/\Below p.heap.size p w':=by
 have G:=z14 S.blk;have c1:∀z,(p.alloc z).cell? ⟨w,a+1,none⟩=some f:=fun z=>(z85 p _ ⟨w,a+1,none⟩ G).trans ((y' S.blk).trans S.c1);have F:=fun z=>(bw' (P:=prog) (w:=p.alloc z) (t:=168) underlying168 underlying3 (sF' _) (S.sh.map.keep (fun g H=>hao _ _ (S.sh.lt g (.inr H)))) n).1;rw[hn]at F;simp only[Option.getD_none,Option.isSome_none,tJ']at F ⊢;clear S hn;go_enter func223,ntmps223;go_wp2;refine z50 (v:= .tuple #[.agg #[.string ⟨#[]⟩], .bool false]) (by simp[results,results223,go_sem]) rfl ⟨rfl,?_⟩;exact((z11 _ _).alloc (z13 _) _).alloc (by simp) _
theorem sJ' (S:eR' p w a j l c f d) (n:Nat) (b:z10) (hn:al' d n=some (eJ' b)):
  Calls prog 223 #[.pointer (some ⟨w,a,none⟩), .int .i64 n] p fun e w'=>e= .returned (.tuple #[eJ' b, .bool true])/\Vr p w' w a j l c f (gP' d n):=by
 have bi:a < l.size:=(z21.1 S.c0).1;have bC:a+1 < l.size:=(z21.1 S.c1).1;have aF:=z14 S.blk;have ac:(d.map (·.1)).contains n=true:=by
  obtain⟨x,aG,h1,_⟩:=dE' hn;have:x.1=n:=by omega
  simp only[List.contains_eq_mem,decide_eq_true_eq];exact z63.2 ⟨x,aG,this⟩
 have bD:d.length<=1000:=S.sh.len;have aj:(d.map (·.1)).countP (· < n)+1<=(d.map (·.1)).length:=by
  have h1:(d.map (·.1)).countP (· < n)≠(d.map (·.1)).length:=by intro e;have h2:=List.countP_eq_length.1 e n (by simpa using ac);simp at h2
  have h2:(d.map (·.1)).countP (· < n)<=(d.map (·.1)).length:=z89;omega
 obtain⟨z,rfl,Q⟩:∃z,f= .map (some z)/\Xd p z (al' d):=by
  rcases S.sh.map with ⟨_,h⟩|⟨z,h1,h2⟩
  ·rw[h]at hn;cases hn
  ·exact⟨z,h1,h2⟩
 have bE:=Q.lt;have aH:w≠z:=fun e=>Q.Qy (by rw[<-e];exact S.blk);have bj:=S.sh.nums.Vd Q;have aI:c.ownBlock≠some w:=fun e=>S.sh.ne S.blk S.ty (.inl e);obtain⟨bF,cap,ay,_⟩:=(Qi.Qv S.sh.nums).shape;rw[z43]at ay;have c1:∀Y,(p.alloc Y).cell? ⟨w,a+1,none⟩=some (.map (some z)):=fun Y=>(z85 p _ ⟨w,a+1,none⟩ aF).trans ((y' S.blk).trans S.c1);have az:=fun Y=>(bw' (P:=prog) (w:=p.alloc Y) (t:=168) underlying168 underlying3 (sF' _) (S.sh.map.keep (fun g F=>hao _ _ (S.sh.lt g (.inr F)))) n).1;rw[hn]at az;simp only[Option.getD_some,Option.isSome_some,eJ']at az ⊢;have ak:=m' S;have bG:=m' hn;have aJ:=m' ac;have bH:=m' ay;clear S hn Q ac ay;go_enter func223,ntmps223;go_upto_region 3 with fail;refine G' (fun x=>x.heap[p.heap.size]? =some (.cells #[.string ⟨#[]⟩] 235 (0,0))/\x.heap[p.heap.size+1]? =some (.cells #[.string b] 235 (0,0))/\Below p.heap.size p x) (cL' _ _ _) ?_;rintro x ⟨h0,h1,ad⟩;have J:eR' x w a j l c (.map (some z)) d:=by have S:=d' ak;exact⟨(ad.block _ aF).trans S.blk,S.c0,S.c1,S.sh.far (C' (E:=fun _=>False) ad) (fun _ _ h=>h),S.ty⟩
 have d0:x.cell? ⟨w,a,none⟩=some c:=(y' J.blk).trans J.c0;have aG:=ad.size;have bI:=z14 h1;obtain⟨k,hk⟩:=exq ((d.map (·.1)).countP (· < n));have aA:=m' (cM' J.sh.nums J.sh.sorted (by rw[z43];omega) n);rw[<-hk,d' aJ]at aA;rw[<-hk]at aj;have ao:=fun q=>m' (ej' (w:=x.drewN q) J.sh.nums k (k+1) (by omega) aj);have ap:=uK' J.sh.sorted (d' aJ);rw[<-hk]at ap;rw[<-ap]at ao;have bJ:=m' (z12 hk ap);have bk:=m' h0;have bl:=m' h1;have bm:=m' ad;have aq:=m' J;have bn:IntKind.i64.wrap ((k:Int)+1)=(k:Int)+1:=by rw[z36];rw[z43]at aj;omega
 have aK:((k:Nat):Int)+1=((k+1:Nat):Int):=by omega
 obtain⟨k1,aL⟩:=exq (k+1);rw[<-aL]at ao aK;rw[aK]at bn;clear h0 h1 ad J c1 az hk ap aL aj;go_upto_region 4 with (go_at_call 132;refine(d' aA).mono ?_;rintro e y ⟨rfl,q,rfl⟩);have bK:(x.drewN q).cell? ⟨w,a,none⟩=some c:=d0;have aM:=m' (ao q);have aN:∀G nv',Jc G nv' ((gP' d n).map (·.1))->Far (fun g=>c.ownBlock=some g) (x.drewN q) G->nv'.ownBlock=c.ownBlock->∃ah n2 ai,nv'= .slice ah n2 ai/\G.cell? ⟨w,a,none⟩=some c/\G.frozen? ⟨w,a,none⟩=false/\G.cell? ⟨w,a+1,none⟩=some (.map (some z))/\
   Hid (Jc G nv' ((gP' d n).map (·.1))/\Far (fun g=>c.ownBlock=some g) x G/\nv'.ownBlock=c.ownBlock/\G.heap[w]? =some (.cells l j (0,0))):=by
  intro G nv' M Z aa;obtain⟨ah,ai,h2,_⟩:=(Qi.Qv M).shape;have aO:Far (fun g=>c.ownBlock=some g) x G:=(C' (E:=fun g=>c.ownBlock=some g) (z41 (z11 _ _) q)).trans Z (fun _ _ h=>h);have ab:=aO.blk (d' aq).blk aI;exact⟨ah,_,ai,h2,(y' ab).trans (d' aq).c0,by simp[World.frozen?,ab],(y' ab).trans (d' aq).c1,m' ⟨M,aO,aa,ab⟩⟩
 clear d0 ao aA;go_upto_region 5 with (go_at_call 221;refine(d' (d' aM)).mono ?_;rintro e G ⟨nv',rfl,M,Z,aa⟩;obtain⟨ah,n2,ai,rfl,z0,bo,bp,au⟩:=aN _ _ M Z aa;clear M Z aa);obtain⟨O,aP⟩:=exq (Value.slice ah n2 ai);rw[<-aP]at au ⊢;refine G' (fun I=>I.heap[w]? =some (.cells (l.setIfInBounds a O) j (0,0))/\Jc I O ((gP' d n).map (·.1))/\Xd I z (al' d)/\Far (fun g=>g=w\/c.ownBlock=some g) x I) ?_ ?_
 ·obtain⟨M,Z,aa,ab⟩:=d' au;have V:=Q' G w a O;have aQ:Far (fun g=>g=w\/c.ownBlock=some g) x (G.setCell ⟨w,a,none⟩ O):=(Z.mono (fun _ _ h=> .inr h)).trans V (fun _ _ h=> .inl h);refine⟨aa' ab,M.keep (fun g F=>V.rest g (z15 M g F).2 (fun e=>aI (by rw[<-aa,F,e]))),?_,aQ⟩;have Q:Xd x z (al' d):=by
   rcases(d' aq).sh.map with ⟨h,_⟩|⟨bL,h1,h2⟩
   ·cases h
   ·cases h1;exact h2
  exact Q.keep (aQ.rest z Q.lt (fun e=>e.elim (fun e=>aH e.symm) (fun e=>bj e)))
 have aR:O.ownBlock=c.ownBlock:=(d' au).2.2.1;clear z0 bo bp au aN aM aP;rintro I ⟨aB,aS,av,aC⟩;have bq:I.cell? ⟨w,a+1,none⟩=some (.map (some z)):=by rw[y' aB,z16 (by omega)];exact(d' ak).c1
 obtain⟨Y,aT,aU⟩:=fc' (P:=prog) (w:=I) (t:=168) (K':=3) underlying168 underlying3 av n;have br:=fun ty=>aT ty I rfl;have bM:=aC.size;have bN:=av.lt;have aV:=m' aB;have ax:=m' aS;have aW:=m' aU;have bt:=m' av;have aX:=m' aC;clear aB aS av aC aT aU;go_upto_region 6 with fail;have aY:∀g,c.ownBlock=some g->g < p.heap.size:=fun g F=>(d' ak).sh.lt g (.inl F);refine G' (fun H=>H.heap[w]? =some (.cells (l.setIfInBounds a O) j (0,0))/\Jc H O ((gP' d n).map (·.1))/\Xd H z (mB' (al' d) n)/\Far (fun g=>(g=w\/c.ownBlock=some g)\/g=z) x H/\H.heap[p.heap.size]? =some (.cells #[.string ⟨#[]⟩] 235 (0,0))/\H.heap[p.heap.size+1]? =some (.cells #[.string b] 235 (0,0))) ?_ ?_
 ·have aD:=ci' (w:=I) z Y;have hF:=(d' aX).mono (E':=fun g=>(g=w\/c.ownBlock=some g)\/g=z) (fun _ _ h=> .inl h) |>.trans aD (fun _ _ h=> .inr h);have aZ:∀g,p.heap.size<=g->¬ ((g=w\/c.ownBlock=some g)\/g=z):=by
   rintro g F ((h|h)|h)
   ·omega
   ·have:=aY g h;omega
   ·omega
  refine⟨aD.blk (d' aV) aH,(d' ax).keep (fun g F=>aD.rest g (z15 (d' ax) g F).2 ?_),d' aW,hF,hF.blk (d' bk) (aZ _ (z13 _)),hF.blk (d' bl) (aZ _ (by omega))⟩;rintro rfl;obtain⟨ba,ac⟩:∃ba,I.heap[g]? =some (.cells ba 3 (0,0)):=by
   rcases(d' ax).cases with ⟨e,_⟩|⟨g',bO,bP,e,bu,_⟩
   ·rw[e]at F;cases F
   ·rw[e]at F;cases F;exact⟨_,bu⟩
  exact(d' bt).Qy ac
 rintro H ⟨bb,bc,bd,be,aE,bf⟩;have f0:H.cell? ⟨p.heap.size,0,none⟩=some (.string ⟨#[]⟩):=y' (i:=0) aE;have f1:H.cell? ⟨p.heap.size+1,0,none⟩=some (.string b):=y' (i:=0) bf;have bQ:H.frozen? ⟨p.heap.size,0,none⟩=false:=H' (i:=0) aE;have bw:=m' bb;have bg:=m' bc;have bh:=m' bd;have bz:=m' be;clear bb bc bd be aE bf aV ax aW aX br bq;go_wp2;refine z50 (v:= .tuple #[.agg #[.string b], .bool true]) (by simp[results,results223,go_sem,f0]) rfl ⟨rfl,?_⟩;have V:=Q' H p.heap.size 0 (.string b);have S:=d' ak;have bA:w≠p.heap.size:=by omega
 refine⟨⟨O,⟨V.blk (d' bw) bA,by simp[bi],by rw[z16 (by omega)];exact S.c1,⟨(d' bg).keep (fun g F=>V.rest g (z15 (d' bg) g F).2 (fun e=>?_)), .inr ⟨z,rfl,?_⟩,?_,?_⟩,S.ty⟩,aR⟩,?_⟩
 ·rw[aR]at F;have:=aY g F;omega
 ·rw[nu' S.sh.sorted n];exact(d' bh).keep (V.rest z (d' bh).lt (by omega))
 ·exact S.sh.sorted.sublist ((fV' d n).map _)
 ·exact z26 (fV' d n).length_le S.sh.len
 ·have bB:Far (fun k=>k=w\/ShU c (.map (some z)) k) p H:=(C' (E:=fun k=>k=w\/ShU c (.map (some z)) k) (d' bm)).trans (d' bz) (fun k _ h=>by
   rcases h with (h|h)|h
   ·exact .inl h
   ·exact .inr (.inl h)
   ·exact .inr (.inr (by rw[h];rfl)))
  exact bB.trans V (fun k hk h=>by omega)
end Go.Proofs.YtamafdcnbcoegaaGreat
namespace Go.Proofs.YtamafdcnbcoegaaGreat
attribute [local simp, local go_sem] Ev Ep Ei Eb Et
def eL' (held:List (Nat×Nat×z10)) (sh:Nat->List (Nat×Value)):Prop:=∀s,s < 3->∀ (q:Nat) (b:z10),al' (sh s) (q:Int)=some (eJ' b) ↔ (s,q,b) ∈held
structure bN' (a:Mq.Sk):Prop where
 bod:∀h∈a.held,h.2.2.size<=20
 nxt:a.count < 120->∀s,s < 3->∀b,(s,(a.Qc s).length+1,b) ∉a.held
variable{w a:Nat}
theorem lf':∀ {l:List (Nat×Nat×z10)} {i k:Nat},Mq.ixFrom w a i l=some k->∃ (h:k - i < l.length),l[k - i].1=w/\l[k - i].2.1=a/\i<=k
 |[],_,_,h=>by simp[Mq.ixFrom]at h
 |x::l,i,k,h=>by
  rw[Mq.ixFrom]at h;split at h
  ·rename_i z;injection h with h;subst h;simpa using z
  ·obtain⟨h1,h2,h3,h4⟩:=lf' h;have e:k - i=(k - (i+1))+1:=(by omega);simp only[e];exact⟨by simp;omega,by simpa using h2,by simpa using h3,by omega⟩
theorem fm':∀ {l:List (Nat×Nat×z10)} {i:Nat},Mq.ixFrom w a i l=none->∀b,(w,a,b) ∉l
 |[],_,_=>by simp
 |x::l,i,h=>by
  rw[Mq.ixFrom]at h;split at h
  ·cases h
  ·rename_i z;intro b hb;cases hb with
   |head=>exact z ⟨rfl,rfl⟩
   |tail _ hb=>exact fm' h b hb
variable{x:Mq.Sk}{q:Nat}
theorem ov' (h:x.ix w a=some q):(w,a,(x.held.getD q (0,0,⟨#[]⟩)).2.2) ∈x.held:=by
 obtain⟨h1,h2,h3,h4⟩:=lf' h;simp only[Nat.sub_zero]at h1 h2 h3;rw[z17,z18 h1,z93];have:=z81 h1;rw[show(w,a,x.held[q].2.2)=x.held[q] by rw[<-h2,<-h3]];exact this
theorem kh' (h:x.ix w a=none):∀b,(w,a,b) ∉x.held:=fm' h
variable{o bS:z10}
theorem uL' (F:Jh x) (h:(w,a,o) ∈x.held) (z:(w,a,bS) ∈x.held):o=bS:=by
 have hn:=F.once;have:∀ (l:List (Nat×Nat×z10)),(l.map fun h=>(h.1,h.2.1)).Nodup->(w,a,o) ∈l->(w,a,bS) ∈l->o=bS:=by
  intro l;induction l with
  |nil=>intro _ h;cases h
  |cons G r ih=>
   intro hn h z;rw[z48,xL']at hn;cases h with
   |head=>
    cases z with
    |head=>rfl
    |tail _ z=>exact absurd (z63.2 ⟨_,z,rfl⟩) hn.1
   |tail _ h=>
    cases z with
    |head=>exact absurd (z63.2 ⟨_,h,rfl⟩) hn.1
    |tail _ z=>exact ih hn.2 h z
 exact this x.held hn h z
structure sK' (a:Mq.Sk) (s q:Nat) (b:z10) (out:List z10) (sh:Nat->List (Nat×Value)):Prop where
 on:∀t,t < 3->∀ (n:Nat) (c:z10),al' (sh t) (n:Int)=some (eJ' c) ↔ ((t,n,c) ∈a.held/\(t=s->(a.Qc s).length+out.length < n))
 are:∀t,t < 3->gO' (sh t)
 pos:0 < out.length
 len:a.count+out.length<=120
 run:a.commitFrom s q a.count (121 - out.length) out=a.commitFrom s q a.count 120 [b]
 bod:∀c∈out,c.size<=20
variable{R:Nat -> List (Nat×Value)}
theorem sL' (F:Jh x) (G:bN' x) (H:eL' x.held R) (A:∀t,t < 3->gO' (R t)) (s:Nat) (b:z10) (hs:s < 3) (hb:b.size<=20) (I:x.count < 120):sK' x s ((x.Qc s).length+1) b [b] R:=by
 refine⟨fun t z n c=>?_,A,by simp,by simp;omega,by simp,by simpa using hb⟩;rw[H t z n c];constructor
 ·intro h;refine⟨h,fun e=>?_⟩;subst e;have h1:=(F.held _ h).2.1;have h2:=G.nxt I t z c;simp only[List.length_singleton]at h1 ⊢;rcases tZ' ((x.Qc t).length+1) n with h3|h3
  ·exact h3
  ·have:n=(x.Qc t).length+1:=(by omega);subst this;exact absurd h h2
 ·exact fun h=>h.1
variable{T:List z10}
theorem uM' (I:Jh x) (J:bN' x) (hs:w < 3) (z:sK' x w ((x.Qc w).length+1) o T R) (M:x.count+T.length < 120) (O:((R w).map (·.1)).Pairwise (· < ·))
  (hl:al' (R w) (((x.Qc w).length+T.length+1:Nat):Int)=some (eJ' bS)):
  sK' x w ((x.Qc w).length+1) o (T++[bS]) (fun t=>if t=w then gP' (R w) ((x.Qc w).length+T.length+1)else R t):=by
 have G:=((z.on w hs _ bS).1 hl).1;refine⟨fun t F n d=>?_,fun t F=>?_,by simp,by simp;omega,?_,?_⟩
 ·by_cases e:t=w
  ·subst e;rw[if_pos rfl,nu' O];unfold mB';by_cases h1:(n:Int)=(((x.Qc t).length+T.length+1:Nat):Int)
   ·rw[if_pos h1];simp;intro _;omega
   ·rw[if_neg h1,z.on t F n d];simp;intro _;omega
  ·rw[if_neg e,z.on t F n d];simp[e]
 ·show gO' (if t=w then _ else R t);by_cases e:t=w
  ·rw[if_pos e];exact fun Q V=>z.are w hs Q ((fV' _ _).subset V)
  ·rw[if_neg e];exact z.are t F
 ·rw[<-z.run];have Y:(T++[bS]).length=T.length+1:=by simp
  rw[Y];have Z:121 - T.length=(121 - (T.length+1))+1:=by have:=z.len;omega
  rw[Z];have H:(x.Qc w).length+1+T.length=(x.Qc w).length+T.length+1:=by omega
  cases hi:x.ix w ((x.Qc w).length+1+T.length)with
  |none=>have:=kh' hi bS;rw[H]at this;exact absurd G this
  |some i=>rw[Mq.Sk.Vi M hi];have h2:=ov' hi;rw[H]at h2;rw[uL' I G h2]
 ·intro d hd;rw[z61,z51]at hd;rcases hd with hd|rfl
  ·exact z.bod d hd
  ·exact J.bod _ G
theorem nw' (hs:w < 3) (z:sK' x w ((x.Qc w).length+1) o T R)
  (h:¬x.count+T.length < 120\/al' (R w) (((x.Qc w).length+T.length+1:Nat):Int)=none):T=x.commitFrom w ((x.Qc w).length+1) x.count 120 [o]:=by
 rw[<-z.run];rcases h with h|h
 ·exact(Mq.Sk.Zk h).symm
 ·by_cases F:x.count+T.length < 120
  ·refine(Mq.Sk.Vj F ?_).symm;cases hi:x.ix w ((x.Qc w).length+1+T.length)with
   |none=>rfl
   |some i=>have h2:=ov' hi;rw[show(x.Qc w).length+1+T.length=(x.Qc w).length+T.length+1 by omega]at h2;have:=(z.on w hs _ _).2 ⟨h2,fun _=>by omega⟩;rw[h]at this;cases this
  ·exact(Mq.Sk.Zk F).symm
theorem yk' (z:sK' x w ((x.Qc w).length+1) o T R):eL' (bL' x w T).held R:=by
 intro t F n c;rw[z.on t F n c];show _↔ _∈ (x.held.filter (Mq.keeps w (x.Qc w++T).length));rw[sk',z35];unfold Mq.keeps;by_cases e:t=w
 ·subst e;simp
 ·simp[e]
end Go.Proofs.YtamafdcnbcoegaaGreat
namespace Go.Proofs.YtamafdcnbcoegaaGreat
attribute [local simp, local go_sem] Ev Ep Ei Eb Et
open Go.RowKit Go.Proofs.Tryz
section
variable {w x y:World} {p e e2:Nat} {Qc logs2:Nat->List z10} {sh sh2:Nat->List (Nat×Value)} {st st2:Mq.Stv} {c:Sv}
theorem qs' (z:Jt w p e Qc sh st c):Xf w w p e Qc sh st c:=⟨c,z,Far.refl _ _,fun _ h=> .inl h,rfl,rfl⟩
theorem Xf.trans (h:Xf w x p e Qc sh st c) (F:∀z,Jt x p e Qc sh st z->Xf x y p e2 logs2 sh2 st2 z):Xf w y p e2 logs2 sh2 st2 c:=by
 obtain⟨c1,h1,h2,h3,h4,h5⟩:=h;obtain⟨c2,k1,k2,k3,k4,k5⟩:=F c1 h1;refine⟨c2,k1,h2.trans k2 (fun k hk hu=>(h3 k hu).elim id (fun h=>by omega)),fun k hk=>?_,k4.trans h4,k5.trans h5⟩;rcases k3 k hk with h|h
 ·exact h3 k h
 ·exact .inr (z26 h2.size h)
theorem Xf.below (h:Xf w x p e Qc sh st c) (hb:Below x.heap.size x y):Xf w y p e Qc sh st c:=
 h.trans (fun z F=>⟨z,F.far (C' (E:=fun _=>False) hb) (fun _ _ h=>h),C' hb,fun _ h=> .inl h,rfl,rfl⟩)
theorem Jt.shAt (z:Jt w p e Qc sh st c) {i:Nat} (hi:i < 3):eR' w p (2+i * 3+1) 176 c.arr (c.nv i) (c.mv i) (sh i):=
 ⟨z.ks.blk,z.ks.an i hi,z.ks.am i hi,z.ks.shs i hi,by decide⟩
theorem tK' (z:Jt w p e Qc sh st c) {i:Nat} (hi:i < 3) {I:List (Nat×Value)} {nv' mv':Value} (S:eR' x p (2+i * 3+1) 176 ((c.arr.setIfInBounds (2+i * 3+1) nv').setIfInBounds (2+i * 3+1+1) mv') nv' mv' I) (hn:Loc w (c.nv i) nv')
  (Y:be' mv'=be' (c.mv i)\/∃g,be' mv'=some g/\w.heap.size<=g) (hF:Far (fun k=>k=p\/ShU (c.nv i) (c.mv i) k) w x) (A:gO' I):
  Jt x p e Qc (fun t=>if t=i then I else sh t) st {c with arr:=(c.arr.setIfInBounds (2+i * 3+1) nv').setIfInBounds (2+i * 3+1+1) mv',nv:=fun t=>if t=i then nv' else c.nv t,mv:=fun t=>if t=i then mv' else c.mv t}/\
   (∀k,ShU nv' mv' k->ShU (c.nv i) (c.mv i) k\/w.heap.size<=k):=by
 have V:∀k,(k=p\/ShU (c.nv i) (c.mv i) k)->KsU p c.lv c.nv c.mv k:=fun k hk=>hk.elim .inl (fun h=> .inr (.inr ⟨i,hi,h⟩));have hst:=z.stt.far hF (fun k hk h=>z.sep k (V k h) hk);have Z:=z.rl.far hF (fun g G h=>(z.sepr g G).1 (V g h));have aa:=z.ks.sz;have H:∀j,j≠2+i * 3+1->j≠2+i * 3+2->((c.arr.setIfInBounds (2+i * 3+1) nv').setIfInBounds (2+i * 3+1+1) mv')[j]? =c.arr[j]? :=fun j h1 h2=>by rw[z16 (by omega),z16 (by omega)]
 have Q:∀k,ShU nv' mv' k->ShU (c.nv i) (c.mv i) k\/w.heap.size<=k:=by
  rintro k (hk|hk)
  ·rcases hn with h|h|⟨g,h,G⟩
   ·rw[h]at hk;cases hk
   ·exact .inl (.inl (by rw[<-h];exact hk))
   ·rw[h]at hk;cases hk;exact .inr G
  ·rcases Y with h|⟨g,h,G⟩
   ·exact .inl (.inr (by rw[<-h];exact hk))
   ·rw[h]at hk;cases hk;exact .inr G
 refine⟨⟨⟨S.blk,by simpa using aa,?_,?_,?_,?_,?_,?_,?_,?_,?_,z.ks.apl,?_,z.ks.cnt,z.ks.ep⟩,hst,Z,z.len⟩,Q⟩
 ·rw[H _ (by omega) (by omega)];exact z.ks.a0
 ·rw[H _ (by omega) (by omega)];exact z.ks.a1
 ·intro j hj;rw[H _ (by omega) (by omega)];exact z.ks.al j hj
 ·intro j hj;show _=some (if j=i then nv' else c.nv j);by_cases e:j=i
  ·subst e;rw[if_pos rfl];exact S.c0
  ·rw[if_neg e,H _ (by omega) (by omega)];exact z.ks.an j hj
 ·intro j hj;show _=some (if j=i then mv' else c.mv j);by_cases e:j=i
  ·subst e;rw[if_pos rfl];exact S.c1
  ·rw[if_neg e,H _ (by omega) (by omega)];exact z.ks.am j hj
 ·rw[H _ (by omega) (by omega)];exact z.ks.ar
 ·intro j hj;refine(z.ks.lgs j hj).far hF (fun g G h=>?_);obtain⟨ac,ab⟩:=cR' (z.ks.lgs j hj) G;rcases h with h|h
  ·exact(z.ks.lgs j hj).ne z.ks.blk (by decide) (by rw[G,h])
  ·exact(z.ks.shs i hi).ne ab (by decide) h
 ·intro j hj;show Jb x (if j=i then nv' else c.nv j) (if j=i then mv' else c.mv j) (if j=i then I else sh j);by_cases e:j=i
  ·rw[if_pos e,if_pos e,if_pos e];exact S.sh
  ·rw[if_neg e,if_neg e,if_neg e];refine(z.ks.shs j hj).far hF (fun k hk h=>?_);rcases h with h|h
   ·exact(z.ks.shs j hj).ne z.ks.blk (by decide) (by rw[<-h];exact hk)
   ·exact z.ks.aps j i hj hi e k hk h
 ·intro j hj;show gO' (if j=i then I else sh j);by_cases e:j=i
  ·rw[if_pos e];exact A
  ·rw[if_neg e];exact z.ks.are j hj
 ·intro j F hj M J k hk;replace hk:ShU (if j=i then nv' else c.nv j) (if j=i then mv' else c.mv j) k:=hk;show ¬ShU (if F=i then nv' else c.nv F) (if F=i then mv' else c.mv F) k;by_cases h1:j=i
  ·subst h1;rw[if_pos rfl,if_pos rfl]at hk;rw[if_neg (fun e=>J e.symm),if_neg (fun e=>J e.symm)];intro O;rcases Q k hk with h|h
   ·exact z.ks.aps j F hj M J k h O
   ·have:=(z.ks.shs F M).lt k O;omega
  ·rw[if_neg h1,if_neg h1]at hk;by_cases h2:F=i
   ·subst h2;rw[if_pos rfl,if_pos rfl];intro O;rcases Q k O with h|h
    ·exact z.ks.aps j F hj M J k hk h
    ·have:=(z.ks.shs j hj).lt k hk;omega
   ·rw[if_neg h2,if_neg h2];exact z.ks.aps j F hj M J k hk
theorem nx' (F:Jt w p e Qc sh st c) {i:Nat} (hi:i < 3) {z:List (Nat×Value)} (h:cq' w x p (2+i * 3+1) 176 c.arr (c.nv i) (c.mv i) z) (A:gO' z):
  Xf w x p e Qc (fun t=>if t=i then z else sh t) st c:=by
 obtain⟨⟨nv',mv',S,hn,G⟩,hF⟩:=h;have H:∀k,(k=p\/ShU (c.nv i) (c.mv i) k)->KsU p c.lv c.nv c.mv k:=fun k hk=>hk.elim .inl (fun h=> .inr (.inr ⟨i,hi,h⟩));obtain⟨I,J⟩:=tK' F hi S hn G hF A;refine⟨_,I,?_,?_,rfl,rfl⟩
 ·exact hF.mono (fun k _ h=> .inl (H k h))
 ·rintro k ((rfl|hk|⟨j,hj,hk⟩)|hk|hk)
  ·exact .inl (.inl (.inl rfl))
  ·exact .inl (.inl (.inr (.inl hk)))
  ·have hk:ShU (if j=i then nv' else c.nv j) (if j=i then mv' else c.mv j) k:=hk;by_cases e:j=i
   ·rw[if_pos e,if_pos e]at hk;exact(J k hk).elim (fun h=> .inl (.inl (.inr (.inr ⟨i,hi,h⟩)))) .inr
   ·rw[if_neg e,if_neg e]at hk;exact .inl (.inl (.inr (.inr ⟨j,hj,hk⟩)))
  ·exact .inl (.inr (.inl hk))
  ·exact .inl (.inr (.inr hk))
def uN' (w F:World) (p e:Nat) (Qc:Nat->List z10) (sh:Nat->List (Nat×Value)) (st:Mq.Stv) (c:Sv):Prop:=
 ∃z,Jt F p e Qc sh st z/\(∀k,PkU p z k->PkU p c k)/\Far (PkU p c) w F/\z.s=c.s/\z.rv=c.rv
theorem uN'.far {E:Nat->Prop} (h:uN' w x p e Qc sh st c) (F:∀k,PkU p c k->k < w.heap.size) (hF:Far E x y) (z:∀k,E k->w.heap.size<=k):uN' w y p e Qc sh st c:=by
 obtain⟨G,h1,h2,h3,h4,h5⟩:=h;exact⟨G,h1.far hF (fun k hk e=>by have:=F k (h2 k hk);have:=z k e;omega),h2,h3.trans hF (fun k hk e=>by have:=z k e;omega),h4,h5⟩
theorem uO' (F:Jt w p e Qc sh st c) {i:Nat} (hi:i < 3) {z:List (Nat×Value)} (h:Vr w x p (2+i * 3+1) 176 c.arr (c.nv i) (c.mv i) z) (A:gO' z):
  uN' w x p e Qc (fun t=>if t=i then z else sh t) st c:=by
 obtain⟨⟨nv',S,G⟩,hF⟩:=h;have e2:(c.arr.setIfInBounds (2+i * 3+1) nv').setIfInBounds (2+i * 3+1+1) (c.mv i)=c.arr.setIfInBounds (2+i * 3+1) nv':=bs' (by rw[z16 (by omega)];exact F.ks.am i hi);obtain⟨H,_⟩:=tK' (nv':=nv') (mv':=c.mv i) F hi (by rw[e2];exact S) (.inr (.inl G)) (.inl rfl) hF A;have I:∀k,ShU nv' (c.mv i) k->ShU (c.nv i) (c.mv i) k:=fun k hk=>hk.elim (fun h=> .inl (by rw[<-G];exact h)) .inr;refine⟨_,H,?_,hF.mono (fun k _ h=> .inl (h.elim .inl (fun h=> .inr (.inr ⟨i,hi,h⟩)))),rfl,rfl⟩;rintro k ((rfl|hk|⟨j,hj,hk⟩)|hk|hk)
 ·exact .inl (.inl rfl)
 ·exact .inl (.inr (.inl hk))
 ·have hk:ShU (if j=i then nv' else c.nv j) (if j=i then c.mv i else c.mv j) k:=hk;by_cases e:j=i
  ·rw[if_pos e,if_pos e]at hk;exact .inl (.inr (.inr ⟨i,hi,I k hk⟩))
  ·rw[if_neg e,if_neg e]at hk;exact .inl (.inr (.inr ⟨j,hj,hk⟩))
 ·exact .inr (.inl hk)
 ·exact .inr (.inr hk)
end
def tL' (st:Mq.Stv):Prop:=st.dk.dead=false/\st.dk.Zo=0
variable{p:World}{w a q:Nat}{S:Nat -> List z10}{R:Nat -> List (Nat×Value)}{P:Mq.Stv}{L:Sv}{l:Array Value}{j:TypeId}{aN:Nat×Nat}
theorem dT' (z:Jt p w a S R P L) (hb:p.heap[q]? =some (.cells l j aN))
  (h1:j≠176) (h2:j≠9) (h3:j≠3) (h4:j≠203) (h5:j≠252) (F:j≠5) (G:j≠261) (H:j≠179):¬PkU w L q:=by
 rintro(h|(h|h)|h)
 ·exact cz' z.ks hb h1 h2 h3 h
 ·subst h;have:=z.stt.blk;rw[hb]at this;injection this with this;injection this with _ this _;exact h4 this
 ·exact ey' z.stt.dk hb (fun a=>h5 a.symm) (fun a=>F a.symm) (fun a=>G a.symm) h
 ·exact z.rl.ne hb (fun a=>H a.symm) h
theorem en' (a:Mq.Sk) (s:Nat):(grown a s []).Qc=a.Qc:=by
 funext t;show(if t=s then a.Qc s++[]else a.Qc t)= _;split
 ·rename_i h;subst h;simp
 ·rfl
theorem lg' (a:Mq.Sk) (s:Nat) (out:List z10) (c:z10):(fun j=>if j=s then(grown a s out).Qc s++[c]else(grown a s out).Qc j)=(grown a s (out++[c])).Qc:=by
 funext t;show(if t=s then(if s=s then a.Qc s++out else a.Qc s)++[c]else(if t=s then a.Qc s++out else a.Qc t))=if t=s then a.Qc s++(out++[c])else a.Qc t
 split
 ·simp
 ·rfl
theorem iO' (a:Mq.Sk) (s:Nat) (hs:s < 3) (out:List z10):((grown a s out).Qc 0).length+((grown a s out).Qc 1).length+((grown a s out).Qc 2).length=a.count+out.length:=eu' a s hs out
theorem lh' (a:Mq.Sk) (s:Nat) (out:List z10):(grown a s out).Qc s=a.Qc s++out:=by
 show(if s=s then _ else _)= _;rw[if_pos rfl]
def ow' (w1 z:World):Prop:=∀ (g:Nat) (x:z10),w1.heap[g]? =some (.cells #[.string x] 235 (0,0))->∃F:z10,z.heap[g]? =some (.cells #[.string F] 235 (0,0))
theorem ox' (w:World):ow' w w:=fun _ x h=>⟨x,h⟩
theorem qt' (w:World) (g:Nat) (b:z10):ow' w (w.setCell ⟨g,0,none⟩ (.string b)):=by
 intro k x h;by_cases e:k=g
 ·subst e;have:=aa' (j:=0) (v:= .string b) h;exact⟨b,by simpa using this⟩
 ·exact⟨x,(Q' w g 0 (.string b)).blk h e⟩
def qu':Option Value->Nat
 |some (.slice _ n _)=>n
 | _=>0
variable{x:Mq.Sk}
theorem tM' (z:eL' x.held R) (A:∀w,w < 3->gO' (R w)) (hs:w < 3) (q:Nat):(al' (R w) (q:Int)).isSome=(x.ix w q).isSome:=by
 cases h:x.ix w q with
 |none=>
  rcases gm' (A w hs) (q:Int)with ⟨b,hl⟩|hl
  ·exact absurd ((z w hs q b).1 hl) (kh' h b)
  ·rw[hl];rfl
 |some i=>rw[(z w hs q _).2 (ov' h)];rfl
theorem qv' (z:eL' x.held R) (A:∀w,w < 3->gO' (R w)) (hs:w < 3) (up:Nat):∀j,cl' (R w) up j=bl' x w up j
 |0=>rfl
 |j+1=>by rw[cl',bl',qv' z A hs up j,tM' z A hs]
theorem mI' (z:eL' x.held R) (A:∀w,w < 3->gO' (R w)) (hs:w < 3) (up:Nat):(⟨#[UInt8.ofNat (cl' (R w) up 3)]⟩:z10)=Jj x w up:=by
 rw[qv' z A hs up 3];rfl
theorem fW' {a:Mq.Sk} {st q n:Nat}:∀ (f:Nat) (out:List z10),120<=n+out.length+f->¬ (n+(a.commitFrom st q n f out).length < 120)\/a.ix st (q+(a.commitFrom st q n f out).length)=none
 |0,out,h=> .inl (by show ¬ (n+out.length < 120);omega)
 |f+1,out,h=>by
  by_cases z:n+out.length < 120
  ·cases hi:a.ix st (q+out.length)with
   |none=>rw[Mq.Sk.Vj z hi];exact .inr hi
   |some i=>rw[Mq.Sk.Vi z hi];exact fW' f _ (by simp;omega)
  ·rw[Mq.Sk.Zk z];exact .inl z
theorem qw' (G:bN' x) (s q:Nat) (b:z10) (hb:b.size<=20):bN' (bn' x s q b):=by
 unfold bn';split
 ·rename_i h;obtain⟨h1,h2,h3⟩:=h;refine⟨fun I F=>?_,fun J t M c z=>?_⟩
  ·simp only[List.mem_append,List.mem_singleton]at F;rcases F with F|rfl
   ·exact G.bod I F
   ·exact hb
  ·simp only[List.mem_append,List.mem_singleton]at z;rcases z with z|z
   ·exact G.nxt J t M c z
   ·injection z with O H;injection H with H Q;subst O;omega
 ·exact G
theorem qx' (G:bN' x) (s:Nat) (b:z10) (hs:s < 3) (M:x.count < 120):bN' (bL' x s (x.commitFrom s ((x.Qc s).length+1) x.count 120 [b])):=by
 have H:=fW' (a:=x) (st:=s) (q:=(x.Qc s).length+1) (n:=x.count) 120 [b] (by omega);obtain⟨z,O⟩:=exq (x.commitFrom s ((x.Qc s).length+1) x.count 120 [b]);rw[<-O]at H ⊢;have Q:(bL' x s z).count=x.count+z.length:=eu' x s hs z;refine⟨fun I V=>G.bod I (sk'.1 (show I∈x.held.filter _ from V)).1,fun J t Y c Z=>?_⟩;rw[Q]at J;have F:(t,((bL' x s z).Qc t).length+1,c) ∈x.held:=(sk'.1 (show _∈x.held.filter _ from Z)).1;by_cases e:t=s
 ·subst e;rw[jw',z35]at F;rcases H with h|h
  ·exact h J
  ·rw[show(x.Qc t).length+1+z.length=(x.Qc t).length+z.length+1 by omega]at h;exact kh' h c F
 ·have hl:(bL' x s z).Qc t=x.Qc t:=by show(if t=s then _ else x.Qc t)= _;rw[if_neg e]
  rw[hl]at F;exact G.nxt M t Y c F
theorem oy' (z:bN' x) (e:Nat):bN' (aV' x e):=by
 unfold aV' cy';split
 ·exact⟨fun H F=>by simp at F,fun _ t _ c G=>by simp at G⟩
 ·exact⟨z.bod,z.nxt⟩
variable{o:z10}
theorem id' (z:x.count < 120):x.Qp 3 x.Qa w ((x.Qc w).length+1:Nat) o=x.commitFrom w ((x.Qc w).length+1) x.count 120 [o]:=by
 unfold Mq.Sk.Qp;rw[if_neg (by simp),if_neg (by omega)];simp
theorem eM' {b:z10} (h:¬ (a=(x.Qc w).length+1/\x.count < 120)):x.Qp 3 x.Qa w a b=[]:=by
 unfold Mq.Sk.Qp;by_cases h1:a=(x.Qc w).length+1
 ·rw[if_neg (by simp[h1]),if_pos (by omega)]
 ·rw[if_pos (by right;right;simp;omega)]
theorem ie' (z:x.count < 120):as' x 3 x.Qa w ((x.Qc w).length+1) o=bL' x w (x.commitFrom w ((x.Qc w).length+1) x.count 120 [o]):=by
 unfold as';rw[id' z,if_neg (eH' (by simp))]
theorem ff' {b:z10} (h:¬ (a=(x.Qc w).length+1/\x.count < 120)):as' x 3 x.Qa w a b=bn' x w a b:=by
 unfold as';rw[eM' h,if_pos rfl]
theorem oz' (z:bN' x) (s q:Nat) (b:z10) (hs:s < 3) (hb:b.size<=20):bN' (as' x 3 x.Qa s q b):=by
 by_cases h:q=(x.Qc s).length+1/\x.count < 120
 ·obtain⟨rfl,F⟩:=h;rw[ie' F];exact qx' z s b hs F
 ·rw[ff' h];exact qw' z s q b hb
theorem uP' (z:eL' x.held R) (s q:Nat) (b:z10) (hs:s < 3) (G:x.ix s q=none):eL' (x.held++[(s,q,b)]) (fun t=>if t=s then br' (R s) q (eJ' b)else R t):=by
 intro t F n c;show al' (if t=s then _ else R t) _= _↔ _;rw[z61,z51];by_cases e:t=s
 ·subst e;rw[if_pos rfl,gk'];unfold jV';by_cases h1:(n:Int)=(q:Int)
  ·have H:n=q:=(by omega);subst H;rw[if_pos rfl];constructor
   ·intro h;injection h with h;unfold eJ' at h;injection h with h;have:c=b:=by have:=congrArg Array.toList h;simp at this;exact this.symm
    subst this;exact .inr rfl
   ·rintro(h|h)
    ·exact absurd h (kh' G c)
    ·injection h with _ h;injection h with _ h;rw[h]
  ·rw[if_neg h1,z t F n c];constructor
   ·exact .inl
   ·rintro(h|h)
    ·exact h
    ·injection h with _ h;injection h with h _;omega
 ·rw[if_neg e,z t F n c];constructor
  ·exact .inl
  ·rintro(h|h)
   ·exact h
   ·injection h with h _;exact absurd h e
theorem wE':eL' [] (fun _=>[]):=by
 intro t _ n c;simp[al']
structure Xv (w:World) (cs:Array Value) (x:World):Prop where
 box:x.heap[w.heap.size]? =some (.cells cs 41 (0,0))
 bel:Below w.heap.size w x
theorem dY' (w:World) (z:Array Value):Xv w z (w.alloc (.cells z 41)):=⟨z19 _ _,(z11 _ _).alloc (z13 _) _⟩
theorem Xv.lt {w x:World} (h:Xv w l x):w.heap.size < x.heap.size:=z14 h.box
theorem Xv.below {w x y:World} {z:Array Value} (h:Xv w z x) (hb:Below x.heap.size x y):Xv w z y:=
 ⟨(hb.block _ h.lt).trans h.box,h.bel.trans (hb.mono h.bel.size)⟩
theorem Xv.drewN {w x:World} {z:Array Value} (h:Xv w z x) (n:Nat):Xv w z (x.drewN n):=h.below (z41 (z11 _ _) n)
theorem sM' (H:Jh x) (I:eL' x.held R) (A:∀w,w < 3->gO' (R w)) (hs:w < 3) (J:((R w).map (·.1)).Pairwise (· < ·)):(R w).length < 1000:=by
 have z:∀n∈ (R w).map (·.1),(x.Qc w).length+1<=n/\n<=(x.Qc w).length+4:=by
  intro n hn;have G:(al' (R w) (n:Int)).isSome=true:=by rw[fN'];simpa using hn
  rcases gm' (A w hs) (n:Int)with ⟨b,hl⟩|hl
  ·have F:=(I w hs n b).1 hl;exact(H.held _ F).2
  ·rw[hl]at G;cases G
 have h1:(((R w).map (·.1)).map fun n=>n - (x.Qc w).length - 1).Nodup:=by rw[List.Nodup,xU'];refine J.imp_of_mem (fun {M y} O Q V e=>?_);have Y:=z M O;have Z:=z y Q;omega
 have h2:=fE' 4 _ h1 (fun n hn=>by obtain⟨m,F,rfl⟩:=z63.1 hn;have:=z m F;omega);simp at h2;omega
theorem gB' (e:Nat) (w:World):Calls prog 107 #[.int .i64 e] w fun r w'=>r= .returned (.agg #[.int .i64 e, .int .i64 0, .int .i64 0])/\Below w.heap.size w w':=by
 go_enter func107,ntmps107;go_wp2;refine z50 (v:= .agg #[.int .i64 e, .int .i64 0, .int .i64 0]) (by simp[results,results107,go_sem]) rfl ⟨rfl,?_⟩;exact(z11 _ _).alloc (z13 _) _
theorem jG' (e:Nat) (w:World):Calls prog 159 #[.int .i64 e] w fun r w'=>r= .returned (.agg #[.int .i64 5, .int .i64 e, .int .i64 0, .int .i64 0, .string ⟨#[]⟩])/\Below w.heap.size w w':=by
 go_enter func159,ntmps159;go_wp2;refine z50 (v:= .agg #[.int .i64 5, .int .i64 e, .int .i64 0, .int .i64 0, .string ⟨#[]⟩]) (by simp[results,results159,go_sem]) rfl ⟨rfl,?_⟩;first|exact(z11 _ _).alloc (z13 _) _|exact di' ((z11 _ _).alloc (z13 _) _) _ _ _ _ _
theorem uQ' (z:Jt p w a S R P L) (F:Nat) (I:F<=2147483647):
  Xf p (p.setCell ⟨w,1,none⟩ (.int .i64 F)) w F S R P L:=by
 have J:∀j,j < 3->(L.lv j).ownBlock≠some w:=fun j hj=>(z.ks.lgs j hj).ne z.ks.blk (by decide);have M:∀j,j < 3->¬ShU (L.nv j) (L.mv j) w:=fun j hj=>(z.ks.shs j hj).ne z.ks.blk (by decide);have hs:=Q' p w 1 (.int .i64 F);have G:∀j,j≠1->(L.arr.setIfInBounds 1 (.int .i64 F))[j]? =L.arr[j]? :=fun j hj=>z16 (fun a=>hj a.symm);have h1:1 < L.arr.size:=by rw[z.ks.sz];omega
 refine⟨{L with arr:=L.arr.setIfInBounds 1 (.int .i64 F)},⟨⟨aa' z.ks.blk,by simpa using z.ks.sz,?_,?_,?_,?_,?_,?_,?_,?_,z.ks.are,z.ks.apl,z.ks.aps,z.ks.cnt,I⟩,z.stt.far hs (fun k hk h=>z.sep k (.inl h) hk),z.rl.far hs (fun g H h=>(z.sepr g H).1 (.inl h)),z.len⟩,hs.mono (fun k _ h=> .inl (.inl h)),fun k hk=> .inl hk,rfl,rfl⟩
 ·rw[G _ (by omega)];exact z.ks.a0
 ·simp[h1]
 ·intro j hj;rw[G _ (by omega)];exact z.ks.al j hj
 ·intro j hj;rw[G _ (by omega)];exact z.ks.an j hj
 ·intro j hj;rw[G _ (by omega)];exact z.ks.am j hj
 ·rw[G _ (by omega)];exact z.ks.ar
 ·intro j hj;exact(z.ks.lgs j hj).far hs (fun g H h=>J j hj (by rw[H,h]))
 ·intro j hj;exact(z.ks.shs j hj).far hs (fun k hk h=>M j hj (by rw[<-h];exact hk))
theorem oA' (a:Mq.Sk):aV' a a.Qa=a:=by
 unfold aV' cy';rw[if_neg (by omega)]
theorem oB':eL' [] (fun t=>if t < 3 then []else R t):=by
 intro t z n c;show al' (if t < 3 then []else R t) _= _↔ _;rw[if_pos z];simp[al']
theorem gQ':(prog.info? 41).map (·.size)=some 5:=by kernel_rfl
def zFr:Array Value:= #[.int .i64 0, .int .i64 0, .int .i64 0, .int .i64 0, .string ⟨#[]⟩]
structure Ym (w:World) (cs rs:Array Value) (x:World):Prop where
 box:x.heap[w.heap.size]? =some (.cells cs 41 (0,0))
 res:x.heap[w.heap.size+1]? =some (.cells rs 41 (0,0))
 bel:Below w.heap.size w x
theorem if' (w:World) (z rs:Array Value):Ym w z rs ((w.alloc (.cells z 41)).alloc (.cells rs 41)):=
 ⟨(cL' _ _ _).1,(cL' _ _ _).2.1,(cL' _ _ _).2.2⟩
variable{aY:Array Value}
theorem Ym.lt {w x:World} (h:Ym w l aY x):w.heap.size+1 < x.heap.size:=z14 h.res
theorem Ym.below {w x y:World} {z rs:Array Value} (h:Ym w z rs x) (hb:Below x.heap.size x y):Ym w z rs y:=
 ⟨(hb.block _ (by have:=h.lt;omega)).trans h.box,(hb.block _ h.lt).trans h.res,h.bel.trans (hb.mono h.bel.size)⟩
theorem Ym.drewN {w x:World} {z rs:Array Value} (h:Ym w z rs x) (n:Nat):Ym w z rs (x.drewN n):=h.below (z41 (z11 _ _) n)
theorem iP' (G:Jt p w x.Qa x.Qc R P L) (e:Nat) (s q:Int) (b:z10) (ah:e≠x.Qa):
  Calls prog 110 #[D' w, .agg #[.int .i64 3, .int .i64 e, .int .i64 s, .int .i64 q, .string b]] p fun r z=>
   r= .returned (.tuple #[.agg #[.int .i64 5, .int .i64 (max e x.Qa:Nat), .int .i64 0, .int .i64 0, .string ⟨#[]⟩], .int .i64 0])/\Below p.heap.size p z:=by
 have c1:p.cell? ⟨w,1,none⟩=some (.int .i64 x.Qa):=by rw[y' G.ks.blk,G.ks.a1]
 have O:=z14 G.ks.blk;obtain⟨ep,Q⟩:=exq (x.Qa);rw[<-Q]at c1 ah ⊢;have ay:((e:Int) != (ep:Int))=true:=by simp;omega
 obtain⟨m,V⟩:=exq (max e ep);have az:max (e:Int) (ep:Int)=(m:Int):=by omega
 rw[<-V];have ai:=fun y=>m' (jG' m y);have Y:=m' (if' p #[.int .i64 3, .int .i64 e, .int .i64 s, .int .i64 q, .string b] zFr);clear G Q V;unfold D';go_enter func110,ntmps110;go_upto_region 1 with fail;refine G' (Ym p #[.int .i64 3, .int .i64 e, .int .i64 s, .int .i64 q, .string b] zFr) (d' Y) ?_;clear Y;intro aA X;have I:=y' (i:=1) X.box;simp at I;have Z:=(X.bel.cell (p:=⟨w,1,none⟩) O).trans c1;have F:=m' X;clear X;go_quiet (fail);go_upto_region 2 with fail;refine G' (Ym p #[.int .i64 3, .int .i64 e, .int .i64 s, .int .i64 q, .string b] zFr) ((d' F).drewN _) ?_;clear F I Z;intro aB X;have F:=m' X;have aC:=X.lt;clear X;refine af'
  [Ep p.heap.size 1,Ei e,Ep w 0,Ep w 0,Ep w 1,Ei ep,Ei m,
   Ev (.agg #[.int .i64 5, .int .i64 m, .int .i64 0, .int .i64 0, .string ⟨#[]⟩]),fun _ z=>z.heap[p.heap.size+1]? =some (.cells #[.int .i64 5, .int .i64 m, .int .i64 0, .int .i64 0, .string ⟨#[]⟩] 41 (0,0)),Ei 0]
  [[3],[1015],[0],[3017],[4018],[5019],[2016,6020],[7021],[4,8022],[]] [16,17,18,19,20,21,22,23,0,6] [5,1,9,8,29]
  [(8,fun k=>k=p.heap.size+1)] ?_ ?_ (hst:=by repeat' (first|exact V' _|exact ca' _ _|exact trivial|apply z12))
 ·refine⟨?_,?_,?_,?_,?_,?_,?_,?_,?_,?_,trivial⟩;all_goals
   intro a' z hb J;have aa:=hb.blk (d' F).box (ay' (by intro (h:p.heap.size=p.heap.size+1);omega));have I:z.cell? ⟨p.heap.size,1,none⟩=some (.int .i64 e):=y' (i:=1) aa;have Z:z.cell? ⟨w,1,none⟩=some (.int .i64 ep):=by have aj:=hb.rest w (by omega) (ay' (by intro (h:w=p.heap.size+1);omega));have:=((d' F).bel.cell (p:=⟨w,1,none⟩) O).trans c1;unfold World.cell? at this ⊢;simp only at this ⊢;rw[aj];exact this
   clear aa;simp[I']at J
  iterate 7
   ·clear hb;go_simp;exact⟨_,rfl,Far.refl _ _,rfl⟩
  ·clear hb;go_simp;refine(d' (ai z)).mono ?_;rintro r aD ⟨rfl,ak⟩;exact⟨_,rfl,C' ak,rfl⟩
  ·have H:=hb.blk (d' F).res bD';clear hb;rw[if_pos (by rfl)];refine iH' 41 (.tmp 4) (.tmp 22) rfl (p.heap.size+1) #[.int .i64 5, .int .i64 m, .int .i64 0, .int .i64 0, .string ⟨#[]⟩] (by simp[Act.eval,J]) (by simp[Act.eval,J]) 41 _ H (by rw[gQ'];rfl) rfl (by rw[z49];intro u hu;simp at hu;rcases hu with rfl|rfl|rfl|rfl <;> rfl) ?_;exact⟨_,rfl,an' (.head _) (bp' _ _ _),z92 _ _ _ _ _ _ H⟩
  ·clear hb;go_simp;exact⟨_,rfl,Far.refl _ _,rfl⟩
 ·intro f z hF M;have ab:=M.2.2.2.2.2.2.2.2.1;have ao:=M.2.2.2.2.2.2.2.2.2.1;obtain⟨H,ap,aq,au,av⟩:=dn' ab;have ac:Below p.heap.size p z:=(d' F).bel.trans (hF.below (B:=p.heap.size) (by omega) (fun k hk h=>by obtain⟨q,ad,h⟩:=h;simp at ad;subst ad;have h:k=p.heap.size+1:=h;omega));have ax:=m' ac;clear M hF ab ac;simp only[O',ao];go_simp;go_wp2;exact z50 (v:= .tuple #[.agg #[.int .i64 5, .int .i64 m, .int .i64 0, .int .i64 0, .string ⟨#[]⟩], .int .i64 0]) (by simp[results,results110,go_sem,H,ap,aq,au,av]) rfl ⟨rfl,d' ax⟩
def dI' (w:World) (p o:Nat) (m:Int):World:=(w.alloc (.cells #[.pointer (some ⟨p,o,none⟩)] 209)).alloc (.cells #[.int .i64 m] 3)
def tN' (b:Nat):Value:= .func (.func 189) #[] #[.pointer (some ⟨b,0,none⟩), .pointer (some ⟨b+1,0,none⟩)]
theorem li' (p o:Nat) (m:Int) (w:World):
  Calls prog 137 #[.pointer (some ⟨p,o,none⟩), .int .i64 m] w fun e w'=>e= .returned (tN' w.heap.size)/\w'=dI' w p o m:=by
 go_enter func137,ntmps137;go_wp2;go_ret;exact⟨rfl,rfl⟩
variable{c f:Value}{d:List (Nat×Value)}
theorem wF' (hb:p.heap[w]? =some (.cells l j (0,0))) (h0:l[a]? =some c) (S:Jb p c f d):
  Calls prog 97 #[.pointer (some ⟨w,a,none⟩)] p fun e w'=>e= .returned (tN' p.heap.size)/\w'=dI' p w a d.length:=by
 have z:=m' (qm' hb h0 S);clear S hb h0;go_enter func97,ntmps97;go_wp2_with (first|(go_at_call 143;refine(d' z).mono ?_;rintro e w' ⟨rfl,rfl⟩)|(go_at_call 137;refine(li' _ _ _ _).mono ?_;rintro e w' ⟨rfl,rfl⟩));go_ret;exact⟨rfl,rfl⟩
attribute [local go_sem] Oper.semAt_some
structure oC' (W:World) (b p o:Nat) (m:Nat) (nv mv:Value) (l:List (Nat×Value)):Prop where
 c1:W.cell? ⟨b,0,none⟩=some (.pointer (some ⟨p,o,none⟩))
 c2:W.cell? ⟨b+1,0,none⟩=some (.int .i64 m)
 s0:W.cell? ⟨p,o,none⟩=some nv
 s1:W.cell? ⟨p,o+1,none⟩=some mv
 sh:Jb W nv mv l
theorem yl' (hs:(d.map (·.1)).Pairwise (· < ·)) (hk:w < d.length):al' d (d[w].1:Int)=some d[w].2:=by
 induction d generalizing w with
 |nil=>simp at hk
 |cons x r ih=>
  rw[z48,z60]at hs;obtain⟨h0,hs⟩:=hs;cases w with
  |zero=>rw[cj',z143,if_pos rfl]
  |succ w=>have z:w < r.length:=(by simpa using hk);rw[cj',List.getElem_cons_succ,if_neg,ih hs z];have:=h0 r[w].1 (z63.2 ⟨r[w],z81 z,rfl⟩);omega
theorem wG' (n Y b p o m:Nat) (nv mv:Value) (l:List (Nat×Value)) (A:ou' l) (z:Nat->World->Prop) (Z:World->Prop)
  (aa:∀i W,z i W->oC' W b p o m nv mv l) (ab:∀i W k,z i W->z i (W.drewN k))
  (ai:∀i W (h:i < l.length),i < m->z i W->YieldAt Fence.wide (n - 1) prog Y #[.int .i64 (l[i].1:Nat),l[i].2] W fun e G=>(e= .returned (.bool true)/\z (i+1) G)\/(e= .returned (.bool false)/\Z G))
  (W:World) (h0:z 0 W):
  CallsIn Fence.wide n prog 189 #[.func (.yield Y) #[] #[], .pointer (some ⟨b,0,none⟩), .pointer (some ⟨b+1,0,none⟩)] W fun e G=>(∃v,e= .returned v)/\(z (min m l.length) G\/Z G):=by
 have R:=aa 0 W h0;obtain⟨c1,c2,s0,s1,S⟩:=R;have av:=S.len;have O:(l.map (·.1)).length=l.length:=z43 _;obtain⟨F,J⟩:=exq (min m l.length);rw[<-J];have aj:F<=m:=by omega
 have ac:F<=l.length:=by omega
 have ak:min (m:Int) (l.length:Int)=F:=by omega
 refine callsIn_of_wp func189 rfl trivial ?_ rfl;refine uI'.2 ?_;simp only[ntmps189,List.size_toArray,List.length_cons,List.length_nil,Nat.reduceAdd,Nat.reduceSub,Array.replicate_succ,Array.replicate_zero,List.push_toArray,List.append_toArray,List.nil_append,List.cons_append];rcases S.nums.cases with ⟨M,ad⟩|⟨g,cap,ax,M,ay,hn,az,aA,ao⟩
 ·subst M;obtain rfl:l=[]:=by simpa using ad
  obtain rfl:F=0:=by simpa using ac
  have aB:min (m:Int) 0=0:=by omega
  clear S O ak J aj ac ad;go_wp2;go_quiet (fail);go_wp2;go_loopw[5,19] (fun _ i wr=>i= .int .i64 0/\z 0 wr) (fun _ _ _=>0)
  case atStart=>exact⟨rfl,ab 0 W _ h0⟩
  case round=>obtain⟨rfl,H⟩:=hrel;go_wp2;refine z77 (z65 rfl _ _ _) rfl ?_;exact⟨⟨_,rfl⟩, .inl H⟩
 ·rw[O]at M hn;subst M;clear S ao O;replace J:=m' J;go_wp2;go_quiet (fail);go_wp2;go_loopw[5,19] (fun _ i wr=>∃k:Nat,k<=F/\i= .int .i64 k/\z k wr) (fun _ i _=>l.length - (intOf i).toNat)
  case atStart=>exact⟨0,by omega,rfl,ab 0 W _ h0⟩
  case round=>
   obtain⟨k,hk,rfl,H⟩:=hrel;by_cases aC:k < F
   ·have I:k < l.length:=(by omega);obtain⟨c1,c2,s0,s1,S⟩:=aa k wr H;obtain⟨aD,aE,Q⟩:=A l[k] (z81 I);have aF:wr.cell? ⟨g,k,none⟩=some (.int .i64 (l[k].1:Int)):=(by rw[S.nums.cell' (by simpa using I)];simp[List.getD_eq_getElem?_getD,I]);have ah:=(bw' (P:=prog) (w:=wr) (t:=137) underlying137 underlying3 (sD' wr) S.map (l[k].1:Int)).2;rw[yl' S.sorted I,Q]at ah;have V:=ai k wr I (by omega) H;rw[Q]at V;simp only[Option.getD_some,cN']at ah V;obtain⟨fn,tmps,assign,body,aG,ap⟩:=V;clear S Q;generalize l[k].1=aH at *;go_upto_region 3 with fail;refine(uI' (n:=n)).1 ?_;gi_wp2;refine⟨fun h=>by simp[Fence.wide]at h,ap.mono ?_⟩;rintro e aI (⟨rfl,aq⟩|⟨rfl,au⟩)
    ·gi_wp2
     go_wp2;go_roundw
     case rel=>exact⟨k+1,by omega,by go_num,aq⟩
     case measure=>simp[intOf];omega
    ·gi_wp2
     go_wp2;refine z50 (z65 rfl _ _ _) rfl ?_;exact⟨⟨_,rfl⟩, .inr au⟩
   ·obtain rfl:k=F:=(by omega);go_wp2;refine z77 (z65 rfl _ _ _) rfl ?_;exact⟨⟨_,rfl⟩, .inl H⟩
end Go.Proofs.YtamafdcnbcoegaaGreat
