/-
  Part 6 of a proof.
-/
import Derived.Laws.Cover3
import Derived.Test.YtamafdcnbcoegabGreatOa5
set_option maxRecDepth 100000
set_option maxHeartbeats 40000000
namespace Go.Proofs.YtamafdcnbcoegabGreat
attribute [local simp, local go_sem] Ev Ep Ei Eb Et Ej Ea En Er Es
open Qb Mq
abbrev Bs:= @List.drop_succ_cons
abbrev Bt:= @List.take_succ_cons
abbrev Bu:= @Go.IntKind.wrap_u64
abbrev Mj:= @List.take_nil
open Go.RowKit Go.Proofs.Tryz
def DE (l:List (Nat×Value)) (n:Nat):Nat:=l.countP (·.1<=n)
variable{k:List Nat}{w a q:Nat}{d:List (Nat×Value)}{bW:Nat×Value}{p f:World}{j:TypeId}{y u:Value}{C:List Value}{l:Array Value}{aC:Array Oper}{J:Oper}{G:Act}{aB:Exit -> Act -> World -> Prop}{bJ:Dk}{aA:Nat×Nat}{H:Stv}{aD:Bool}{r:List UInt8}{F:Nat -> List z10}{L:Nat -> List (Nat×Value)}{m I cC:Nat -> Value}{x:Mq.Sk}{z bP:z10}{S:List z10}
theorem Gn (hs:k.Pairwise (· < ·)):k.countP (· < w)+(if k.contains w then 1 else 0)=k.countP (· <=w):=by
 induction k with
 |nil=>rfl
 |cons x r ih=>
  rw[z63]at hs;obtain⟨h0,hs⟩:=hs;have ih:=ih hs;rw[rW,rW,Ge];by_cases h1:x=w;subst h1;have hn:r.contains x=false:=by
   cases h:r.contains x with
   |false=>rfl
   |true=>have:=h0 x (by simpa using h);omega
  rw[hn]at ih;simp only[Bool.false_eq_true,if_false,Nat.add_zero]at ih;simp[ih];have z:(w==x)=false:=by simp;omega
  rw[z,Gi];generalize (if r.contains w=true then 1 else 0)=F at *;by_cases h2:x < w;have h3:x<=w:=by omega
  simp only[h2,h3,decide_true,if_true];omega;have h3:¬x<=w:=by omega
  simp only[h2,h3,decide_false,Bool.false_eq_true,if_false];omega
theorem Bv {n:Nat} (hs:(d.map (·.1)).Pairwise (· < ·)):(d.map (·.1)).countP (· < n)+(if(d.map (·.1)).contains n then 1 else 0)=DE d n:=by
 rw[Gn hs,List.countP_map];rfl
theorem Bw (l:List (Nat×Value)) (n:Nat):DE l n<=l.length:=rU
theorem xR {n:Nat} (hs:(d.map (·.1)).Pairwise (· < ·)):(∀x∈d.take (DE d n),x.1<=n)/\∀x∈d.drop (DE d n),n < x.1:=by
 induction d with
 |nil=>simp[DE]
 |cons x r ih=>
  rw[z50,z63]at hs;obtain⟨h0,hs⟩:=hs;obtain⟨G,H⟩:=ih hs;by_cases h:x.1<=n
  .have F:DE (x::r) n=DE r n+1:=(by simp[DE,h]);rw[F,Bt,Bs];refine⟨λy z=>?_,H⟩;cases z with
   |head=>exact h
   |tail _ z=>exact G y z
  .have F:DE (x::r) n=0:=by
    unfold DE;rw[Fj];intro y z;cases z with
    |head=>simpa using h
    |tail _ z=>have:=h0 y.1 (z66.2 ⟨y,z,rfl⟩);simp;omega
   rw[F];refine⟨by simp,λy z=>?_⟩;cases z with
   |head=>omega
   |tail _ z=>have:=h0 y.1 (z66.2 ⟨y,z,rfl⟩);omega
theorem YL (h:∀y∈d,bW.1 < y.1):fK (AV (bW::d)) bW.1=AV d:=by
 funext k;unfold fK;by_cases z:k=(bW.1:Int)
 .rw[if_pos z];cases F:AV d k with
  |none=>rfl
  |some v=>obtain⟨y,G,e,_⟩:=IW F;have:=h y G;omega
 rw[if_neg z,EI,if_neg z]
theorem Far.behind {E:Nat->Prop} {w:World} (h:Far E w p) (z:Below w.heap.size p f):Far E w f:=
 ⟨z.os.trans h.os,z.tape.trans h.tape,z.output.trans h.output,z26 h.size z.size,λk F G=>(z.block k F).trans (h.rest k F G)⟩
theorem IM {w':World} (h:p.ownsRow w j a y q C) (z:∀g,y.ownBlock=some g->w'.heap[g]? =p.heap[g]?):w'.ownsRow w j a y q C:=by
 obtain⟨h1,h2⟩:=h;refine⟨h1,?_⟩;rcases h2 with h2|⟨g,cap,F,rfl,hb,G,r⟩;exact .inl h2;exact .inr ⟨g,cap,F,rfl,hb,by rw[z g rfl];exact G,r⟩
def OA:Value->List Value
 | .agg a=>a.toList
 |v=>[v]
def LY (l:List (Nat×Value)):List Value:=l.flatMap λx=>OA x.2
theorem iH (l:List (Nat×Value)) (x:Nat×Value):LY (l++[x])=LY l++OA x.2:=by simp[LY]
structure Vn (w x:World) (p o:Nat) (t:TypeId) (arr:Array Value) (nv mv:Value) (l':List (Nat×Value)):Prop where
 out:∃nv',KP x p o t (arr.setIfInBounds o nv') nv' mv l'/\nv'.ownBlock=nv.ownBlock
 far:Far (λk=>k=p\/ShU nv mv k) w x
theorem Vn.step {x:World} (h:Vn p x w a j l y u d) (h1:l[a+1]? =some u):EC p x w a j l y u d:=by
 obtain⟨nv',S,e⟩:=h.out;have z:(l.setIfInBounds a nv').setIfInBounds (a+1) u=l.setIfInBounds a nv':=IX (by rw[z18 (by omega)];exact h1);exact⟨⟨nv',u,by rw[z];exact S,.inr (.inl e),.inl rfl⟩,h.far⟩
theorem Lb:(prog.info? 140).map (λi=>(i.zero,i.size,i.bytes))=some (some (.agg #[.string ⟨#[]⟩,Ej 0]),2,24):=by kernel_rfl
theorem fO (S:KP p w a j l y u d) (A:kM d) (n:Nat):
  Cp 166 #[Er w a,Ej n] p λe w'=>∃v,e=.returned v/\
   w'.ownsRow p.heap.size 140 2 v (DE d n) (LY (d.take (DE d n)))/\Vn p w' w a j l y u (d.drop (DE d n)):=by
 obtain⟨ac,h0,h1,S,av⟩:=S;have aO:a < l.size:=(z38.1 h0).1;have bH:a+1 < l.size:=(z38.1 h1).1;have c0:p.cell? (Ea w a)=some y:=(D' ac).trans h0;have bI:=S.len;have ad:=KD S.nums S.sorted (by simp;omega) n;have hcut:=Bv (n:=n) S.sorted;have aP:=Bw d n;have aQ:(d.map (·.1)).countP (· < n)<=d.length:=by have:=rU (p:=(· < n)) (l:=d.map (·.1));simpa using this
 obtain⟨i0,hi,bg,bh,bi⟩:=AT Lb;generalize DE d n=Y,(d.map (·.1)).countP (· < n)=k0,(d.map (·.1)).contains n=c at *;have G:(d.map (·.1)).length=d.length:=z42 _;have ah:=y' S;have bJ:=y' G;replace ad:=y' ad;rcases S.nums.cases with ⟨ax,aR⟩|⟨g,cap,bK,ax,aS,hn,aT,bL,bj⟩
 .subst ax;obtain rfl:d=[]:=by simpa using aR
  obtain rfl:Y=0:=by simpa using aP
  obtain rfl:k0=0:=by simpa using aQ
  have aT:c=false:=by cases c <;> simp_all
  subst aT;have M:=λH:World=>KF (FL H) 0 0 (by omega) (by simp);simp only[show((0:Nat):Int)=0 from rfl,List.take_nil,List.drop_nil,List.nil_append]at M;have bk:=λH=>y' (M H);clear S G M hcut aQ aP aR;simp only[show((0:Nat):Int)=0 from rfl]at ad;go_enter func166,ntmps166;go_upto_region 5 with (go_at_call 125;refine Cm ad ?_;rintro e H ⟨rfl,q,rfl⟩);go_wp2;go_loopw[5,9,29] (λv5 _ i wr=>v5=.slice none 0 0/\i=.int .i64 0/\wr=p.drewN q) (λ_ _ i _=>0)
  case atStart=>exact⟨rfl,rfl,rfl⟩
  case round=>obtain⟨rfl,rfl,rfl⟩:=hrel;go_upto_region 12 with fail;refine Cm (bk _) ?_;rintro e F ⟨nv',rfl,Q,I,Z⟩;obtain rfl:nv'=En:=(by rcases Q.cases with ⟨h,_⟩|⟨g',aU,bM,rfl,_⟩;exact h;cases Z);have aj:Far (λ_=>False) p F:=(BK (λ_=>False) p q).trans (I.mono (λ_ _ h=>by cases h)) Ih;have aa:=aj.blk ac id;have bl:=(D' aa).trans h0;have bm:F.frozen? ⟨w,a,none⟩=false:=(by simp[World.frozen?,aa]);replace Q:=y' Q;replace aj:=y' aj;clear I Z;go_wp2;go_ret;have ay:=d' ah;have bN:F.setCell ⟨w,a,none⟩ En=F.setCell ⟨w,a,none⟩ En:=rfl;refine⟨_,rfl,z20 _ _ _ _,⟨_,⟨AA aa,by simp[aO],by rw[z18 (by omega)];exact h1,⟨FL _,(ay.far (d' aj) Ih).map.keep (λb J=>AG (λe=>?_)),by simp,by simp⟩,av⟩,rfl⟩,((d' aj).mono (λ_ _ h=>h.elim)).trans (T' F w a _) (λ_ _ h=>.inl h)⟩;exact ay.ne ac av (.inr (by rw[J,e]))
 rw[G]at ax hn;subst ax;have bO:=y' S.nums;cases c;all_goals
  simp only[if_true,if_false,Bool.false_eq_true,Nat.add_zero]at hcut;clear S bj G;try (rw[hcut]at ad)
  have bn:((k0:Int)+1=(Y:Int))=((k0:Int)+1=(Y:Int)):=rfl;try (have bn:(k0:Int)+1=Y:=by omega)
  replace hcut:=y' hcut;go_enter func166,ntmps166;go_upto_region 5 with (go_at_call 125;refine Cm ad ?_;rintro e H ⟨rfl,q,rfl⟩)
 all_goals
  go_wp2;go_loopw[5,9,29] (λv5 _ i wr=>∃k:Nat,k<=Y/\i=.int .i64 k/\wr.ownsRow p.heap.size 140 2 v5 k (LY (d.take k))/\wr.heap[w]? =some (.cells l j (0,0))/\Jt wr (.slice (some ⟨g,0,none⟩) d.length cap) (d.map (·.1))/\fJ wr u (AV (d.drop k))/\Far (λb=>CT u=some b) p wr) (λ_ _ i _=>d.length - (intOf i).toNat)
  case atStart=>exact⟨0,by omega,rfl,z20 _ _ _ _,ac,(d' ah).nums,by rw[List.drop_zero];exact(d' ah).map,BK _ p q⟩
  case round=>
   obtain⟨k,bP,rfl,az,hb,N,aF,aA⟩:=hrel;by_cases bQ:k < Y
   .have G:k < d.length:=(by omega);obtain⟨b,bo,aB⟩:=A d[k] (z86 G);have aC:d.drop k=d[k]::d.drop (k+1):=Ga G;have V:AV (d.drop k) (d[k].1:Int)=some d[k].2:=(by rw[aC,EI,if_pos rfl]);have aV:=(d' ah).sorted;have aW:∀H∈d.drop (k+1),d[k].1 < H.1:=λH bp=>(by have h1:((d.drop k).map (·.1)).Pairwise (· < ·):=(by rw[xO];exact aV.drop);rw[aC,z50,z63]at h1;exact h1.1 H.1 (z66.2 ⟨H,bp,rfl⟩));have aG:=YL aW;rw[<-aC]at aG;have aH:LY (d.take (k+1))=LY (d.take k)++OA d[k].2:=(by rw[<-iH,sX,z17 G];rfl);have c0:=(D' hb).trans h0;have c1:=(D' hb).trans h1;have bR:wr.cell? (Ea g k)=some (Ej (d[k].1:Int)):=(by rw[N.cell' (by simpa using G)];simp[List.getD_eq_getElem?_getD,G]);rcases aF with ⟨rfl,ak⟩|⟨mb,rfl,ak⟩;rw[ak]at V;cases V;have aX:=(CX (P:=prog) (w:=wr) (t:=102) underlying102 underlying3 (tB wr) (.inr ⟨mb,rfl,ak⟩) (d[k].1:Int)).2;rw[V,aB]at aX;rw[aB]at aH;simp only[Option.getD_some,JD]at aX;have bq:=y' aH;have br:=y' aG;have ao:=y' az;have aq:=y' N;have ai:=y' ak;have aD:=y' aA;have bS:=y' aB;clear az N ak aA aH aG V aB aC aW aV;generalize aY:d[k].1=bt at *;replace aY:=y' aY;have aZ:=(d' aD).size;have bu:mb < p.heap.size:=(d' ah).map.lt mb rfl;have ba:=z12 ac;have bw:=λg' (z:u5.ownBlock=some g')=>z14 (d' ao) g' z;go_upto_region 9 with (at_builtin;refine z67 _ rfl (.tmp 33) (.tmp 40) 246 rfl p.heap.size 140 i0 (.agg #[.string ⟨#[]⟩,Ej 0]) 2 24 underlying246 hi bg bh bi rfl (by decide) u5 k (LY (d.take k)) rfl ((d' ao).alloc _) ⟨wr.heap.size,0,none⟩ 1 1 (OA (JD b bo)) rfl rfl AW (by intro bT hu;simp[OA,JD]at hu;first|(rcases hu with rfl|rfl <;> rfl)|(subst hu;rfl)) (by unfold maxLen;omega) (by omega) (by simp;omega) ?_;intro v' w1 au bb _;have ab:Below p.heap.size wr w1:=((z11 _ wr).alloc aZ _).trans (AB (B:=p.heap.size) bb (by simp;omega) (λg' z=>(bw g' z).1));obtain⟨aI,bc,aJ⟩:=MN (P:=prog) (w:=w1) (t:=102) (K':=3) underlying102 underlying3 ((d' ai).keep (ab.block mb bu)) bt;have bU:=λty=>bc ty w1 rfl;have aK:=(ab.block w ba).trans hb;have bV:=(D' aK).trans h1;replace au:=y' au;replace aJ:=y' aJ;replace ab:=y' ab;clear bb bc);go_wp2;have bz:w≠mb:=λe=>(d' ai).Jy (by rw[<-e];exact hb);have bA:=(d' aq).Ye (d' ai);have bW:=(z14 (d' aq) g rfl).2;have aL:g < p.heap.size:=z12 aS;have aE:=JS (w:=w1) mb aI;have bB:=(d' aq).keep (w':={w1 with heap:=w1.heap.setIfInBounds mb aI}) (λg' z=>by cases z;exact(aE.rest g (z21 aL (z26 aZ (d' ab).size)) (λe=>bA (by rw[e];rfl))).trans ((d' ab).block g aL));have bC:=IM (w':={w1 with heap:=w1.heap.setIfInBounds mb aI}) (d' au) (λg' z=>aE.rest g' (z14 (d' au) g' z).2 (λe=>by have:=(z14 (d' au) g' z).1;omega));refine⟨⟨k+1,by omega,by go_num,by rw[d' bq];exact bC,(aE.rest w (z12 aK) bz).trans aK,bB,.inr ⟨mb,rfl,by rw[<-d' br];exact d' aJ⟩,
     ((d' aD).behind (d' ab)).trans aE (λ_ _ h=>by rw[h];rfl)⟩,by simp[intOf];omega⟩
   obtain rfl:k=Y:=(by omega);have ao:=y' az;have aq:=y' N;have ai:=y' aF;have aD:=y' aA;have bD:(d.map (·.1)).length=d.length:=z42 _;have bd:g≠w:=λe=>(Ql.Jc N).ne hb (λe=>av e.symm) (by rw[<-e];rfl);have c0:=(D' hb).trans h0;have M:=KF N 0 k (by omega) (by omega);rw[show((0:Nat):Int)=0 from rfl,List.take_zero,z78,<-xO]at M;replace M:=y' M;clear az N aF aA bD;go_upto_region 12 with fail;refine Cm M ?_;rintro e F ⟨nv',rfl,Q,I,Z⟩;have aa:=I.blk hb (λe=>bd (by cases e;rfl));have bl:=(D' aa).trans h0;have bm:F.frozen? ⟨w,a,none⟩=false:=(by simp[World.frozen?,aa]);have V:(List.map (λx=>x.1) (List.drop k d)).length=d.length - k:=(by simp);have be:=(Ql.Jc Q).shape;rw[V]at be;obtain⟨bE,aU,rfl,_⟩:=be;replace V:=y' V;replace Q:=y' Q;replace Z:=y' Z;replace I:=y' I;go_wp2;go_ret;have ay:=d' ah;have bF:Far (λb=>b=w\/ShU (Es g 0 d.length cap) u b) p F:=((d' aD).mono (λ_ _ h=>.inr (.inr h))).trans (d' I) (λ_ _ h=>.inr (.inl h));have aM:∀b,b≠w->(F.setCell ⟨w,a,none⟩ (.slice bE (d.length - k) aU)).heap[b]? =F.heap[b]? :=λb hb=>AG hb;have bf:∀b,CT u=some b->b≠w/\F.heap[b]? =wr.heap[b]? :=λb J=>(by rcases d' ai with ⟨h,_⟩|⟨bX,h,aN⟩;rw[h]at J;cases J;rw[h]at J;cases J;exact⟨λe=>aN.Jy (by rw[e];exact hb),(d' I).rest b aN.lt (λe=>(d' aq).Ye aN e)⟩);refine⟨_,rfl,IM (d' ao) (λg' z=>?_),⟨_,⟨AA aa,by simp[aO],by rw[z18 (by omega)];exact h1,⟨(d' Q).keep (λg' z=>aM g' ?_),(d' ai).keep (λb J=>(aM b (bf b J).1).trans (bf b J).2),by rw[xO];exact ay.sorted.drop,by rw[z97];omega⟩,av⟩,d' Z⟩,bF.trans (T' F w a _) (λ_ _ h=>.inl h)⟩;have bG:=z14 (d' ao) g' z;have ba:=z12 ac;have aL:=z12 aS;exact(aM g' (by omega)).trans ((d' I).rest g' bG.2 (λe=>by have bY:g=g':=fB e;omega));rw[d' Z]at z;cases z;exact bd
theorem KG {P:Program} (w:World) (a:Addr) (ty:TypeId) (z:List Value) (G:∀j v,z[j]? =some v->w.cell? (a.add j)=some v)
  (H:(isAgg ty).run P w=.ok true w) (hi:(P.info? ty).map (·.size)=some z.length):
  (loadVar ty a).run P w=.ok (.agg z.toArray) w:=by
 have hl:(loadCells a z.length).run P w=.ok z.toArray w:=run_loadCells_list (P:=P) w a z G;cases F:P.info? ty with
 |none=>simp[F]at hi
 |some i=>
  have hs:i.size=z.length:=by simpa[F]using hi
  simp[loadVar,Sem.run_bind,H,sizeOf,typeInfo,F,hs,hl]
theorem VI (w:World):(isAgg 254).run prog w=.ok true w:=by
 simp[isAgg,run_underlying underlying254]
theorem PU:(prog.info? 254).map (·.size)=some 65:=by kernel_rfl
theorem RQ {rest:List Oper} (H:J.guard=none) (x:Operand) (I:J.op=.load 254 x)
  (F:Addr) (M:G.eval x=.pointer (some F)) (z:List Value) (Q:z.length=65) (V:∀j v,z[j]? =some v->p.cell? (F.add j)=some v)
  (h:wpList prog aC aB rest (G.put J.dst (.agg z.toArray)) p):wpList prog aC aB (J::rest) G p:=by
 refine jK H λK hK=>?_;unfold Oper.wp execOp;simp only[I,M,Instr.loadAt,Instr.sureAddr,Sem.run_bind,Sem.run_pure,Result.andThen_ok,KG p F 254 z V (VI p) (by rw[PU,Q])];exact hK _ _ h
theorem WF {K:Act->World->Prop} (x:Operand) (H:J.op=.load 254 x)
  (F:Addr) (I:G.eval x=.pointer (some F)) (z:List Value) (M:z.length=65) (Q:∀j v,z[j]? =some v->p.cell? (F.add j)=some v)
  (h:K (G.put J.dst (.agg z.toArray)) p):J.wp prog G p K aB:=by
 unfold Oper.wp execOp;simp only[H,I,Instr.loadAt,Instr.sureAddr,Sem.run_bind,Sem.run_pure,Result.andThen_ok,KG p F 254 z Q (VI p) (by rw[PU,M])];exact h
theorem iI (w:World) (p:Nat) (lv z:Value) (n:Int) (hb:Eh w p #[lv,z,Ej n,.bool true] 233):
  Cp 170 #[Er p 0] w λr w'=>Rr r (.tuple #[])/\w'=w:=by
 have c3:w.cell? (Ea p 3)=some (.bool true):=Bi 3 hb;clear hb;go_enter func170,ntmps170;go_wp2;exact z47 (z64 rfl _ _ _) rfl ⟨rfl,rfl⟩
structure tC (w x:World) (p:Nat) (lv:Value) (g o cap:Nat) (n:Int) (cs:List Value) (L:List UInt8):Prop where
 blk:x.heap[p]? =some (.cells #[lv,Es g o 1 cap,Ej n,.bool false] 233 (0,0))
 un:Ql x 254 65 (Es g o 1 cap) 1 cs
 row:x.ownsRow 0 5 1 lv L.length (bv L)
 far:Far (λj=>lv.ownBlock=some j) w x
theorem By (w:World) (p:Nat) (lv ac:Value) (n:Int) (k:Nat) (S L:List UInt8) (aq:S.length=64) (ad:64 * k+64<=L.length) (aI:L.length<=10000)
  (hb:w.heap[p]? =some (.cells #[lv,ac,Ej n,.bool false] 233 (0,0))) (hu:Ql w 254 65 ac 1 (Ej k::bv S)) (au:w.ownsRow 0 5 1 lv L.length (bv L)):
  Cp 170 #[.pointer (some ⟨p,0,none⟩)] w λr w'=>Rr r (.tuple #[])/\
   ∃ah,w'.heap[p]? =some (.cells #[lv,ah,Ej n,.bool false] 233 (0,0))/\ah.ownBlock=ac.ownBlock/\Ql w' 254 65 ah 0 []/\
    w'.ownsRow 0 5 1 lv (Xc L k S).length (bv (Xc L k S))/\Far (λj=>j=p\/lv.ownBlock=some j) w w':=by
 obtain⟨F,M⟩:=exq (Value.int .i64 k::bv S);rw[<-M]at hu;have Q:F.length=65:=by rw[M];simp[AC,aq]
 have aJ:∀u∈F,u.oneCell'=true:=by
  rw[M];intro u hu;cases hu with
  |head=>rfl
  |tail _ hu=>exact GO S u hu
 have aK:=y' M;clear M;obtain⟨aZ,cap,rfl,ba,aL,Y⟩:=hu.shape;obtain⟨g,o,rfl,Z⟩:=Y (by omega);have bb:=z12 hb;have av:tC w w p lv g o cap n F L:=⟨hb,hu,au,Far.refl _ _⟩;have c3:w.cell? ⟨p,3,none⟩=some (.bool false):=Bi 3 hb;have c1:w.cell? ⟨p,1,none⟩=some (.slice (some ⟨g,o,none⟩) 1 cap):=Bi 1 hb;have ax:=y' av;clear hb hu au av Z Y;go_enter func170,ntmps170;go_upto_region 2 with fail;go_wp2;go_loopw[3,13] (λ_ i wr=>∃j:Nat,j<=1/\i=.int .i64 j/\tC w wr p lv g o cap n F (if j=0 then L else Xc L k S)) (λ_ i _=>1 - (intOf i).toNat)
 case atStart=>exact⟨0,by omega,rfl,d' ax⟩
 case round=>
  obtain⟨j,hj,rfl,z⟩:=hrel;clear ax c1 c3;rcases(show j=0\/j=1 by omega)with rfl|rfl
  .have z:tC w wr p lv g o cap n F L:=z;have c0:wr.cell? ⟨p,0,none⟩=some lv:=Bi 0 z.blk;have Z:∀j v,F[j]? =some v->wr.cell? ((⟨g,o,none⟩:Addr).add j)=some v:=(by obtain⟨bc,aM,e,_,_,Y⟩:=z.un.shape;obtain⟨g',aN,aO,aP⟩:=Y (by omega);cases e;cases aO;intro j v hj;have bd:j < 65:=(by rw[<-Q];exact(z25.1 hj).1);rw[JB,aP j (by omega)];exact hj);have be:=z12 z.blk;have J:=y' z;have ay:=y' Z;clear z Z;go_upto_region 4 with (first
    |(refine RQ rfl (.tmp 15) rfl ⟨g,o,none⟩ rfl F Q (d' ay) ?_)
    |(refine wpList_store_row rfl 254 (.tmp 3) (.tmp 16) rfl wr.heap.size F.toArray rfl rfl 254 _ (z19 _ _) (by rw[PU];simp[Q]) (by simp[Q]) (by rw[z43];intro v aQ;exact aJ v (by simpa using aQ)) ?_;go_simp))
   refine G' (λx=>x.heap[wr.heap.size]? =some (.cells F.toArray 254 (0,0))/\tC w x p lv g o cap n F L) ?_ ?_;have hF:Far (λ_=>False) wr ((wr.alloc (.cells Tryz.zeroCells254 254)).setRow wr.heap.size F.toArray):=
    ⟨rfl,rfl,rfl,by simp,λk ad _=>(mU _ _ k _ (by omega)).trans (hao _ _ ad)⟩
   refine⟨z91 _ _ _ _ _ _ (z19 _ _),hF.blk (d' J).blk (λh=>h),(d' J).un.far hF Ih,BA (d' J).row (λg V=>hF.rest g (z14 (d' J).row g V).2 (λh=>h)),(d' J).far.trans hF (λ_ _ h=>h.elim)⟩;rintro x ⟨ai,H⟩;have az:x.cell? ⟨p,0,none⟩=some lv:=Bi 0 H.blk;have aR:=z12 H.blk;have aS:=z12 ai;have aA:=y' ai;have aB:=y' H;have aj:=λy aT=>y' (xP y k S L lv aq ad aI aT);rw[<-d' aK]at aj;clear ai H J ay c0;refine Z'
    [Ev (.agg F.toArray),Ep p 0,Ep p 0,Ep p 0,Ev lv,Et]
    [[3],[0],[2018],[3019],[4020],[1017,5021]] [18,19,20,21,22,23] [17,6,9]
    5 _ rfl rfl ?_ ?_
   .refine⟨?_,?_,?_,?_,?_,trivial⟩;all_goals
     intro a y hb aC;have bf:=Bc hb (by show p < _;omega) az;have aD:=(hb.block _ aS).trans (d' aA);clear hb;simp[J']at aC
    rw[if_pos (by rfl)];refine WF (.tmp 3) rfl ⟨wr.heap.size,0,none⟩ (by simp[Act.eval,aC]) F Q ?_ ⟨_,rfl,z11 _ _,rfl⟩;intro j v hj;rw[JB,D' aD,Gf,z45];exact hj;all_goals
     clear aD;go_simp;try exact⟨_,rfl,z11 _ _,rfl⟩
     try exact z11 _ _
   intro f y hb aa;simp only[AJ,List.take]at aa;have aE:=aa.1;have aF:=aa.2.2.2.2.1;simp only[V',aE,aF];have z:tC w y p lv g o cap n F L:=by have H:=d' aB;exact⟨(hb.block _ aR).trans H.blk,H.un.keep (λg V=>hb.block g (H.un.lt g V)),BA H.row (λg V=>hb.block g (z14 H.row g V).2),H.far.trans (fbF hb) (λ_ _ h=>h.elim)⟩
   have ak:=y' z;clear hb aa aE aF z aB aA az;go_simp;refine Cm (aj y (d' ak).row) ?_;rintro r aU ⟨rfl,aG,ab⟩;have z:=d' ak;have aH:∀h,lv.ownBlock=some h->h≠p:=λh I e=>(Ql.Jc z.row).ne z.blk (by decide) (by rw[I,e]);have G:tC w aU p lv g o cap n F (Xc L k S):=
    ⟨ab.blk z.blk (λe=>aH _ e rfl),z.un.far ab (λh I e=>(Ql.Jc z.row).ty z.un (by decide) e I),aG,z.far.trans ab Ih⟩
   have aV:=y' G;clear z G aG ab ak aj aH;go_wp2;exact⟨⟨1,by omega,by go_num,d' aV⟩,by simp[intOf]⟩
  have z:tC w wr p lv g o cap n F (Xc L k S):=z;have c1:wr.cell? ⟨p,1,none⟩=some (.slice (some ⟨g,o,none⟩) 1 cap):=Bi 1 z.blk;have f1:wr.frozen? ⟨p,1,none⟩=false:=H' (i:=1) z.blk;have J:=y' z;clear z;go_wp2;refine z74 (z64 rfl _ _ _) rfl ⟨rfl,?_⟩;have G:=d' J;have ao:=T' wr p 1 (.slice (some ⟨g,o,none⟩) 0 cap);refine⟨.slice (some ⟨g,o,none⟩) 0 cap,?_,rfl,?_,BA G.row (λh I=>ao.rest h (z14 G.row h I).2 (λe=>(Ql.Jc G.row).ne G.blk (by decide) (by rw[I,e]))),?_⟩;have:=AA (j:=1) (v:=.slice (some ⟨g,o,none⟩) 0 cap) G.blk;simpa using this;have h0:=G.un.far ao (λh I e=>G.un.ne G.blk (by decide) (by rw[I,e]));obtain⟨_,h2⟩:=h0;rcases h2 with ⟨h2,_⟩|⟨g',aN,aM,aW,aX,I,bg,bh,aY,bi⟩;cases h2;cases aX;exact⟨by simp,.inr ⟨g,o,cap,aW,rfl,I,z54 _,aL,aY,by simp⟩⟩;exact(G.far.mono (λ_ _ h=>.inr h)).trans ao (λ_ _ h=>.inl h)
theorem KH (w:World) (s dp k:Nat) (S:List UInt8) (ad:S.length=64) (e:Int) (R V:World->Prop) (E:Nat->Prop)
  (hs:∀y,El w y\/R y->y.cell? (Ea s 0)=some (C' dp))
  (Y:∀y,El w y->Cp 169 #[C' dp,Ej k,.agg (bv S).toArray] y λr w'=>Rr r (Ej e)/\R w'/\Far E y w')
  (ah:∀y z,R y->El y z->R z)
  (Z:∀y,R y->Cp 170 #[C' dp] y λr w'=>Rr r (.tuple #[])/\V w'):
  Cp 123 #[C' s,Ej k,.agg (bv S).toArray] w λr w'=>Rr r (Ej e)/\V w':=by
 unfold C' at *;have aa:=y' hs;have ai:=y' Y;have aj:=y' Z;clear hs Y Z;go_enter func123,ntmps123;go_upto_region 1 with fail;refine G' (λx=>x.heap[w.heap.size]? =some (.cells (bv S).toArray 214 (0,0))/\El w x) ⟨z19 w _,bna⟩ ?_;rintro x ⟨h0,ab⟩;have av:=z12 h0;have ak:=y' h0;have H:=y' ab;clear h0 ab;refine AH
  [Ep s 0,Ep s 0,Ep s 0,Ep dp 0,Ei k,Ev (.agg (bv S).toArray),λv y=>v=Ej e/\R y,Ei e]
  [[0],[1008],[2009],[3010],[1],[5],[4011,5012,6013],[7014]] [9,10,11,12,13,14,15,8] [7,8,6]
  [(6,E)] ?_ ?_ (hst:=by repeat' (first|exact Y' _|exact(λ_ y z h hb=>⟨h.1,ah y z h.2 hb⟩)|exact trivial|apply z13))
 .refine⟨?_,?_,?_,?_,?_,?_,?_,?_,trivial⟩;all_goals
   intro a z hb I;simp[J']at I
  .go_simp;exact⟨_,rfl,Far.refl _ _,rfl⟩
  .go_simp;exact⟨_,rfl,Far.refl _ _,rfl⟩
  .go_simp;exact⟨_,rfl,Far.refl _ _,rfl⟩
  .have G:El w z:=(d' H).trans ((hb.below (B:=x.heap.size) (z16 _) (by rintro j hj ⟨q,F,g1,g2,ac⟩;simp at F;subst F;exact absurd (show DM _ 6 3=false from g2) (by decide+kernel))).mono (d' H).size);have c0:=(d' aa) z (.inl G);clear G;go_simp;exact⟨_,rfl,Far.refl _ _,rfl⟩
  .go_simp;exact⟨_,rfl,Far.refl _ _,rfl⟩
  have d1:=hb.blk (d' ak) (by rintro⟨q,F,g1,g2,ac⟩;simp at F;subst F;exact absurd (show DM _ 6 5=false from g2) (by decide+kernel));rw[if_pos (by rfl)];refine FH (.tmp 5) rfl w.heap.size (by simp[Act.eval,I]) 214 S ad d1 ?_;exact⟨_,rfl,Far.refl _ _,rfl⟩
  .have G:El w z:=(d' H).trans ((hb.below (B:=x.heap.size) (z16 _) (by rintro j hj ⟨q,F,g1,g2,ac⟩;simp at F;subst F;exact g1 rfl)).mono (d' H).size);have M:=y' ((d' ai) z G);clear G;go_simp;refine Cm M ?_;rintro r w1 ⟨rfl,ao,hF⟩;exact⟨_,rfl,AQ (.head _) hF,rfl,ao⟩
  obtain⟨I,_⟩:=I;go_simp;exact⟨_,rfl,Far.refl _ _,rfl⟩
 intro f z hF Q;have J:=Q.2.2.2.2.2.2.1;have aq:=Q.2.2.2.2.2.2.2.1;have ax:=y' J.2;have c0:=(d' aa) z (.inr J.2);have M:=y' ((d' aj) z J.2);clear Q hF J;simp only[V',aq];go_simp;go_wp2_with (go_at_call 170;refine Cm M ?_;rintro r u ⟨rfl,au⟩);go_ret;exact⟨rfl,au⟩
theorem KW (D:Vq p w bJ y u) (hs:p.heap[a]? =some (.cells l j aA)) (h1:233≠j) (h2:5≠j) (h3:254≠j):¬DkU w y u a:=by
 rintro(h|h|h);subst h;have:=D.blk;rw[hs]at this;injection this with this;injection this with _ this _;exact h1 this.symm;exact(Ql.Jc D.row).ne hs h2 h;exact D.un.ne hs h3 h
theorem OC (w:World) (s dp:Nat) (lv F a b c:Value) (d:Dk) (k:Nat) (S:List UInt8) (M:S.length=64) (Y:64 * k+64<=d.bytes.length)
  (hs:Eh w s #[C' dp,a,b,c] 190) (D:Vq w dp d lv F):
  Cp 123 #[C' s,Ej k,.agg (bv S).toArray] w λr w'=>Rr r (Ej (d.put k S).1)/\
   ∃J,Vq w' dp (d.put k S).2 lv J/\Loc w F J/\Far (DkU dp lv F) w w':=by
 have aa:=KW D hs (by decide) (by decide) (by decide);have ah:=D.lt;have c0:∀y,Far (DkU dp lv F) w y->y.cell? (Ea s 0)=some (C' dp):=λy hF=>Bi 0 (hF.blk hs aa);by_cases hd:d.dead=true;rw[Dk.put,if_pos hd];have hb:=D.blk;rw[hd]at hb;refine(KH w s dp k S M 3 (λy=>El w y) (λy=>El w y) (λ_=>False) ?_ ?_ ?_ ?_).mono ?_;rintro y (h|h);exact c0 y (I' h);exact c0 y (I' h);intro y z;refine(YD y dp lv F d.Xr k S ((z.block _ (z12 hb)).trans hb)).mono ?_;rintro r H ⟨rfl,V⟩;exact⟨rfl,z.trans (V.mono z.size),I' V⟩;exactλy H h hb=>h.trans (hb.mono h.size);intro y z;refine(iI y dp lv F d.Xr ((z.block _ (z12 hb)).trans hb)).mono ?_;rintro r H ⟨rfl,rfl⟩;exact⟨rfl,z⟩;rintro r y ⟨rfl,z⟩;exact⟨rfl,F,D.far (fbF z) Ih,.inr (.inl rfl),I' z⟩;have hd:d.dead=false:=by cases h:d.dead with|true=>exact absurd h hd|false=>rfl
 have hb:=D.blk;rw[hd]at hb;by_cases Q:d.Xr=1;rw[Dk.put,if_neg (by simp[hd]),if_pos Q];rw[Q]at hb;refine(KH w s dp k S M 4 (λy=>Eh y dp #[lv,F,Ej 1,.bool true] 233/\Far (λj=>j=dp) w y) (λy=>Eh y dp #[lv,F,Ej 1,.bool true] 233/\Far (λj=>j=dp) w y) (λj=>j=dp) ?_ ?_ ?_ ?_).mono ?_;rintro y (h|h);exact c0 y (I' h);exact c0 y (h.2.mono (λ_ _ e=>.inl e));intro y z;refine(YE y dp lv F k S ((z.block _ (z12 hb)).trans hb)).mono ?_;rintro r H ⟨rfl,V,hF⟩;exact⟨rfl,⟨V,(I' (E:=λj=>j=dp) z).trans hF Ih⟩,hF⟩;exactλy H h hb=>⟨(hb.block _ (z12 h.1)).trans h.1,h.2.trans (fbF hb) (λ_ _ h=>h.elim)⟩;intro y z;refine(iI y dp lv F 1 z.1).mono ?_;rintro r H ⟨rfl,rfl⟩;exact⟨rfl,z⟩;rintro r y ⟨rfl,z,hF⟩;refine⟨rfl,F,⟨by rw[Q];exact z,BA D.row (λg G=>hF.rest g (z14 D.row g G).2 (λe=>(Ql.Jc D.row).ne hb (by decide) (by rw[G,e]))),D.un.far hF (λg G e=>D.un.ne hb (by decide) (by rw[G,e])),D.len,D.arm⟩,.inr (.inl rfl),hF.mono (λ_ _ e=>.inl e)⟩;rw[Dk.put,if_neg (by simp[hd]),if_neg Q];have ai:=D.un.ne hb (by decide);have ab:=(Ql.Jc D.row).ne hb (by decide);refine(KH w s dp k S M 0 (λy=>Gm w dp lv F (d.Xr - 1:Nat) (Ej k::bv S) y/\Far (λj=>j=dp\/F.ownBlock=some j) w y)
  (λy=>∃J,Vq y dp {bytes:=Xc d.bytes k S,Xr:=d.Xr - 1,dead:=false} lv J/\Loc w F J/\Far (DkU dp lv F) w y) (λj=>j=dp\/F.ownBlock=some j) ?_ ?_ ?_ ?_).mono ?_
 rintro y (h|h);exact c0 y (I' h);exact c0 y (h.2.mono (λ_ _ e=>e.elim .inl (λe=>.inr (.inr e))));intro y z;refine(kK y dp lv F d.Xr k S M Q D.arm ((z.block _ (z12 hb)).trans hb) (D.un.keep (λg G=>z.block g (D.un.lt g G)))).mono ?_;rintro r H ⟨rfl,⟨v,g1,g2,I,Z⟩,hF⟩;exact⟨rfl,⟨⟨v,g1,g2,EG I z.size,z26 z.size Z⟩,(I' (E:=λj=>j=dp\/F.ownBlock=some j) z).trans hF Ih⟩,hF⟩;exactλy H h hb=>⟨aA' w dp lv F _ _ undef y H h.1 hb,h.2.trans (fbF hb) (λ_ _ h=>h.elim)⟩;rintro y ⟨⟨v,g1,g2,I,Z⟩,hF⟩;have ac:=BA D.row (w':=y) (λg G=>hF.rest g (z14 D.row g G).2 (by rintro(e|e);exact ab (by rw[G,e]);exact(Ql.Jc D.row).ty D.un (by decide) G e));refine(By y dp lv v _ k S d.bytes M Y D.len.2 g1 g2 ac).mono ?_;rintro r H ⟨rfl,J,k1,k2,k3,k4,k5⟩;refine⟨rfl,J,⟨k1,k4,k3,by rw[Xa M Y];exact D.len,by have:=D.arm;show d.Xr - 1<= _;omega⟩,?_,?_⟩;rcases I with I|I|⟨g,I,ad⟩;exact .inl (by rw[k2];exact I);exact .inr (.inl (by rw[k2];exact I));exact .inr (.inr ⟨g,by rw[k2];exact I,ad⟩);refine(hF.mono (λ_ _ e=>e.elim .inl (λe=>.inr (.inr e)))).trans k5 (λj _ e=>e.elim .inl (λe=>.inr (.inl e)));rintro r y ⟨rfl,h⟩;exact⟨rfl,h⟩
structure Zp (w:World) (s dp:Nat) (st:Stv) (lv uv:Value):Prop where
 blk:w.heap[s]? =some (.cells #[C' dp,.int .u32 st.Qe,.int .u64 st.count,Ej st.head] 190 (0,0))
 dk:Vq w dp st.dk lv uv
 op:st.Qe < 4294967296
 ct:st.count < 18446744073709551616
 hd:st.head<=1
def StU (s dp:Nat) (lv z:Value) (k:Nat):Prop:=k=s\/DkU dp lv z k
theorem Zp.sep (h:Zp p w a H y u):¬DkU a y u w:=KW h.dk h.blk (by decide) (by decide) (by decide)
theorem Zp.far {E:Nat->Prop} {w x:World} {s dp:Nat} {st:Stv} {lv z:Value} (h:Zp w s dp st lv z) (F:Far E w x) (G:∀k,StU s dp lv z k->¬E k):Zp x s dp st lv z:=
 ⟨F.blk h.blk (G s (.inl rfl)),h.dk.far F (λk H=>G k (.inr H)),h.op,h.ct,h.hd⟩
theorem Zp.lt {w:World} {s dp:Nat} {st:Stv} {lv z:Value} (h:Zp w s dp st lv z):∀k,StU s dp lv z k->k < w.heap.size:=by
 rintro k (rfl|F);exact z12 h.blk;exact h.dk.lt k F
theorem EY (w:World) (s dp:Nat) (st:Stv) (lv F:Value) (G:Zp w s dp st lv F) (a b d:Nat) (aD:a < 4294967296) (hb:b < 4294967296) (hd:d < 4294967296):
  Cp 114 #[C' s,.agg #[Ej a,Ej b,Ej d]] w λr w'=>Rr r (Ej (st.Qp a b d).1)/\
   ∃H,Zp w' s dp (st.Qp a b d).2 lv H/\Loc w F H/\Far (StU s dp lv F) w w':=by
 have ao:=z12 G.blk;have aq:st.next < 18446744073709551616:=Nat.mod_lt _ (by omega)
 have aU:=G.dk.len;have Z:64 * (1 - st.head)+64<=st.dk.bytes.length:=by omega
 have au:=Jz st.Qe st.next (inside:=Jw a b d) (by rw[Ju];omega)
 have aV:=G.hd;have M:=y' G;unfold C' at *;go_enter func114,ntmps114;have Q:=λz=>(hao w z ao).trans G.blk;have c1:∀z,(w.alloc z).cell? ⟨s,3,none⟩=some (Ej st.head):=λz=>Bi 3 (Q z);have c2:∀z,(w.alloc z).cell? ⟨s,2,none⟩=some (.int .u64 st.count):=λz=>Bi 2 (Q z);have d1:w.cell? ⟨s,3,none⟩=some (Ej st.head):=Bi 3 G.blk;have d2:w.cell? ⟨s,2,none⟩=some (.int .u64 st.count):=Bi 2 G.blk;have f1:∀z,(w.alloc z).frozen? ⟨s,3,none⟩=false:=λz=>H' (i:=3) (Q z);have f2:∀z,(w.alloc z).frozen? ⟨s,2,none⟩=false:=λz=>H' (i:=2) (Q z);have g1:w.frozen? ⟨s,3,none⟩=false:=H' (i:=3) G.blk;have g2:w.frozen? ⟨s,2,none⟩=false:=H' (i:=2) G.blk;clear G Q;have aE:IntKind.i64.wrap (1 - (st.head:Int))=1 - (st.head:Int):=by rw[z28];omega
 go_upto_region 3 with fail
 have hn:IntKind.u64.wrap ((st.count:Int)+1)=((st.next:Nat):Int):=by rw[Bu,Stv.next];omega
 have av:1 - (st.head:Int)=((1 - st.head:Nat):Int):=by omega
 refine G' (λx=>x.heap[s]? =some (.cells #[Er dp 0,.int .u32 st.Qe,.int .u64 st.next,Ej (1 - st.head:Nat)] 190 (0,0))/\x.heap[w.heap.size]? =some (.cells #[Ej a,Ej b,Ej d] 100 (0,0))/\Vq x dp st.dk lv F/\Far (λk=>k=s) w x/\w.heap.size < x.heap.size) ?_ ?_;rw[hn,av];have hF:Far (λk=>k=s) w (((w.setCell ⟨s,3,none⟩ (Ej (1 - st.head:Nat))).setCell ⟨s,2,none⟩ (.int .u64 st.next)).alloc (.cells #[Ej a,Ej b,Ej d] 100)):=
  ((T' w s 3 _).trans (T' _ s 2 _) Ih).trans (I' bna) Ih
 refine⟨?_,?_,(d' M).dk.far hF (λk Z e=>(d' M).sep (by rw[<-e];exact Z)),hF,by simp⟩;rw[hao _ _ (by simp;exact ao)];have h1:=AA (j:=3) (v:=Ej (1 - st.head:Nat)) (d' M).blk;have h2:=AA (j:=2) (v:=.int .u64 st.next) h1;simpa[C']using h2;have:=z19 ((w.setCell ⟨s,3,none⟩ (Ej (1 - st.head:Nat))).setCell ⟨s,2,none⟩ (.int .u64 st.next)) (.cells #[Ej a,Ej b,Ej d] 100);simpa using this;rintro x ⟨h0,h1,J,hF,aW⟩;have aX:=z12 h0;have ax:¬DkU dp lv F s:=KW J h0 (by decide) (by decide) (by decide);have aF:¬DkU dp lv F w.heap.size:=KW J h1 (by decide) (by decide) (by decide);have aY:=J.lt;obtain⟨aa,ab⟩:=exq (Xd st.Qe st.next (Jw a b d));rw[<-ab]at au;have ac:=λy (hb:y.heap[s]? = _) (J:Vq y dp st.dk lv F)=>y' (OC y s dp lv F (.int .u32 st.Qe) (.int .u64 st.next) (Ej (1 - st.head:Nat)) st.dk (1 - st.head) aa au Z hb J);have ay:=λy=>y' (RK st.Qe st.next a b d y (d' M).op aq aD hb hd);rw[<-ab]at ay;obtain⟨ad,ah⟩:=exq ((st.dk.put (1 - st.head) aa).1);obtain⟨az,ai⟩:=exq ((st.dk.put (1 - st.head) aa).2);rw[<-ah,<-ai]at ac;have aG:=y' (z13 ab (z13 ah ai));have aA:=y' h0;have aH:=y' h1;have aI:=y' J;have aJ:=y' hF;clear ab ah ai h0 h1 J hF c1 c2 d1 d2 f1 f2 g1 g2 aE hn av;unfold C' at ac;refine AH
  [Ep s 0,Ep s 0,Ep s 0,Ep s 3,Ei (1 - st.head:Nat),
   Ep s 0,Ep s 0,Ep s 1,Ev (.agg #[.int .u32 st.Qe,.int .u64 st.next]),Ev (.agg #[Ej a,Ej b,Ej d]),
   Ev (.agg #[.int .u32 st.Qe,.int .u64 st.next,Ej a,Ej b,Ej d]),Ev (.agg (bv aa).toArray),λv y=>v=Ej ad/\∃H,Vq y dp az lv H/\Loc x F H,Ei ad]
  [[0],[0],[2023],[3024],[4025],[0],[6027],[7028],[8029],[3],[9030,10031],[11032],[1022,5026,12033],[13034]] [23,24,25,26,27,28,29,30,31,32,33,34,35,5] [4,1,17,13]
  [(12,DkU dp lv F)] ?_ ?_ (hst:=by repeat' (first|exact Y' _|exact(λ_ y I h hb=>⟨h.1,h.2.imp λH h=>⟨h.1.far (fbF hb) Ih,h.2⟩⟩)|exact trivial|apply z13))
 .refine⟨?_,?_,?_,?_,?_,?_,?_,?_,?_,?_,?_,?_,?_,?_,trivial⟩;all_goals
   intro a' I hb aj;have z0:=hb.blk (d' aA) (AS (by exact ax));have aB:=hb.blk (d' aH) (AS (by exact aF));have aZ:I.cell? ⟨s,1,none⟩=some (.int .u32 st.Qe):=Bi 1 z0;have ba:I.cell? ⟨s,2,none⟩=some (.int .u64 st.next):=Bi 2 z0;have bb:I.cell? ⟨s,3,none⟩=some (Ej (1 - st.head:Nat)):=Bi 3 z0;obtain⟨n0,n1,n2⟩:=PM aB;have aK:=y' z0;clear z0 aB;simp[J']at aj
  iterate 11
   .clear hb;go_simp;exact⟨_,rfl,Far.refl _ _,rfl⟩
  .clear hb;go_simp;refine Cm (ay I) ?_;rintro r w1 ⟨rfl,aL⟩;exact⟨_,rfl,I' aL,rfl⟩
  .have aC:=(d' aI).far hb (by rintro k Z ⟨q,V,g1,g2,bc⟩;simp at V;subst V;exact g1 rfl);have aM:=y' (d' (ac I (d' aK) aC));have aN:=hb.size;clear hb aC;go_simp;refine Cm aM ?_;rintro r w1 ⟨rfl,H,k1,k2,k3⟩;exact⟨_,rfl,AQ (.head _) k3,rfl,H,k1,EG k2 aN⟩
  clear hb;obtain⟨aj,_⟩:=aj;go_simp;exact⟨_,rfl,Far.refl _ _,rfl⟩
 intro f I Y ak;obtain⟨_,H,k1,k2⟩:=ak.2.2.2.2.2.2.2.2.2.2.2.2.1;have aO:=ak.2.2.2.2.2.2.2.2.2.2.2.2.2.1;have Y:Far (DkU dp lv F) x I:=Y.mono (λb _ h=>by obtain⟨q,V,h⟩:=h;simp at V;subst V;exact h);have z0:=Y.blk (d' aA) ax;have aP:=y' (z13 k1 (z13 k2 (z13 Y z0)));clear ak k1 k2 Y z0;simp only[V',aO];go_simp;go_wp2;go_ret;obtain⟨k1,k2,k3,k4⟩:=d' aP;obtain⟨aQ,aR,aS⟩:=d' aG;have aT:st.Qp a b d=(ad,{st with head:=1 - st.head,count:=st.next,dk:=az}):=by unfold Stv.Qp;rw[<-aQ,<-aR,<-aS]
 rw[aT];exact⟨rfl,H,⟨k4,k1,(d' M).op,aq,by show 1 - st.head<=1;omega⟩,EG k2 (by omega),((d' aJ).mono (λ_ _ e=>.inl e)).trans k3 (λ_ _ e=>.inr e)⟩
theorem JE (w:World) (s dp:Nat) (st:Stv) (lv F:Value) (I:Zp w s dp st lv F) (z sm q:Nat) (body:z10) (aF:64 * (2+z)+64<=st.dk.bytes.length) (aG:sm < 256) (J:q < 4294967296) (aH:body.size<=20):
  Cp 80 #[C' s,Ej z,.agg #[Ej sm,Ej q,.string body]] w λr w'=>Rr r (Ej (st.Qu z sm q body.data.toList).1)/\
   ∃G,Zp w' s dp (st.Qu z sm q body.data.toList).2 lv G/\Loc w F G/\Far (StU s dp lv F) w w':=by
 have ao:=z12 I.blk;have aq:st.next < 18446744073709551616:=Nat.mod_lt _ (by omega)
 have ba:=I.dk.len;have au:=Jz st.Qe st.next (inside:=Zd sm q body.data.toList) (by rw[Zr];simp;omega)
 have aI:=I.hd;have V:=y' I;unfold C' at *;go_enter func80,ntmps80;have ac:=λH=>(hao w H ao).trans I.blk;have c2:∀H,(w.alloc H).cell? ⟨s,2,none⟩=some (.int .u64 st.count):=λH=>Bi 2 (ac H);have d2:w.cell? ⟨s,2,none⟩=some (.int .u64 st.count):=Bi 2 I.blk;have f2:∀H,(w.alloc H).frozen? ⟨s,2,none⟩=false:=λH=>H' (i:=2) (ac H);have g2:w.frozen? ⟨s,2,none⟩=false:=H' (i:=2) I.blk;clear I ac;have aJ:IntKind.i64.wrap (2+(z:Int))=2+(z:Int):=by rw[z28];omega
 go_upto_region 2 with fail
 have hn:IntKind.u64.wrap ((st.count:Int)+1)=((st.next:Nat):Int):=by rw[Bu,Stv.next];omega
 refine G' (λx=>x.heap[s]? =some (.cells #[Er dp 0,.int .u32 st.Qe,.int .u64 st.next,Ej st.head] 190 (0,0))/\x.heap[w.heap.size]? =some (.cells #[Ej sm,Ej q,.string body] 150 (0,0))/\Vq x dp st.dk lv F/\Far (λk=>k=s) w x/\w.heap.size < x.heap.size) ?_ ?_;rw[hn];have hF:Far (λk=>k=s) w ((w.setCell ⟨s,2,none⟩ (.int .u64 st.next)).alloc (.cells #[Ej sm,Ej q,.string body] 150)):=
  (T' w s 2 _).trans (I' bna) Ih
 refine⟨?_,?_,(d' V).dk.far hF (λk av e=>(d' V).sep (by rw[<-e];exact av)),hF,by simp⟩;rw[hao _ _ (by simp;exact ao)];have h2:=AA (j:=2) (v:=.int .u64 st.next) (d' V).blk;simpa[C']using h2;have:=z19 (w.setCell ⟨s,2,none⟩ (.int .u64 st.next)) (.cells #[Ej sm,Ej q,.string body] 150);simpa using this;rintro x ⟨h0,h1,Q,hF,bb⟩;have bc:=z12 h0;have ax:¬DkU dp lv F s:=KW Q h0 (by decide) (by decide) (by decide);have aK:¬DkU dp lv F w.heap.size:=KW Q h1 (by decide) (by decide) (by decide);obtain⟨Z,aa⟩:=exq (Xd st.Qe st.next (Zd sm q body.data.toList));rw[<-aa]at au;have ab:=λy (hb:y.heap[s]? = _) (Q:Vq y dp st.dk lv F)=>y' (OC y s dp lv F (.int .u32 st.Qe) (.int .u64 st.next) (Ej st.head) st.dk (2+z) Z au aF hb Q);have ay:=λy=>y' (NV st.Qe st.next sm q body y (d' V).op aq aG J aH);rw[<-aa]at ay;obtain⟨ad,ah⟩:=exq ((st.dk.put (2+z) Z).1);obtain⟨az,ai⟩:=exq ((st.dk.put (2+z) Z).2);rw[<-ah,<-ai]at ab;have aL:=y' (z13 aa (z13 ah ai));have aA:=y' h0;have aM:=y' h1;have aN:=y' Q;have aO:=y' hF;obtain⟨aB,aC⟩:=exq (2+z);rw[<-aC]at ab;have aP:2+(z:Int)=(aB:Int):=by omega
 rw[aP]at aJ;clear aC aa ah ai h0 h1 Q hF c2 d2 f2 g2 hn;unfold C' at ab;refine AH
  [Ep s 0,Ei z,Ei aB,Ep s 0,Ep s 0,Ep s 1,Ev (.agg #[.int .u32 st.Qe,.int .u64 st.next]),Ev (.agg #[Ej sm,Ej q,.string body]),
   Ev (.agg (bv Z).toArray),λv y=>v=Ej ad/\∃G,Vq y dp az lv G/\Loc x F G,Ei ad]
  [[0],[1],[2017],[0],[4019],[5020],[6021],[5],[7022,8023],[1016,3018,9024],[10025]] [17,18,19,20,21,22,23,24,25,26,7] [6,1,9,10]
  [(9,DkU dp lv F)] ?_ ?_ (hst:=by repeat' (first|exact Y' _|exact(λ_ y M h hb=>⟨h.1,h.2.imp λG h=>⟨h.1.far (fbF hb) Ih,h.2⟩⟩)|exact trivial|apply z13))
 .refine⟨?_,?_,?_,?_,?_,?_,?_,?_,?_,?_,?_,trivial⟩;all_goals
   intro a' M hb aj;have z0:=hb.blk (d' aA) (AS (by exact ax));have aD:=hb.blk (d' aM) (AS (by exact aK));have bd:M.cell? ⟨s,1,none⟩=some (.int .u32 st.Qe):=Bi 1 z0;have be:M.cell? ⟨s,2,none⟩=some (.int .u64 st.next):=Bi 2 z0;obtain⟨n0,n1,n2⟩:=PM aD;have aQ:=y' z0;clear z0 aD;simp[J']at aj
  iterate 2
   .clear hb;go_simp;exact⟨_,rfl,Far.refl _ _,rfl⟩
  .clear hb;go_simp;exact⟨_,rfl,Far.refl _ _,rfl⟩
  iterate 5
   .clear hb;go_simp;exact⟨_,rfl,Far.refl _ _,rfl⟩
  .clear hb;go_simp;refine Cm (ay M) ?_;rintro r w1 ⟨rfl,aR⟩;exact⟨_,rfl,I' aR,rfl⟩
  .have aE:=(d' aN).far hb (by rintro k av ⟨q,J,g1,g2,bf⟩;simp at J;subst J;exact g1 rfl);have aS:=y' (d' (ab M (d' aQ) aE));have aT:=hb.size;clear hb aE;go_simp;refine Cm aS ?_;rintro r w1 ⟨rfl,G,k1,k2,k3⟩;exact⟨_,rfl,AQ (.head _) k3,rfl,G,k1,EG k2 aT⟩
  clear hb;obtain⟨aj,_⟩:=aj;go_simp;exact⟨_,rfl,Far.refl _ _,rfl⟩
 intro f M Y ak;obtain⟨_,G,k1,k2⟩:=ak.2.2.2.2.2.2.2.2.2.1;have aU:=ak.2.2.2.2.2.2.2.2.2.2.1;have Y:Far (DkU dp lv F) x M:=Y.mono (λb _ h=>by obtain⟨q,J,h⟩:=h;simp at J;subst J;exact h);have z0:=Y.blk (d' aA) ax;have aV:=y' (z13 k1 (z13 k2 (z13 Y z0)));clear ak k1 k2 Y z0;simp only[V',aU];go_simp;go_wp2;go_ret;obtain⟨k1,k2,k3,k4⟩:=d' aV;obtain⟨aW,aX,aY⟩:=d' aL;have aZ:st.Qu z sm q body.data.toList=(ad,{st with count:=st.next,dk:=az}):=by unfold Stv.Qu;rw[<-aW,<-aX,<-aY]
 rw[aZ];exact⟨rfl,G,⟨k4,k1,(d' V).op,aq,aI⟩,EG k2 (by omega),((d' aO).mono (λ_ _ e=>.inl e)).trans k3 (λ_ _ e=>.inr e)⟩
theorem AN (F:Zp p w a H y u):
  Cp 66 #[C' w] p λr w'=>Rr r (.bool H.dk.dead)/\w'=p:=by
 have c0:p.cell? (Ea w 0)=some (C' a):=Bi 0 F.blk;have c3:p.cell? (Ea a 3)=some (.bool H.dk.dead):=Bi 3 F.dk.blk;unfold C' at *;clear F;have G:∀z:World,z=p->Cp 102 #[Er a 0] z λr w'=>Rr r (.bool H.dk.dead)/\w'=p:=by rintro z rfl;clear c0;go_enter func102,ntmps102;go_wp2;go_ret;exact⟨rfl,rfl⟩
 have G:=y' G;clear c3;go_enter func66,ntmps66;go_wp2_with (go_at_call 102;refine((d' G) _ rfl).mono ?_;rintro r z ⟨rfl,rfl⟩);go_ret;exact⟨rfl,rfl⟩
theorem TW (z:Zp p w a H y u):
  Cp 84 #[C' w] p λr w'=>Rr r (Ej H.Qe)/\w'=p:=by
 have c0:p.cell? (Ea w 1)=some (.int .u32 H.Qe):=Bi 1 z.blk;have F:IntKind.i64.wrap (H.Qe:Int)=(H.Qe:Int):=by have:=z.op;rw[z28];omega
 unfold C' at *;clear z;go_enter func84,ntmps84;go_wp2;go_ret;exact⟨by simp,rfl⟩
theorem xS (w:World):(isAgg 214).run prog w=.ok true w:=by
 simp[isAgg,run_underlying underlying214]
theorem PV {rest:List Oper} (F:J.guard=none) (x:Operand) (H:J.op=.load 214 x)
  (z:Addr) (I:G.eval x=.pointer (some z)) (S:List UInt8) (M:S.length=64) (Q:∀j v,(bv S)[j]? =some v->p.cell? (z.add j)=some v)
  (h:wpList prog aC aB rest (G.put J.dst (.agg (bv S).toArray)) p):wpList prog aC aB (J::rest) G p:=by
 refine jK F λK hK=>?_;unfold Oper.wp execOp;simp only[H,I,Instr.loadAt,Instr.sureAddr,Sem.run_bind,Sem.run_pure,Result.andThen_ok,KG p z 214 (bv S) Q (xS p) (by rw[TP,AC,M])];exact hK _ _ h
theorem RS (w:World) (v:Value) (L:List UInt8) (k:Nat) (Z:Qk w v L) (H:64 * k+64<=L.length) (aa:L.length<=10000):
  Cp 160 #[v,Ej k] w λr w'=>Rr r (.agg (bv ((L.drop (k * 64)).take 64)).toArray)/\El w w':=by
 obtain⟨ai,cap,rfl,h1,h2,h3⟩:=Z;obtain⟨b,off,rfl,F⟩:=h3 (by omega);obtain⟨n,hn⟩:=exq (L.length);rw[<-hn]at H aa h1 h2 F ⊢;have z:((L.drop (k * 64)).take 64).length=64:=by rw[z71,z97,<-hn];omega
 have G:∀j v,(bv ((L.drop (k * 64)).take 64))[j]? =some v->w.cell? (Ea b (off+k * 64+j))=some v:=by
  intro j v hj;have I:j < 64:=by have:=(z25.1 hj).1;rw[AC,z]at this;exact this
  rw[JW (by rw[z];exact I)]at hj;cases hj;have:=F (k * 64+j) (by omega);rw[<-Fk]at this;rw[this];simp[List.getD_eq_getElem?_getD,I,List.getElem?_drop]
 obtain⟨S,J⟩:=exq ((L.drop (k * 64)).take 64);rw[<-J]at z G ⊢;have M:=y' G;clear G F J hn;have i0:(0:Int)<=(k:Int) * 64:=by omega
 have aj:(k:Int) * 64<=(k:Int) * 64+64:=by omega
 have ak:(k:Int) * 64+64<=(n:Int):=by omega
 have i3:(k:Int) * 64+64<=(cap:Int):=by omega
 have ao:((k:Int) * 64).toNat=k * 64:=by omega
 have aq:((k:Int) * 64+64).toNat=k * 64+64:=by omega
 have au:IntKind.i64.wrap ((k:Int) * 64)=(k:Int) * 64:=by rw[z28];omega
 have av:IntKind.i64.wrap ((k:Int)+1)=(k:Int)+1:=by rw[z28];omega
 have ax:IntKind.i64.wrap (((k:Int)+1) * 64)=(k:Int) * 64+64:=by rw[z28];omega
 have ay:¬cap=k * 64:=by omega
 have az:∀y:World,(Instr.arrayAt 214 (Es b (off+k * 64) 64 (cap - k * 64))).run prog y=.ok (Er b (off+k * 64)) y:=λy=>by simp[Instr.arrayAt,run_underlying underlying214]
 go_enter func160,ntmps160;go_upto_region 1 with fail;refine G' (λx=>x.heap[w.heap.size]? =some (.cells (bv CF).toArray 214 (0,0))/\(∀j v,(bv S)[j]? =some v->x.cell? (Ea b (off+k * 64+j))=some v)/\El w x) ?_ ?_;refine⟨NU (z19 _ _) (by kernel_rfl),λj v hj=>?_,bna⟩;have h:=(d' M) j v hj;exact(z85 w _ ⟨b,off+k * 64+j,none⟩ (z69 _ _ h)).trans h;rintro x ⟨h0,Q,V⟩;have ab:=y' h0;have ac:=y' Q;have Y:=y' V;have aA:=z12 h0;clear h0 Q V M;go_wp2_with (first
  |(refine PV rfl (.tmp 12) rfl ⟨b,off+k * 64,none⟩ rfl S z (by intro j v hj;rw[JB];exact(d' ac) j v hj) ?_)
  |(refine GX rfl (.tmp 4) (.tmp 13) rfl w.heap.size rfl S z rfl 214 _ (by simp[AC,BD]) (d' ab) ?_;intro z4 ad ah;go_simp))
 exact z47 (KV results160 _ _ w.heap.size _ _ z rfl ad) rfl ⟨rfl,(d' Y).trans (ah.below (d' Y).size (λk H e=>by omega))⟩
theorem YM:prog.built 214 []=some (bv CF).toArray:=by kernel_rfl
theorem EL {rest:List Oper} (z:J.guard=none) (F:J.op=.build 214 #[])
  (h:wpList prog aC aB rest (G.put J.dst (.agg (bv CF).toArray)) p):wpList prog aC aB (J::rest) G p:=by
 refine wpList_build z 214 #[] F ?_ ?_;simp[YM];simpa[YM]using h
theorem fP (w:World):Cp 159 #[.agg (bv CF).toArray] w λr w'=>
  r=.returned (.tuple #[.agg #[.int .u32 0,.int .u64 0,Ej 0,Ej 0,Ej 0],.bool true])/\El w w':=by
 have F:=λy=>TQ (S:=CF) (T:=CF) BD BD y;rw[z49 rfl]at F;go_enter func159,ntmps159;go_upto_region 1 with fail;refine G' (λx=>x.heap[w.heap.size]? =some (.cells (bv CF).toArray 214 (0,0))/\Eh x (w.heap.size+1) #[.int .u32 0,.int .u64 0,Ej 0,Ej 0,Ej 0] 199/\El w x) (FD _ _ _) ?_;rintro x ⟨h0,h1,z⟩;obtain⟨G,H,I,J,M⟩:=GW h1;have Z:x.frozen? ⟨w.heap.size+1,0,none⟩=false:=H' (i:=0) h1;have aa:x.frozen? ⟨w.heap.size+1,1,none⟩=false:=H' (i:=1) h1;have ab:x.frozen? ⟨w.heap.size+1,2,none⟩=false:=H' (i:=2) h1;have ac:x.frozen? ⟨w.heap.size+1,3,none⟩=false:=H' (i:=3) h1;have ad:x.frozen? ⟨w.heap.size+1,4,none⟩=false:=H' (i:=4) h1;have Q:=y' h0;have V:=y' z;clear h0 h1 z;go_wp2_with (first
  |(refine EF rfl (.tmp 1) rfl w.heap.size rfl 214 CF BD (d' Q) ?_)
  |(refine EL rfl rfl ?_;go_simp))
 refine z47 (v:=.tuple #[.agg #[.int .u32 0,.int .u64 0,Ej 0,Ej 0,Ej 0],.bool true]) (by simp[results,results159,go_sem,G,H,I,J,M]) rfl ⟨rfl,?_⟩;have Y:=d' V;exact((((Y.setCell (p:=⟨w.heap.size+1,0,none⟩) (by simp) _).setCell (p:=⟨w.heap.size+1,1,none⟩) (by simp) _).setCell (p:=⟨w.heap.size+1,2,none⟩) (by simp) _).setCell (p:=⟨w.heap.size+1,3,none⟩) (by simp) _).setCell (p:=⟨w.heap.size+1,4,none⟩) (by simp) _
theorem WG (w:World) (last:Nat):Cp 162 #[.agg (bv CF).toArray,.int .u32 last] w λr w'=>
  r=.returned (.tuple #[.agg #[Ej 0,Ej 0,.string ⟨#[]⟩],.bool true])/\El w w':=by
 have F:=λy=>TQ (S:=CF) (T:=CF) BD BD y;rw[z49 rfl]at F;go_enter func162,ntmps162;go_upto_region 1 with fail;refine G' (λx=>x.heap[w.heap.size]? =some (.cells (bv CF).toArray 214 (0,0))/\Eh x (w.heap.size+1) #[Ej 0,Ej 0,.string ⟨#[]⟩] 150/\El w x) (FD _ _ _) ?_;rintro x ⟨h0,h1,z⟩;obtain⟨G,H,I⟩:=PM h1;have V:x.frozen? ⟨w.heap.size+1,0,none⟩=false:=H' (i:=0) h1;have Y:x.frozen? ⟨w.heap.size+1,1,none⟩=false:=H' (i:=1) h1;have Z:x.frozen? ⟨w.heap.size+1,2,none⟩=false:=H' (i:=2) h1;have J:=y' h0;have M:=y' z;clear h0 h1 z;go_wp2_with (first
  |(refine EF rfl (.tmp 2) rfl w.heap.size rfl 214 CF BD (d' J) ?_)
  |(refine EL rfl rfl ?_;go_simp))
 refine z47 (v:=.tuple #[.agg #[Ej 0,Ej 0,.string ⟨#[]⟩],.bool true]) (by simp[results,results162,go_sem,G,H,I]) rfl ⟨rfl,?_⟩;have Q:=d' M;exact((Q.setCell (p:=⟨w.heap.size+1,0,none⟩) (by simp) _).setCell (p:=⟨w.heap.size+1,1,none⟩) (by simp) _).setCell (p:=⟨w.heap.size+1,2,none⟩) (by simp) _
namespace Mq
def newer (o c z F:Nat):Bool:=if o≠z then decide (z < o)else decide (F < c)
end Mq
theorem VJ (o c z F:Nat) (w:World):Cp 161 #[.agg #[.int .u32 o,.int .u64 c],.agg #[.int .u32 z,.int .u64 F]] w λr w'=>Rr r (.bool (newer o c z F))/\El w w':=by
 by_cases h:o=z
 .subst h;go_enter func161,ntmps161;go_wp2;go_ret;exact⟨by simp[newer],bna.alloc (by simp) _⟩
 have G:¬ (o:Int)=(z:Int):=by omega
 have H:((o:Int) == (z:Int))=false:=by simp;omega
 go_enter func161,ntmps161;go_wp2;go_ret;exact⟨by simp[newer,h],bna.alloc (by simp) _⟩
theorem JM (h:l[w]?.getD undef=.bool aD):l[w]? =some (.bool aD):=by
 cases z:l[w]? with
 |none=>rw[z]at h;simp[undef]at h
 |some v=>rw[z]at h;simp at h;rw[h]
theorem TX:(prog.info? 199).map (·.size)=some 5:=by kernel_rfl
theorem CN (w:World) (g:Nat) (z:Array Value):Far (λk=>k=g) w (w.setRow g z):=⟨rfl,rfl,rfl,by simp,λk _ F=>mU w g k _ F⟩
theorem Bz:(prog.info? 150).map (λi=>(i.zero,i.size,i.bytes))=some (some (.agg #[Ej 0,Ej 0,.string ⟨#[]⟩]),3,32):=by kernel_rfl
theorem OD (w:World) (v:Value) (L:List UInt8) (J:Qk w v L) (h0:0 < L.length) (M:L.length<=10000):
  Cp 163 #[v] w λr w'=>∃v',r=.returned v'/\Qw w.heap.size w' v' L/\El w w':=by
 obtain⟨Z,cap,rfl,h1,h2,h3⟩:=J;obtain⟨b,off,rfl,z⟩:=h3 h0;obtain⟨n,hn⟩:=exq (L.length);rw[<-hn]at h0 M h1 h2 z ⊢;have Q:=y' z;have G:=y' hn;clear z hn h3;have H:Qw w.heap.size (w.alloc (.cells #[] 5)) (Es w.heap.size 0 0 0) []:=
  ⟨by simp[bv],.inr ⟨w.heap.size,0,_,rfl,z16 _,z19 w _,by simp,by unfold maxLen;omega,by simp,by simp[bv]⟩⟩
 have V:=y' H;clear H;have aa:∀y:World,(binOp .eql 48 (Es b off n cap) En).run prog y=.ok (.bool false) y:=λy=>by have:=run_equal_slice_nil (P:=prog) y 48 5 (some ⟨b,off,none⟩) n cap underlying48;simp[binOp,this]
 go_enter func163,ntmps163;go_wp2_with (at_builtin;refine QL rfl (.tmp 5) (.tmp 6) rfl w.heap.size _ [] (d' V) rfl ⟨b,off,none⟩ n cap L rfl (d' G).symm (by
  intro j u hj;have I:j < L.length:=by have:=(z25.1 hj).1;rw[AC]at this;exact this
  rw[JW I]at hj;cases hj;have h:=(d' Q) j (by rw[d' G];exact I);rw[JB];exact(z85 w _ ⟨b,off+j,none⟩ (z69 _ _ h)).trans h) (by simp;omega) (by simp) ?_;intro v' w' Y F;go_simp)
 go_ret;exact⟨v',rfl,by simpa using Y,bna.trans (AB (B:=w.heap.size) F (by simp) (λg F=>by simp[Value.ownBlock]at F;omega))⟩
theorem oM (w:World) (v:Value) (L:List UInt8) (G:Qk w v L) (h0:128<=L.length) (H:L.length<=10000):
  Cp 113 #[v] w λr w'=>∃p lv,r=.returned (C' p)/\Vq w' p ⟨L,0,false⟩ lv En/\El w w'/\∀k,DkU p lv En k->w.heap.size<=k:=by
 have J:=y' (OD w v L G (by omega) H);clear G;unfold C';go_enter func113,ntmps113;go_wp2_with (go_at_call 163;refine Cm J ?_;rintro r y ⟨lv,rfl,z,hb⟩;obtain⟨M,cap,rfl,_⟩:=z.shape;replace z:=y' z;replace hb:=y' hb);go_ret;have I:=d' z;have hb:=d' hb;refine⟨_,_,rfl,⟨z19 y _,?_,BW _ _ _,⟨h0,H⟩,by simp⟩,hb.alloc hb.size _,?_⟩;exact z52 (I.mono (z54 _)) _;rintro k (rfl|F|F);exact hb.size;exact(I.lt k F).1;cases F
def oN (B:Nat) (L:List UInt8) (p:Nat) (w:World):Prop:=∃lv,Vq w p ⟨L,0,false⟩ lv En/\∀k,DkU p lv En k->B<=k
theorem al' (h:oN w r a p) (hb:El p f):oN w r a f:=h.imp λ_ h=>⟨h.1.far (fbF hb) Ih,h.2⟩
theorem AP {B':Nat} (h:p.ownsRow w j a y q C) (z:B'<=w):p.ownsRow B' j a y q C:=by
 obtain⟨h1,h2⟩:=h;refine⟨h1,?_⟩;rcases h2 with h2|⟨g,cap,F,rfl,hb,r⟩;exact .inl h2;exact .inr ⟨g,cap,F,rfl,z26 z hb,r⟩
theorem fQ:(prog.info? 143).map (·.size)=some 4:=by kernel_rfl
theorem IN (q:Nat) (z:q<=1000000000000) (w:World):Cp 168 #[Ej q] w λe w'=>Rr e (Ej ((q:Int)+2))/\w'=w:=by
 have F:IntKind.i64.wrap ((q:Int)+2)=(q:Int)+2:=by rw[z28];omega
 go_enter func168,ntmps168;go_wp2;go_ret;exact⟨rfl,rfl⟩
theorem Ca:(prog.info? 3).map (λi=>(i.zero,i.size,i.bytes))=some (some (Ej 0),1,8):=by kernel_rfl
theorem fR (q:Nat) (ak:q<=1000000000) (b:z10) (ao:0 < b.size) (w:World):
  Cp 120 #[.int .i64 q,.string b] w λe w'=>∃v,e=.returned v/\w'.ownsRow w.heap.size 3 1 v (Mq.bitsOf q b[0].toNat 3).length (O' (Mq.bitsOf q b[0].toNat 3))/\Below w.heap.size w w':=by
 obtain⟨i0,hi,ac,ad,ah⟩:=AT Ca;go_enter func120,ntmps120;go_wp2;go_loopw[5,6,7] (λv5 _ i wr=>∃j:Nat,j<=3/\i=.int .i64 j/\wr.ownsRow w.heap.size 3 1 v5 (Mq.bitsOf q b[0].toNat j).length (O' (Mq.bitsOf q b[0].toNat j))/\Below w.heap.size w wr) (λ_ _ i _=>3 - (intOf i).toNat)
 case atStart=>exact⟨0,by omega,rfl,z20 _ _ _ _,z11 _ _⟩
 case round=>
  obtain⟨j,hj,rfl,ai,hb⟩:=hrel;have G:=y' ai;have J:=y' hb;clear ai hb;rcases(show j=0\/j=1\/j=2\/j=3 by omega)with rfl|rfl|rfl|rfl
  .have Y:=ET q b[0].toNat 0;have M:(bits BinOp.and IntKind.u8 (((b[0].toNat:Nat):Int)) 1==1)=decide (b[0].toNat % 2=1):=Me ⟨b[0].toNat,b[0].toNat_lt⟩;have aj:IntKind.i64.wrap ((q:Int)+2+0)=(q:Int)+2+0:=(by rw[z28];omega);have Z:=λy=>IN q (by omega) y;by_cases z:b[0].toNat % 2=1
   .have F:=y' (show Mq.bitsOf q b[0].toNat (0+1)=Mq.bitsOf q b[0].toNat 0++[q+2+0] by simp[Mq.bitsOf,z]);simp only[z,decide_true]at M;generalize Mq.bitsOf q b[0].toNat 0=Q at Y F G;have aa:=(d' J).size;go_upto_region 7 with (first|(go_at_call 168;refine(Z _).mono ?_;rintro e y ⟨rfl,rfl⟩)|(at_builtin;refine z67 _ rfl (.tmp 16) (.tmp 21) 101 rfl w.heap.size 3 i0 (.int .i64 0) 1 8 underlying101 hi ac ad ah rfl (by decide) u5 Q.length (O' Q) rfl ((d' G).alloc _) ⟨y.heap.size,0,none⟩ 1 1 [.int .i64 ((q:Int)+2)] rfl rfl AW (by intro u hu;simp at hu;subst hu;rfl) (by unfold maxLen;omega) (by omega) (by simp;omega) ?_;intro v' w1 H V _;have I:Below w.heap.size w w1:=(d' J).trans (((z11 _ y).alloc aa _).trans (AB (B:=w.heap.size) V (by simp;omega) (λg ab=>(z14 (d' G) g ab).1)));replace H:=y' H;replace I:=y' I;clear V));go_wp2;go_roundw
    case rel=>exact⟨0+1,by omega,by go_num,by have:=d' H;rw[d' F,z29,EH];simpa using this,d' I⟩
    case measure=>simp[intOf]
   have F:=y' (show Mq.bitsOf q b[0].toNat (0+1)=Mq.bitsOf q b[0].toNat 0 by simp[Mq.bitsOf,z]);simp only[z,decide_false]at M;go_wp2;exact⟨⟨0+1,by omega,by go_num,by rw[d' F];exact d' G,d' J⟩,by simp[intOf]⟩
  .have Y:=ET q b[0].toNat 1;have M:(bits BinOp.and IntKind.u8 (((b[0].toNat:Nat):Int) / 2) 1==1)=decide (b[0].toNat / 2 % 2=1):=Mf ⟨b[0].toNat,b[0].toNat_lt⟩;have aj:IntKind.i64.wrap ((q:Int)+2+1)=(q:Int)+2+1:=(by rw[z28];omega);have Z:=λy=>IN q (by omega) y;by_cases z:b[0].toNat / 2 % 2=1
   .have F:=y' (show Mq.bitsOf q b[0].toNat (1+1)=Mq.bitsOf q b[0].toNat 1++[q+2+1] by simp[Mq.bitsOf,z]);simp only[z,decide_true]at M;generalize Mq.bitsOf q b[0].toNat 1=Q at Y F G;have aa:=(d' J).size;go_upto_region 7 with (first|(go_at_call 168;refine(Z _).mono ?_;rintro e y ⟨rfl,rfl⟩)|(at_builtin;refine z67 _ rfl (.tmp 16) (.tmp 21) 101 rfl w.heap.size 3 i0 (.int .i64 0) 1 8 underlying101 hi ac ad ah rfl (by decide) u5 Q.length (O' Q) rfl ((d' G).alloc _) ⟨y.heap.size,0,none⟩ 1 1 [.int .i64 ((q:Int)+2+1)] rfl rfl AW (by intro u hu;simp at hu;subst hu;rfl) (by unfold maxLen;omega) (by omega) (by simp;omega) ?_;intro v' w1 H V _;have I:Below w.heap.size w w1:=(d' J).trans (((z11 _ y).alloc aa _).trans (AB (B:=w.heap.size) V (by simp;omega) (λg ab=>(z14 (d' G) g ab).1)));replace H:=y' H;replace I:=y' I;clear V));go_wp2;go_roundw
    case rel=>exact⟨1+1,by omega,by go_num,by have:=d' H;rw[d' F,z29,EH];simpa using this,d' I⟩
    case measure=>simp[intOf]
   have F:=y' (show Mq.bitsOf q b[0].toNat (1+1)=Mq.bitsOf q b[0].toNat 1 by simp[Mq.bitsOf,z]);simp only[z,decide_false]at M;go_wp2;exact⟨⟨1+1,by omega,by go_num,by rw[d' F];exact d' G,d' J⟩,by simp[intOf]⟩
  .have Y:=ET q b[0].toNat 2;have M:(bits BinOp.and IntKind.u8 (((b[0].toNat:Nat):Int) / 4) 1==1)=decide (b[0].toNat / 4 % 2=1):=Mg ⟨b[0].toNat,b[0].toNat_lt⟩;have aj:IntKind.i64.wrap ((q:Int)+2+2)=(q:Int)+2+2:=(by rw[z28];omega);have Z:=λy=>IN q (by omega) y;by_cases z:b[0].toNat / 4 % 2=1
   .have F:=y' (show Mq.bitsOf q b[0].toNat (2+1)=Mq.bitsOf q b[0].toNat 2++[q+2+2] by simp[Mq.bitsOf,z]);simp only[z,decide_true]at M;generalize Mq.bitsOf q b[0].toNat 2=Q at Y F G;have aa:=(d' J).size;go_upto_region 7 with (first|(go_at_call 168;refine(Z _).mono ?_;rintro e y ⟨rfl,rfl⟩)|(at_builtin;refine z67 _ rfl (.tmp 16) (.tmp 21) 101 rfl w.heap.size 3 i0 (.int .i64 0) 1 8 underlying101 hi ac ad ah rfl (by decide) u5 Q.length (O' Q) rfl ((d' G).alloc _) ⟨y.heap.size,0,none⟩ 1 1 [.int .i64 ((q:Int)+2+2)] rfl rfl AW (by intro u hu;simp at hu;subst hu;rfl) (by unfold maxLen;omega) (by omega) (by simp;omega) ?_;intro v' w1 H V _;have I:Below w.heap.size w w1:=(d' J).trans (((z11 _ y).alloc aa _).trans (AB (B:=w.heap.size) V (by simp;omega) (λg ab=>(z14 (d' G) g ab).1)));replace H:=y' H;replace I:=y' I;clear V));go_wp2;go_roundw
    case rel=>exact⟨2+1,by omega,by go_num,by have:=d' H;rw[d' F,z29,EH];simpa using this,d' I⟩
    case measure=>simp[intOf]
   have F:=y' (show Mq.bitsOf q b[0].toNat (2+1)=Mq.bitsOf q b[0].toNat 2 by simp[Mq.bitsOf,z]);simp only[z,decide_false]at M;go_wp2;exact⟨⟨2+1,by omega,by go_num,by rw[d' F];exact d' G,d' J⟩,by simp[intOf]⟩
  go_wp2;go_ret;exact⟨_,rfl,d' G,d' J⟩
def PW (b:z10):Value:=.agg #[.string b]
def vT:Value:=.agg #[.string ⟨#[]⟩]
theorem tD (w:World):(zeroValue 224).run prog w=.ok vT w:=zeroValue224 w
def PX (l:List (Nat×Value)):Prop:=∀x∈l,∃b,x.2=PW b
theorem OQ (h:PX d) (k:Int):(∃b,AV d k=some (PW b))\/AV d k=none:=by
 cases z:AV d k with
 |none=>exact .inr rfl
 |some v=>obtain⟨x,F,_,rfl⟩:=IW z;obtain⟨b,e⟩:=h x F;exact .inl ⟨b,by rw[e]⟩
theorem YN (hb:Eh p w l j) (h1:l[a+1]? =some u) (S:Jl p y u d) (A:PX d) (n:Int):
  Cp 137 #[Er w a,Ej n] p λe w'=>Rr e (.bool (AV d n).isSome)/\El p w':=by
 have c1:p.cell? (Ea w (a+1))=some u:=(D' hb).trans h1;have z:=(CX (P:=prog) (w:=p) (t:=117) underlying117 underlying3 (tD p) S.map n).1;clear S hb h1;rcases OQ A n with ⟨b,h⟩|h;all_goals
  rw[h]at z ⊢;simp only[Option.getD_some,Option.getD_none,Option.isSome_some,Option.isSome_none,PW,vT]at z ⊢;clear h A;go_enter func137,ntmps137;go_wp2;go_ret;refine⟨rfl,?_⟩;exact bna
theorem Cb (S:KP p w a j l y u d) (hl:d.length < 1000) (n:Nat) (b:z10):
  Cp 180 #[Er w a,Ej n,PW b] p λe w'=>Rr e (.tuple #[])/\EC p w' w a j l y u (CY d n (PW b)):=kL (.inr (.inr ⟨rfl,rfl,rfl,b,rfl⟩)) S hl n
theorem tE (S:KP p w a j l y u d):
  Cp 177 #[Er w a] p λe w'=>Rr e (.tuple #[])/\EC p w' w a j l y u []:=TV (.inr (.inr ⟨rfl,rfl⟩)) S
def EM (l:List (Nat×Value)) (q:Nat):Nat->Nat
 |0=>0
 |j+1=>EM l q j+if(AV l ((q+2+j:Nat):Int)).isSome=true then 2 ^ j else 0
theorem oO (l:List (Nat×Value)) (q:Nat):∀j,EM l q j < 2 ^ j
 |0=>by simp[EM]
 |j+1=>by
  have:=oO l q j;unfold EM;split
  .rw[Nat.pow_succ];omega
  .rw[Nat.pow_succ];omega
theorem or0:bits BinOp.or IntKind.u8 0 1=1:=by decide+kernel
theorem or1:∀x:Fin 2,bits BinOp.or IntKind.u8 ((x.val:Nat):Int) 2=((x.val+2:Nat):Int):=by decide+kernel
theorem or2:∀x:Fin 4,bits BinOp.or IntKind.u8 ((x.val:Nat):Int) 4=((x.val+4:Nat):Int):=by decide+kernel
theorem oP (S:KP p w a j l y u d) (A:PX d) (q:Nat) (ay:q<=1000000000):
  Cp 136 #[.int .i64 q,.func (.func 137) #[.pointer (some ⟨w,a,none⟩)] #[]] p λe w'=>e=.returned (.string ⟨#[UInt8.ofNat (EM d q 3)]⟩)/\Below p.heap.size p w':=by
 have au:=y' S;have ak:=λk (av:ShU y u k)=>S.sh.lt k av;have ax:=z12 S.blk;go_enter func136,ntmps136;go_wp2;go_loopw[5,6,7] (λv5 _ i wr=>∃J:Nat,J<=3/\i=.int .i64 J/\v5=.int .u8 (EM d q J:Nat)/\Below p.heap.size p wr) (λ_ _ i _=>3 - (intOf i).toNat)
 case atStart=>exact⟨0,by omega,rfl,rfl,z11 _ _⟩
 case round=>
  obtain⟨J,hj,rfl,rfl,hb⟩:=hrel;have ac:KP wr w a j l y u d:=by have ab:=d' au;exact⟨(hb.block w ax).trans ab.blk,ab.c0,ab.c1,ab.sh.keep (λg ad=>hb.block g (ak g (.inl ad))) (λg ad=>hb.block g (ak g (.inr ad))),ab.ty⟩
  have ah:=λk:Int=>y' (YN ac.blk ac.c1 ac.sh A k);have Q:=y' hb;have V:=hb.size;clear hb ac;have Z:=λY=>IN q (by omega) Y;have ai:=oO d q J;rcases(show J=0\/J=1\/J=2\/J=3 by omega)with rfl|rfl|rfl|rfl
  .have ao:IntKind.i64.wrap ((q:Int)+2+0)=(q:Int)+2+0:=(by rw[z28];omega);have F:=ah ((q:Int)+2);have G:Hid (EM d q (0+1)=EM d q 0+if(AV d ((q:Int)+2)).isSome=true then 2 ^ 0 else 0):=rfl;generalize aa:EM d q 0=x at *;have aq:=or0;obtain rfl:x=0:=(by omega);cases M:(AV d ((q:Int)+2)).isSome
   .rw[M]at F G;go_upto_region 6 with (first|(go_at_call 168;refine(Z _).mono ?_;rintro e Y ⟨rfl,rfl⟩)|(go_at_call 137;refine Cm F ?_;rintro e H ⟨rfl,z⟩;have I:=y' ((d' Q).trans (z.mono V));clear z));exact⟨⟨0+1,by omega,by go_num,by rw[d' G];simp,d' I⟩,by simp[intOf]⟩
   rw[M]at F G;go_upto_region 6 with (first|(go_at_call 168;refine(Z _).mono ?_;rintro e Y ⟨rfl,rfl⟩)|(go_at_call 137;refine Cm F ?_;rintro e H ⟨rfl,z⟩;have I:=y' ((d' Q).trans (z.mono V));clear z));go_wp2;exact⟨⟨0+1,by omega,by go_num,by rw[d' G];simp,d' I⟩,by simp[intOf]⟩
  .have ao:IntKind.i64.wrap ((q:Int)+2+1)=(q:Int)+2+1:=(by rw[z28];omega);have F:=ah ((q:Int)+2+1);have G:Hid (EM d q (1+1)=EM d q 1+if(AV d ((q:Int)+2+1)).isSome=true then 2 ^ 1 else 0):=rfl;generalize aa:EM d q 1=x at *;have aq:=or1 ⟨x,ai⟩;replace aa:=y' aa;cases M:(AV d ((q:Int)+2+1)).isSome
   .rw[M]at F G;go_upto_region 6 with (first|(go_at_call 168;refine(Z _).mono ?_;rintro e Y ⟨rfl,rfl⟩)|(go_at_call 137;refine Cm F ?_;rintro e H ⟨rfl,z⟩;have I:=y' ((d' Q).trans (z.mono V));clear z));exact⟨⟨1+1,by omega,by go_num,by rw[d' G];simp,d' I⟩,by simp[intOf]⟩
   rw[M]at F G;go_upto_region 6 with (first|(go_at_call 168;refine(Z _).mono ?_;rintro e Y ⟨rfl,rfl⟩)|(go_at_call 137;refine Cm F ?_;rintro e H ⟨rfl,z⟩;have I:=y' ((d' Q).trans (z.mono V));clear z));go_wp2;exact⟨⟨1+1,by omega,by go_num,by rw[d' G];simp,d' I⟩,by simp[intOf]⟩
  .have ao:IntKind.i64.wrap ((q:Int)+2+2)=(q:Int)+2+2:=(by rw[z28];omega);have F:=ah ((q:Int)+2+2);have G:Hid (EM d q (2+1)=EM d q 2+if(AV d ((q:Int)+2+2)).isSome=true then 2 ^ 2 else 0):=rfl;generalize aa:EM d q 2=x at *;have aq:=or2 ⟨x,ai⟩;replace aa:=y' aa;cases M:(AV d ((q:Int)+2+2)).isSome
   .rw[M]at F G;go_upto_region 6 with (first|(go_at_call 168;refine(Z _).mono ?_;rintro e Y ⟨rfl,rfl⟩)|(go_at_call 137;refine Cm F ?_;rintro e H ⟨rfl,z⟩;have I:=y' ((d' Q).trans (z.mono V));clear z));exact⟨⟨2+1,by omega,by go_num,by rw[d' G];simp,d' I⟩,by simp[intOf]⟩
   rw[M]at F G;go_upto_region 6 with (first|(go_at_call 168;refine(Z _).mono ?_;rintro e Y ⟨rfl,rfl⟩)|(go_at_call 137;refine Cm F ?_;rintro e H ⟨rfl,z⟩;have I:=y' ((d' Q).trans (z.mono V));clear z));go_wp2;exact⟨⟨2+1,by omega,by go_num,by rw[d' G];simp,d' I⟩,by simp[intOf]⟩
  have az:EM d q 3 < 8:=ai;have aA:∀H:World,(convert 48 9 (.slice (some ⟨H.heap.size,0,none⟩) 1 1)).run prog (H.alloc (.cells #[.int .u8 (EM d q 3:Nat)] 5))=.ok (.string ⟨#[UInt8.ofNat (EM d q 3)]⟩) (H.alloc (.cells #[.int .u8 (EM d q 3:Nat)] 5)):=λH=>
   JX (l:=[UInt8.ofNat (EM d q 3)]) (b:=H.heap.size) (off:=0) (n:=1) (cap:=1) rfl (λi hi=>by obtain rfl:i=0:=(by omega);rw[D' (z19 H _)];simp;omega)
  generalize aj:EM d q 3=x at *;replace aj:=y' aj;go_wp2;go_ret;exact⟨(congrArg (λx=>Ending.returned (Value.string ⟨#[UInt8.ofNat x]⟩)) (d' aj)).symm,((d' Q).alloc V _)⟩
theorem WH (a b c:Nat) (ao:a < 4294967296) (hb:b < 4294967296) (aq:c < 4294967296) (w:World):
  Cp 134 #[.agg #[.int .i64 a,.int .i64 b,.int .i64 c]] w λe w'=>e=.returned (.string ⟨(le4 a++le4 b++le4 c).toArray⟩)/\Below w.heap.size w w':=by
 have au:∀y:World,(Instr.index 35 (.agg #[.int .i64 a,.int .i64 b,.int .i64 c]) (.int .i64 0)).run prog y=.ok (.int .i64 a) y:=λy=>by kernel_rfl
 have av:∀y:World,(Instr.index 35 (.agg #[.int .i64 a,.int .i64 b,.int .i64 c]) (.int .i64 1)).run prog y=.ok (.int .i64 b) y:=λy=>by kernel_rfl
 have ax:∀y:World,(Instr.index 35 (.agg #[.int .i64 a,.int .i64 b,.int .i64 c]) (.int .i64 2)).run prog y=.ok (.int .i64 c) y:=λy=>by kernel_rfl
 have hl:∀n:Int,(le4 n).length=4:=λn=>Qz n;go_enter func134,ntmps134;go_upto_region 2 with fail;refine G' (λx=>x.cell? ⟨w.heap.size,0,none⟩=some (.int .i64 a)/\x.cell? ⟨w.heap.size,1,none⟩=some (.int .i64 b)/\x.cell? ⟨w.heap.size,2,none⟩=some (.int .i64 c)/\Below w.heap.size w x/\w.heap.size < x.heap.size) ?_ ?_;have:=z19 w (.cells #[.int .i64 a,.int .i64 b,.int .i64 c] 35);exact⟨D' this,D' this,D' this,bna,by simp⟩;rintro x ⟨c0,c1,c2,aj,ak⟩;go_wp2;go_loopw[3,5,7] (λv _ i wr=>∃j:Nat,j<=3/\i=.int .i64 j/\Qw (w.heap.size+1) wr v ((le4 a++le4 b++le4 c).take (4 * j))/\Below w.heap.size w wr/\w.heap.size < wr.heap.size) (λ_ _ i _=>3 - (intOf i).toNat)
 case atStart=>exact⟨0,by omega,rfl,QK _ _,aj,ak⟩
 case round=>
  obtain⟨j,hj,rfl,ac,ad,aa⟩:=hrel;have G:=y' ac;have Y:=y' ad;clear ac ad;rcases(show j=0\/j=1\/j=2\/j=3 by omega)with rfl|rfl|rfl|rfl
  .have I:=y' (show(le4 a++le4 b++le4 c).take (4 * (0+1))=(le4 a++le4 b++le4 c).take (4 * 0)++le4 a by simp[le4]);go_upto_region 6 with (go_at_call 103;refine(BH (w.heap.size+1) (a:Int) u3 _ wr (by simp only[List.length_take,List.length_append,hl];omega) (by omega) (by omega) (d' G)).mono ?_;rintro r J ⟨v',rfl,H,z⟩;have F:Below (w.heap.size+1) wr J:=AB z (by omega) (λg z=>((d' G).lt g z).1);have M:=y' H;have Q:=y' ((d' Y).trans (F.mono (by omega)));have V:=z21 aa F.size;clear H z F);go_wp2;exact⟨⟨0+1,by omega,by go_num,by rw[d' I];exact d' M,d' Q,V⟩,by simp[intOf]⟩
  .have I:=y' (show(le4 a++le4 b++le4 c).take (4 * (1+1))=(le4 a++le4 b++le4 c).take (4 * 1)++le4 b by simp[le4]);go_upto_region 6 with (go_at_call 103;refine(BH (w.heap.size+1) (b:Int) u3 _ wr (by simp only[List.length_take,List.length_append,hl];omega) (by omega) (by omega) (d' G)).mono ?_;rintro r J ⟨v',rfl,H,z⟩;have F:Below (w.heap.size+1) wr J:=AB z (by omega) (λg z=>((d' G).lt g z).1);have M:=y' H;have Q:=y' ((d' Y).trans (F.mono (by omega)));have V:=z21 aa F.size;clear H z F);go_wp2;exact⟨⟨1+1,by omega,by go_num,by rw[d' I];exact d' M,d' Q,V⟩,by simp[intOf]⟩
  .have I:=y' (show(le4 a++le4 b++le4 c).take (4 * (2+1))=(le4 a++le4 b++le4 c).take (4 * 2)++le4 c by simp[le4]);go_upto_region 6 with (go_at_call 103;refine(BH (w.heap.size+1) (c:Int) u3 _ wr (by simp only[List.length_take,List.length_append,hl];omega) (by omega) (by omega) (d' G)).mono ?_;rintro r J ⟨v',rfl,H,z⟩;have F:Below (w.heap.size+1) wr J:=AB z (by omega) (λg z=>((d' G).lt g z).1);have M:=y' H;have Q:=y' ((d' Y).trans (F.mono (by omega)));have V:=z21 aa F.size;clear H z F);go_wp2;exact⟨⟨2+1,by omega,by go_num,by rw[d' I];exact d' M,d' Q,V⟩,by simp[intOf]⟩
  have Z:(le4 a++le4 b++le4 c).length=12:=by simp[hl]
  rw[z48 (by rw[Z];omega)]at G;have ah:=(d' G).addr (by rw[Z];omega);rw[Z]at ah;obtain⟨g,cap,rfl,ay,az,aA,aB,ai⟩:=ah;have aC:=JX (w:=wr) (b:=g) (off:=0) (cap:=cap) Z ai;generalize ab:le4 a++le4 b++le4 c=fr at *;replace ab:=y' ab;clear ai G;go_wp2;go_ret;exact⟨(congrArg (λx:List UInt8=>Ending.returned (Value.string ⟨x.toArray⟩)) (d' ab)).symm,d' Y⟩
structure Yk (w:World) (p:Nat) (e:Nat) (Qc:Nat->List z10) (sh:Nat->List (Nat×Value)) (arr:Array Value) (s:Nat) (lv nv mv:Nat->Value) (rv:Value):Prop where
 blk:w.heap[p]? =some (.cells arr 125 (0,0))
 sz:arr.size=12
 a0:arr[0]? =some (C' s)
 a1:arr[1]? =some (Ej e)
 al:∀i,i < 3->arr[2+i * 3]? =some (lv i)
 an:∀i,i < 3->arr[2+i * 3+1]? =some (nv i)
 am:∀i,i < 3->arr[2+i * 3+2]? =some (mv i)
 ar:arr[11]? =some rv
 lgs:∀i,i < 3->Ql w 9 1 (lv i) (Qc i).length (AF (Qc i))
 shs:∀i,i < 3->Jl w (nv i) (mv i) (sh i)
 are:∀i,i < 3->PX (sh i)
 apl:∀i j,i < 3->j < 3->i≠j->∀g,(lv i).ownBlock=some g->(lv j).ownBlock≠some g
 aps:∀i j,i < 3->j < 3->i≠j->∀k,ShU (nv i) (mv i) k->¬ShU (nv j) (mv j) k
 cnt:(Qc 0).length+(Qc 1).length+(Qc 2).length<=120
 ep:e<=2147483647
def KsU (p:Nat) (lv nv mv:Nat->Value) (k:Nat):Prop:=k=p\/(∃i,i < 3/\(lv i).ownBlock=some k)\/∃i,i < 3/\ShU (nv i) (mv i) k
section
variable {w x:World} {p e s:Nat} {Qc:Nat->List z10} {sh:Nat->List (Nat×Value)} {arr:Array Value} {lv nv mv:Nat->Value} {rv:Value}
theorem Yk.far {E:Nat->Prop} (h:Yk w p e Qc sh arr s lv nv mv rv) (z:Far E w x) (F:∀k,KsU p lv nv mv k->¬E k):Yk x p e Qc sh arr s lv nv mv rv:=
 ⟨z.blk h.blk (F p (.inl rfl)),h.sz,h.a0,h.a1,h.al,h.an,h.am,h.ar,λi hi=>(h.lgs i hi).far z (λg G=>F g (.inr (.inl ⟨i,hi,G⟩))),λi hi=>(h.shs i hi).far z (λk H=>F k (.inr (.inr ⟨i,hi,H⟩))),h.are,h.apl,h.aps,h.cnt,h.ep⟩
theorem Yk.lt (h:Yk w p e Qc sh arr s lv nv mv rv):∀k,KsU p lv nv mv k->k < w.heap.size:=by
 rintro k (rfl|⟨i,hi,z⟩|⟨i,hi,z⟩);exact z12 h.blk;exact(h.lgs i hi).lt k z;exact(h.shs i hi).lt k z
theorem Yk.logc (h:Yk w p e Qc sh arr s lv nv mv rv) {i:Nat} (hi:i < 3):∃z cap,lv i=.slice z (Qc i).length cap/\w.cell? (Ea p (2+i * 3))=some (.slice z (Qc i).length cap):=by
 obtain⟨z,cap,e,_⟩:=(h.lgs i hi).shape;exact⟨z,cap,e,by rw[D' h.blk,h.al i hi,e]⟩
theorem Yk.Ve (h:Yk w p e Qc sh arr s lv nv mv rv) {i:Nat} (hi:i < 3):(Qc i).length<=120:=by
 have:=h.cnt;obtain rfl|rfl|rfl:i=0\/i=1\/i=2:=by omega
 all_goals omega
end
theorem DJ (w:World) (p o n cap:Nat) (z:Option Addr) (F:w.cell? (Ea p o)=some (.slice z n cap)):
  Cp 133 #[Er p o] w λr w'=>Rr r (Ej n)/\w'=w:=by
 go_enter func133,ntmps133;go_wp2;go_ret;exact⟨rfl,rfl⟩
theorem JN (w:World) (p o n cap:Nat) (z:Option Addr) (F:w.cell? (Ea p o)=some (.slice z n cap)) (hn:n<=1000):
  Cp 130 #[Er p o] w λr w'=>Rr r (Ej (n+1:Nat))/\w'=w:=by
 have G:=y' (DJ w p o n cap z F);have H:IntKind.i64.wrap ((n:Int)+1)=(n:Int)+1:=by rw[z28];omega
 clear F;go_enter func130,ntmps130;go_wp2_with (go_at_call 133;refine Cm G ?_;rintro r y ⟨rfl,rfl⟩);go_ret;exact⟨by simp,rfl⟩
theorem LM {w:World} {p e s:Nat} {Qc:Nat->List z10} {sh:Nat->List (Nat×Value)} {arr:Array Value} {lv nv mv:Nat->Value} {rv:Value} (z:Yk w p e Qc sh arr s lv nv mv rv):
  Cp 129 #[C' p] w λr w'=>Rr r (Ej ((Qc 0).length+(Qc 1).length+(Qc 2).length:Nat))/\w'=w:=by
 obtain⟨a0,k0,_,c0⟩:=z.logc (i:=0) (by omega);obtain⟨a1,k1,_,c1⟩:=z.logc (i:=1) (by omega);obtain⟨a2,k2,_,c2⟩:=z.logc (i:=2) (by omega);have J:=z.cnt;have G:=y' (DJ w p 2 _ k0 a0 c0);have H:=y' (DJ w p 5 _ k1 a1 c1);have I:=y' (DJ w p 8 _ k2 a2 c2);generalize (Qc 0).length=n0,(Qc 1).length=n1,(Qc 2).length=n2 at *;clear z c0 c1 c2;unfold C';go_enter func129,ntmps129;go_wp2;go_loopw[3,4,5] (λv _ i wr=>∃j:Nat,j<=3/\i=.int .i64 j/\v=.int .i64 (if j=0 then 0 else if j=1 then n0 else if j=2 then n0+n1 else n0+n1+n2:Nat)/\wr=w) (λ_ _ i _=>3 - (intOf i).toNat)
 case atStart=>exact⟨0,by omega,rfl,rfl,rfl⟩
 case round=>
  obtain⟨j,hj,rfl,rfl,rfl⟩:=hrel;rcases(show j=0\/j=1\/j=2\/j=3 by omega)with rfl|rfl|rfl|rfl
  .have F:IntKind.i64.wrap (n0:Int)=(n0:Int):=(by rw[z28];omega);go_wp2_with (go_at_call 133;refine Cm G ?_;rintro r y ⟨rfl,rfl⟩);exact⟨⟨1,by omega,by go_num,by simp,by first|rfl|trivial⟩,by simp[intOf]⟩
  .have F:IntKind.i64.wrap ((n0:Int)+(n1:Int))=(n0:Int)+(n1:Int):=(by rw[z28];omega);go_wp2_with (go_at_call 133;refine Cm H ?_;rintro r y ⟨rfl,rfl⟩);exact⟨⟨2,by omega,by go_num,by simp,by first|rfl|trivial⟩,by simp[intOf]⟩
  .have F:IntKind.i64.wrap ((n0:Int)+(n1:Int)+(n2:Int))=(n0:Int)+(n1:Int)+(n2:Int):=(by rw[z28];omega);go_wp2_with (go_at_call 133;refine Cm I ?_;rintro r y ⟨rfl,rfl⟩);exact⟨⟨3,by omega,by go_num,by simp,by first|rfl|trivial⟩,by simp[intOf]⟩
  go_wp2;go_ret;exact⟨by simp,rfl⟩
theorem VK (z:Yk p w a F L l q m I cC y):
  Cp 178 #[C' w] p λr w'=>Rr r (.bool (decide ((F 0).length+(F 1).length+(F 2).length < 120)))/\w'=p:=by
 have G:=y' (LM z);have M:=z.cnt;generalize (F 0).length+(F 1).length+(F 2).length=n at *;clear z;unfold C' at *;by_cases h:n < 120
 .rw[z49 h];have H:(n:Int) < 120:=by omega
  go_enter func178,ntmps178;go_wp2_with (go_at_call 129;refine Cm G ?_;rintro r J ⟨rfl,rfl⟩);go_ret;exact⟨by simp,rfl⟩
 rw[z53 h];have H:¬ (n:Int) < 120:=by omega
 go_enter func178,ntmps178;go_wp2_with (go_at_call 129;refine Cm G ?_;rintro r J ⟨rfl,rfl⟩);go_ret;exact⟨by simp;omega,rfl⟩
structure Sv where
 arr:Array Value
 s:Nat
 dp:Nat
 lv:Nat->Value
 nv:Nat->Value
 mv:Nat->Value
 rv:Value
 dlv:Value
 duv:Value
def FJ (p:Nat):List Value:=[Ej 1,.func (.func 87) #[C' p] #[],Ej 3,.func (.func 88) #[C' p] #[]]
structure Jo (w:World) (p e:Nat) (Qc:Nat->List z10) (sh:Nat->List (Nat×Value)) (st:Stv) (c:Sv):Prop where
 ks:Yk w p e Qc sh c.arr c.s c.lv c.nv c.mv c.rv
 stt:Zp w c.s c.dp st c.dlv c.duv
 rl:Ql w 130 2 c.rv 2 (FJ p)
 len:st.dk.bytes.length=7808
def PkU (p:Nat) (c:Sv) (k:Nat):Prop:=KsU p c.lv c.nv c.mv k\/StU c.s c.dp c.dlv c.duv k\/c.rv.ownBlock=some k
section
variable {w x y:World} {p e:Nat} {Qc:Nat->List z10} {sh:Nat->List (Nat×Value)} {st:Stv} {c:Sv}
theorem Jo.lt (h:Jo w p e Qc sh st c):∀k,PkU p c k->k < w.heap.size:=by
 rintro k (z|z|z);exact h.ks.lt k z;exact h.stt.lt k z;exact h.rl.lt k z
theorem Jo.far {E:Nat->Prop} (h:Jo w p e Qc sh st c) (z:Far E w x) (F:∀k,PkU p c k->¬E k):Jo x p e Qc sh st c:=
 ⟨h.ks.far z (λk G=>F k (.inl G)),h.stt.far z (λk G=>F k (.inr (.inl G))),h.rl.far z (λg H=>F g (.inr (.inr H))),h.len⟩
theorem EZ {arr:Array Value} {s:Nat} {lv nv mv:Nat->Value} {rv:Value} (h:Yk w p e Qc sh arr s lv nv mv rv) {q:Nat} {F:Array Value} {t:TypeId} {fr:Nat×Nat} (hb:w.heap[q]? =some (.cells F t fr)) (h1:t≠125) (h2:t≠9) (h3:t≠3):¬KsU p lv nv mv q:=by
 rintro(rfl|⟨i,hi,z⟩|⟨i,hi,z⟩);have:=h.blk;rw[hb]at this;injection this with this;injection this with _ this _;exact h1 this;exact(h.lgs i hi).ne hb (λe=>h2 e.symm) z;rcases z with z|z;exact(Ql.Jc (h.shs i hi).nums).ne hb (λe=>h3 e.symm) z;rcases(h.shs i hi).map with ⟨e,_⟩|⟨b,e,G⟩;rw[e]at z;cases z;rw[e]at z;cases z;exact G.Jy hb
theorem FP {F:TypeId} {size n:Nat} {v:Value} {xs:List Value} (h:Ql w F size v n xs) {g:Nat} (G:v.ownBlock=some g):∃z,w.heap[g]? =some (.cells z F (0,0)):=by
 obtain⟨_,h2⟩:=h;rcases h2 with ⟨rfl,_⟩|⟨g',o,cap,z,rfl,H,_⟩;cases G;cases G;exact⟨z,H⟩
theorem Jo.sep (h:Jo w p e Qc sh st c):∀k,KsU p c.lv c.nv c.mv k->¬StU c.s c.dp c.dlv c.duv k:=by
 rintro k z (hs|hs|hs|hs);subst hs;exact EZ h.ks h.stt.blk (by decide) (by decide) (by decide) z;subst hs;exact EZ h.ks h.stt.dk.blk (by decide) (by decide) (by decide) z;obtain⟨G,F⟩:=FP (Ql.Jc h.stt.dk.row) hs;exact EZ h.ks F (by decide) (by decide) (by decide) z;obtain⟨G,F⟩:=FP h.stt.dk.un hs;exact EZ h.ks F (by decide) (by decide) (by decide) z
theorem Jo.sepr (h:Jo w p e Qc sh st c):∀k,c.rv.ownBlock=some k->¬KsU p c.lv c.nv c.mv k/\¬StU c.s c.dp c.dlv c.duv k:=by
 intro k F;obtain⟨G,z⟩:=FP h.rl F;refine⟨EZ h.ks z (by decide) (by decide) (by decide),?_⟩;rintro(hs|hs);rw[hs,h.stt.blk]at z;injection z with z;injection z with _ z _;exact absurd z (by decide);exact KW h.stt.dk z (by decide) (by decide) (by decide) hs
end
def Xg (w x:World) (p e:Nat) (Qc:Nat->List z10) (sh:Nat->List (Nat×Value)) (st:Stv) (c:Sv):Prop:=
 ∃z,Jo x p e Qc sh st z/\Far (PkU p c) w x/\(∀k,PkU p z k->PkU p c k\/w.heap.size<=k)/\z.s=c.s/\z.rv=c.rv
theorem oQ (h:Yk p w a F L l q m I cC y) (i:Nat) (hi:i < 3) (b:z10) (v':Value)
  (hF:Far (λk=>(m i).ownBlock=some k) p f) (Z:Ql f 9 1 v' ((F i).length+1) (AF (F i++[b]))) (hl:Loc p (m i) v') (aa:(F 0).length+(F 1).length+(F 2).length < 120):
  Yk (f.setCell ⟨w,2+i * 3,none⟩ v') w a (λj=>if j=i then F i++[b]else F j) L (l.setIfInBounds (2+i * 3) v') q (λj=>if j=i then v' else m j) I cC y:=by
 have ab:∀j,j < 3->(m j).ownBlock≠some w:=λj hj=>(h.lgs j hj).ne h.blk (by decide);have ac:=hF.blk h.blk (ab i hi);have hs:=T' f w (2+i * 3) v';have ad:Far (λk=>k=w\/(m i).ownBlock=some k) p (f.setCell ⟨w,2+i * 3,none⟩ v'):=(hF.mono (λ_ _ h=>.inr h)).trans hs (λ_ _ h=>.inl h);have ai:v'.ownBlock≠some w:=Z.ne ac (by decide);have H:∀j,j≠2+i * 3->(l.setIfInBounds (2+i * 3) v')[j]? =l[j]? :=λj hj=>z18 (λa=>hj a.symm);refine⟨AA ac,by simpa using h.sz,?_,?_,?_,?_,?_,?_,?_,?_,h.are,?_,h.aps,?_,h.ep⟩;rw[H _ (by omega)];exact h.a0;rw[H _ (by omega)];exact h.a1;intro j hj;by_cases J:j=i;subst J;have aj:2+j * 3 < l.size:=by rw[h.sz];omega
 simp[aj];rw[if_neg J,H _ (by omega)];exact h.al j hj;intro j hj;rw[H _ (by omega)];exact h.an j hj;intro j hj;rw[H _ (by omega)];exact h.am j hj;rw[H _ (by omega)];exact h.ar;intro j hj;by_cases J:j=i;subst J;have:=Z.far hs (λg z a=>ai (by rw[z,a]));simpa using this;simp only[if_neg J];exact(h.lgs j hj).far ad (λg z a=>a.elim (λa=>ab j hj (by rw[z,a])) (λa=>h.apl j i hj hi J g z a));intro j hj;refine(h.shs j hj).far ad (λk ak a=>?_);have aa:∃ah t,Eh p k ah t/\t≠3:=by rcases a with rfl|a;exact⟨_,_,h.blk,by decide⟩;obtain⟨av,Y⟩:=FP (h.lgs i hi) a;exact⟨_,_,Y,by decide⟩
 obtain⟨ah,t,Y,ao⟩:=aa;exact(h.shs j hj).ne Y ao ak;intro j M hj Q V g z;by_cases h1:j=i;subst h1;rw[if_pos rfl]at z;rw[if_neg (λa=>V a.symm)];intro G;rcases hl with hl|hl|⟨aq,hl,au⟩;rw[hl]at z;cases z;rw[hl]at z;exact h.apl j M hj Q V g z G;rw[hl]at z;cases z;have:=(h.lgs M Q).lt g G;omega;rw[if_neg h1]at z;by_cases h2:M=i;subst h2;rw[if_pos rfl];intro G;rcases hl with hl|hl|⟨aq,hl,au⟩;rw[hl]at G;cases G;rw[hl]at G;exact h.apl j M hj Q V g z G;rw[hl]at G;cases G;have:=(h.lgs j hj).lt g z;omega;rw[if_neg h2];exact h.apl j M hj Q V g z;obtain rfl|rfl|rfl:i=0\/i=1\/i=2:=by omega
 all_goals
  simp;omega
variable{D:Sv}
theorem tF (I:Jo p w a F L H D) (i:Nat) (hi:i < 3) (b:z10) (hb:b.size<=20)
  (aL:(F 0).length+(F 1).length+(F 2).length < 120):
  Cp 203 #[C' w,Ej i,.string b] p λr w'=>
   r=.returned (Ej (H.Qu ((F 0).length+(F 1).length+(F 2).length) i ((F i).length+1) b.data.toList).1)/\
   Xg p w' w a (if(H.Qu ((F 0).length+(F 1).length+(F 2).length) i ((F i).length+1) b.data.toList).1=0 thenλj=>if j=i then F i++[b]else F j else F) L
    (H.Qu ((F 0).length+(F 1).length+(F 2).length) i ((F i).length+1) b.data.toList).2 D:=by
 obtain⟨n,hn⟩:=exq ((F 0).length+(F 1).length+(F 2).length);obtain⟨q,Q⟩:=exq ((F i).length+1);obtain⟨M,cap,aM,aN⟩:=I.ks.logc hi;have bw:=I.ks.Ve hi;have bc:=z12 I.ks.blk;have aO:=λy (ai:El p y)=>y' (JN y w (2+i * 3) _ cap M (Bc ai bc aN) (by omega));have aP:=λy (ai:El p y)=>y' (LM (I.ks.far (fbF ai) Ih));rw[<-Q]at aO;rw[<-hn]at aP aL ⊢;rw[<-Q];have aQ:=λy (ai:El p y)=>y' (JE y D.s D.dp H D.dlv D.duv (I.stt.far (fbF ai) Ih) n i q b (by rw[I.len];omega) (by omega) (by omega) hb);have c0:p.cell? (Ea w 0)=some (C' D.s):=by rw[D' I.ks.blk,I.ks.a0]
 obtain⟨ao,aE⟩:=exq ((H.Qu n i q b.data.toList).1);obtain⟨aq,hst⟩:=exq ((H.Qu n i q b.data.toList).2);rw[<-aE,<-hst]at aQ ⊢;have bd:aq.dk.bytes.length=7808:=by
  rw[hst];unfold Stv.Qu Dk.put;simp only
  split;exact I.len;split;exact I.len;simp only
  rw[Xa (Jz _ _ (by rw[Zr];simp;omega)) (by rw[I.len];omega)];exact I.len
 have be:=y' (z13 hn (z13 Q (z13 aE hst)));have bz:(0:Int)<=(i:Int):=by omega
 have bA:(i:Int) < 3:=by omega
 have aa:=y' I;have au:=y' aM;clear I aM hn Q aE hst aN;unfold C' at *;go_enter func203,ntmps203;go_upto_region 2 with fail;refine AH
  [Ep w 0,Ep w 0,Ep w 0,Ep D.s 0,Ep w 0,Ei n,Ei i,Ep w (2+i * 3),Ei q,Ev (.string b),
   Ev (.agg #[Ej i,Ej q,.string b]),λv y=>v=Ej ao/\∃Z,Zp y D.s D.dp aq D.dlv Z/\Loc p D.duv Z,Ei ao]
  [[0],[1014],[2015],[3016],[0],[5018],[1],[7],[8021],[2],[7020,9022,10023],[4017,6019,11024],[12025]] [15,16,17,18,19,20,21,22,23,24,25,26,9] [8,1,5,12,13]
  [(11,StU D.s D.dp D.dlv D.duv)] ?_ ?_ (hst:=by repeat' (first|exact Y' _|exact(λ_ _ _ h hb=>⟨h.1,h.2.imp λ_ h=>⟨h.1.far (fbF hb) Ih,h.2⟩⟩)|exact trivial|apply z13))
 .refine⟨?_,?_,?_,?_,?_,?_,?_,?_,?_,?_,?_,?_,?_,trivial⟩;all_goals
   intro bB z hb ab;simp[J']at ab
  iterate 3
   .clear hb;go_simp;exact⟨_,rfl,Far.refl _ _,rfl⟩
  .have z0:z.cell? (Ea w 0)=some (Er D.s 0):=(by have:=hb.blk (d' aa).ks.blk (AS (by exactλh=>(d' aa).sep w (.inl rfl) h));rw[D' this,(d' aa).ks.a0];rfl);clear hb;go_simp;exact⟨_,rfl,Far.refl _ _,rfl⟩
  .clear hb;go_simp;exact⟨_,rfl,Far.refl _ _,rfl⟩
  .have V:=MF hb (by intro q Q;simp at Q;subst Q;show DM _ 11 5=true;decide+kernel);have aj:=y' (d' (aP z V));clear hb V;go_simp;refine Cm aj ?_;rintro r aR ⟨rfl,rfl⟩;exact⟨_,rfl,Far.refl _ _,rfl⟩
  iterate 2
   .clear hb;go_simp;exact⟨_,rfl,Far.refl _ _,rfl⟩
  .have V:=MF hb (by intro q Q;simp at Q;subst Q;show DM _ 11 8=true;decide+kernel);have aj:=y' (d' (aO z V));clear hb V;go_simp;refine Cm aj ?_;rintro r aR ⟨rfl,rfl⟩;exact⟨_,rfl,Far.refl _ _,rfl⟩
  iterate 2
   .clear hb;go_simp;exact⟨_,rfl,Far.refl _ _,rfl⟩
  .have V:El p z:=IQ hb;have aj:=y' (d' (aQ z V));have bf:=V.size;clear hb V;go_simp;refine Cm aj ?_;rintro r aR ⟨rfl,Z,k1,k2,k3⟩;exact⟨_,rfl,AQ (.head _) k3,rfl,Z,k1,EG k2 bf⟩
  clear hb;obtain⟨ab,_⟩:=ab;go_simp;exact⟨_,rfl,Far.refl _ _,rfl⟩
 intro f z hF aF;obtain⟨_,Z,k1,k2⟩:=aF.2.2.2.2.2.2.2.2.2.2.2.1;have bg:=aF.2.2.2.2.2.2.2.2.2.2.2.2.1;have hF:Far (StU D.s D.dp D.dlv D.duv) p z:=IH hF;have aS:Jo z w a F L aq {D with duv:=Z}:=⟨(d' aa).ks.far hF (λk G h=>(d' aa).sep k G h),k1,(d' aa).rl.far hF (λg Y h=>((d' aa).sepr g Y).2 h),bd⟩;have ac:=y' aS;have bh:=y' hF;have bi:=y' k2;clear aF hF k1 k2 aS;simp only[V',bg];have av:∀ (aG:Nat->List z10) (ax:World) (aH:Array Value) (ay:Nat->Value),Yk ax w a aG L aH D.s ay D.nv D.mv D.rv->Far (λk=>k=w\/(D.lv i).ownBlock=some k) z ax->(∀j,j < 3->Loc z (D.lv j) (ay j))->Xg p ax w a aG L aq D:=by intro aG ax aH ay bj ab hl;have J:=d' ac;have aT:=d' bh;refine⟨{D with arr:=aH,lv:=ay,duv:=Z},⟨bj,J.stt.far ab (λk G ad=>?_),J.rl.far ab (λg Y ad=>?_),J.len⟩,(aT.mono (λ_ _ h=>.inr (.inl h))).trans ab (λk _ h=>h.elim (λh=>.inl (.inl h)) (λh=>.inl (.inr (.inl ⟨i,hi,h⟩)))),?_,rfl,rfl⟩;rcases ad with rfl|ad;exact J.sep _ (.inl rfl) G;exact J.sep k (.inr (.inl ⟨i,hi,ad⟩)) G;rcases ad with rfl|ad;exact(J.sepr _ Y).1 (.inl rfl);exact(J.sepr _ Y).1 (.inr (.inl ⟨i,hi,ad⟩));have bC:=aT.size;have bk:=d' bi;rintro k ((rfl|⟨j,hj,G⟩|G)|(rfl|rfl|G|G)|G);exact .inl (.inl (.inl rfl));rcases hl j hj with h|h|⟨g,h,Y⟩;rw[h]at G;cases G;exact .inl (.inl (.inr (.inl ⟨j,hj,by rw[<-h];exact G⟩)));rw[h]at G;cases G;exact .inr (by omega);exact .inl (.inl (.inr (.inr G)));exact .inl (.inr (.inl (.inl rfl)));exact .inl (.inr (.inl (.inr (.inl rfl))));exact .inl (.inr (.inl (.inr (.inr (.inl G)))));rcases bk with h|h|⟨g,h,Y⟩;rw[h]at G;cases G;exact .inl (.inr (.inl (.inr (.inr (.inr (by rw[<-h];exact G))))));rw[h]at G;cases G;exact .inr Y;exact .inl (.inr (.inr G))
 by_cases h0:ao=0
 .subst h0;have J:=(d' ac).ks;have bl:z.cell? (Ea w (2+i * 3))=some (.slice M (F i).length cap):=by rw[D' J.blk,J.al i hi,d' au]
  have bD:z.frozen? ⟨w,2+i * 3,none⟩=false:=H' (i:=2+i * 3) J.blk;have aU:=J.lgs i hi;have bm:=y' aU;have aI:=y' av;clear J aU av;have bn:(F i).length<=1000:=by omega
  have az:Ql z 9 1 (.slice M (F i).length cap) (F i).length (AF (F i)):=by have:=d' bm;rw[show({D with duv:=Z}:Sv).lv i=.slice M (F i).length cap from d' au]at this;exact this
  have aV:=λak=>y' (az.keep (w':=z.alloc ak) (λg Y=>hao _ _ (az.lt g Y)));obtain⟨m,ah⟩:=exq ((F i).length);obtain⟨aA,aJ⟩:=exq (AF (F i));rw[<-ah]at bn bl;rw[<-ah,<-aJ]at aV;have bo:=y' (z13 ah aJ);have bp:∀ak v' w1,Ql w1 9 1 v' (m+1) (aA++[.string b])->App (z.alloc ak) w1 (.slice M m cap) v'->∃aB aC,v'=.slice aB (m+1) aC/\w1.cell? (Ea w (2+i * 3))=some (.slice M m cap)/\w1.frozen? ⟨w,2+i * 3,none⟩=false/\
    Hid (Ql w1 9 1 v' (m+1) (aA++[.string b])/\Loc z (.slice M m cap) v'/\Far (λk=>(Value.slice M m cap).ownBlock=some k) z w1):=by
   intro ak v' w1 h1 h2;obtain⟨aB,aC,bq,_⟩:=h1.shape;have aW:Far (λk=>(Value.slice M m cap).ownBlock=some k) z w1:=(I' (E:=λk=>(Value.slice M m cap).ownBlock=some k) ((z11 _ _).alloc (z16 _) ak)).trans (BU h2.grown) Ih;have aX:(Value.slice M m cap).ownBlock≠some w:=by rw[ah];exact az.ne (d' ac).ks.blk (by decide)
   have aY:=aW.blk (d' ac).ks.blk aX;refine⟨aB,aC,bq,?_,H' (i:=2+i * 3) aY,y' ⟨h1,IK (w:=z) (by simp) h2,aW⟩⟩;rw[D' aY,(d' ac).ks.al i hi,ah];exact congrArg some (d' au)
  clear az ah aJ;go_upto_region 6 with (at_builtin;refine DZ rfl (.tmp 33) (.tmp 35) 33 rfl 9 _ 1 16 underlying33 CW rfl _ m aA (d' (aV _)) rfl ⟨z.heap.size,0,none⟩ 1 1 [.string b] rfl rfl AW (by intro u hu;simp at hu;subst hu;rfl) (by omega) (by omega) (by omega) ?_;intro v' w1 h1 h2;obtain⟨aB,aC,rfl,bE,bF,br⟩:=bp _ _ _ h1 h2;clear h1 h2;go_simp);go_wp2;go_ret;obtain⟨bt,aZ,ba⟩:=d' br;obtain⟨bb,bu⟩:=d' bo;have aD:D.lv i=.slice M m cap:=by rw[bb];exact d' au
  refine⟨rfl,(d' aI) _ _ _ _ (oQ (d' ac).ks i hi b _ ?_ ?_ ?_ ?_) ?_ ?_⟩;show Far (λk=>(D.lv i).ownBlock=some k) z w1;rw[aD];exact ba;rw[<-bb,show AF (F i++[b])=aA++[.string b] by rw[bu];simp[AF]];exact bt;show Loc z (D.lv i) _;rw[aD];exact aZ;rw[<-(d' be).1];exact aL;rw[aD];exact(ba.mono (λ_ _ h=>.inr h)).trans (T' w1 w (2+i * 3) _) (λ_ _ h=>.inl h);intro j hj;show Loc z (D.lv j) (if j=i then _ else D.lv j);by_cases aK:j=i;rw[if_pos aK,aK,aD];exact aZ;rw[if_neg aK];exact .inr (.inl rfl)
 have aX:(ao==0)=false:=by simpa using h0
 have aI:=y' (av F z D.arr D.lv (d' ac).ks (Far.refl _ _) (λ_ _=>.inr (.inl rfl)));clear av;go_wp2;go_ret;exact⟨rfl,d' aI⟩
def PY:List (Nat×Value)->Nat->List (Nat×Value)
 |[],_=>[]
 |x::r,n=>if x.1=n then r else x::PY r n
theorem OE:∀ (l:List (Nat×Value)) (n:Nat),(PY l n).Sublist l
 |[],_=>List.Sublist.refl _
 |x::r,n=>by
  unfold PY;split
  .exact List.sublist_cons_self _ _
  .exact(OE r n).cons_cons _
theorem iJ (hs:(d.map (·.1)).Pairwise (· < ·)) (n:Nat):AV (PY d n)=fK (AV d) n:=by
 induction d with
 |nil=>funext k;simp[PY,AV,fK]
 |cons x r ih=>rw[z50,z63]at hs;unfold PY;split;rename_i h;subst h;exact(YL (λy z=>hs.1 y.1 (z66.2 ⟨y,z,rfl⟩))).symm;rename_i h;funext k;have:=congrFun (ih hs.2) k;unfold fK at this ⊢;rw[EI,EI,this];by_cases h1:k=(x.1:Int);rw[if_pos h1,if_pos h1,if_neg (by omega)];rw[if_neg h1,if_neg h1]
theorem xT (hs:(d.map (·.1)).Pairwise (· < ·)) (z:(d.map (·.1)).contains w=true):
  (PY d w).map (·.1)=(d.map (·.1)).take ((d.map (·.1)).countP (· < w))++(d.map (·.1)).drop ((d.map (·.1)).countP (· < w)+1):=by
 induction d with
 |nil=>simp at z
 |cons x r ih=>
  have M:=hs;rw[z50,z63]at hs;unfold PY;split;rename_i h;subst h;have G:(r.map (·.1)).countP (· < x.1)=0:=NX (λy H=>by have:=hs.1 y H;omega);rw[z50,rW,G];simp;rename_i h;have F:(r.map (·.1)).contains w=true:=by rw[z50,Ge]at z;have I:(w==x.1)=false:=(by simp;omega);rw[I,Gi]at z;exact z
  have J:x.1 < w:=by have:w∈r.map (·.1):=(by simpa using F);exact hs.1 w this
  rw[z50,ih hs.2 F,z50,rW];simp[J]
theorem tG (S:KP p w a j l y u d) (n:Nat) (hn:AV d n=none):
  Cp 204 #[Er w a,Ej n] p λe w'=>Rr e (.tuple #[vT,.bool false])/\El p w':=by
 have G:=z12 S.blk;have c1:∀z,(p.alloc z).cell? (Ea w (a+1))=some u:=λz=>(z85 p _ ⟨w,a+1,none⟩ G).trans ((D' S.blk).trans S.c1);have F:=λz=>(CX (P:=prog) (w:=p.alloc z) (t:=117) underlying117 underlying3 (tD _) (S.sh.map.keep (λg H=>hao _ _ (S.sh.lt g (.inr H)))) n).1;rw[hn]at F;simp only[Option.getD_none,Option.isSome_none,vT]at F ⊢;clear S hn;go_enter func204,ntmps204;go_wp2;refine z47 (v:=.tuple #[.agg #[.string ⟨#[]⟩],.bool false]) (by simp[results,results204,go_sem]) rfl ⟨rfl,?_⟩;exact bna.alloc (by simp) _
theorem tH (S:KP p w a j l y u d) (n:Nat) (b:z10) (hn:AV d n=some (PW b)):
  Cp 204 #[Er w a,Ej n] p λe w'=>Rr e (.tuple #[PW b,.bool true])/\Vn p w' w a j l y u (PY d n):=by
 have bk:a < l.size:=(z38.1 S.c0).1;have bE:a+1 < l.size:=(z38.1 S.c1).1;have aH:=z12 S.blk;have ad:(d.map (·.1)).contains n=true:=by
  obtain⟨x,aI,h1,_⟩:=IW hn;have:x.1=n:=by omega
  simp only[List.contains_eq_mem,decide_eq_true_eq];exact z66.2 ⟨x,aI,this⟩
 have bF:d.length<=1000:=S.sh.len;have ak:(d.map (·.1)).countP (· < n)+1<=(d.map (·.1)).length:=by
  have h1:(d.map (·.1)).countP (· < n)≠(d.map (·.1)).length:=by intro e;have h2:=List.countP_eq_length.1 e n (by simpa using ad);simp at h2
  have h2:(d.map (·.1)).countP (· < n)<=(d.map (·.1)).length:=rU;omega
 obtain⟨mb,rfl,Q⟩:∃mb,u=.map (some mb)/\Xp p mb (AV d):=by rcases S.sh.map with ⟨_,h⟩|⟨mb,h1,h2⟩;rw[h]at hn;cases hn;exact⟨mb,h1,h2⟩
 have bG:=Q.lt;have aJ:w≠mb:=λe=>Q.Jy (by rw[<-e];exact S.blk);have bl:=S.sh.nums.Ye Q;have aK:y.ownBlock≠some w:=λe=>S.sh.ne S.blk S.ty (.inl e);obtain⟨bH,cap,aA,_⟩:=(Ql.Jc S.sh.nums).shape;rw[z42]at aA;have c1:∀Y,(p.alloc Y).cell? (Ea w (a+1))=some (.map (some mb)):=λY=>(z85 p _ ⟨w,a+1,none⟩ aH).trans ((D' S.blk).trans S.c1);have aB:=λY=>(CX (P:=prog) (w:=p.alloc Y) (t:=117) underlying117 underlying3 (tD _) (S.sh.map.keep (λg z=>hao _ _ (S.sh.lt g (.inr z)))) n).1;rw[hn]at aB;simp only[Option.getD_some,Option.isSome_some,PW]at aB ⊢;have ao:=y' S;have bI:=y' hn;have aL:=y' ad;have bJ:=y' aA;clear S hn Q ad aA;go_enter func204,ntmps204;go_upto_region 3 with fail;refine G' (λx=>Eh x p.heap.size #[.string ⟨#[]⟩] 224/\Eh x (p.heap.size+1) #[.string b] 224/\El p x) (FD _ _ _) ?_;rintro x ⟨h0,h1,ah⟩;have I:KP x w a j l y (.map (some mb)) d:=by have S:=d' ao;exact⟨(ah.block _ aH).trans S.blk,S.c0,S.c1,S.sh.far (fbF ah) Ih,S.ty⟩
 have d0:x.cell? (Ea w a)=some y:=(D' I.blk).trans I.c0;have aI:=ah.size;have bK:=z12 h1;obtain⟨k,Z⟩:=exq ((d.map (·.1)).countP (· < n));have aC:=y' (KD I.sh.nums I.sh.sorted (by rw[z42];omega) n);rw[<-Z,d' aL]at aC;rw[<-Z]at ak;have aq:=λq=>y' (KF (w:=x.drewN q) I.sh.nums k (k+1) (by omega) ak);have au:=xT I.sh.sorted (d' aL);rw[<-Z]at au;rw[<-au]at aq;have bL:=y' (z13 Z au);have bm:=y' h0;have bn:=y' h1;have bo:=y' ah;have av:=y' I;have bp:IntKind.i64.wrap ((k:Int)+1)=(k:Int)+1:=by rw[z28];rw[z42]at ak;omega
 have aM:((k:Nat):Int)+1=((k+1:Nat):Int):=by omega
 obtain⟨k1,aN⟩:=exq (k+1);rw[<-aN]at aq aM;rw[aM]at bp;clear h0 h1 ah I c1 aB Z au aN ak;go_upto_region 4 with (go_at_call 125;refine Cm aC ?_;rintro e bM ⟨rfl,q,rfl⟩);have bN:(x.drewN q).cell? (Ea w a)=some y:=d0;have aO:=y' (aq q);have aP:∀F nv',Jt F nv' ((PY d n).map (·.1))->Far (λg=>y.ownBlock=some g) (x.drewN q) F->nv'.ownBlock=y.ownBlock->∃ai n2 aj,nv'=.slice ai n2 aj/\F.cell? (Ea w a)=some y/\F.frozen? ⟨w,a,none⟩=false/\F.cell? (Ea w (a+1))=some (.map (some mb))/\
   Hid (Jt F nv' ((PY d n).map (·.1))/\Far (λg=>y.ownBlock=some g) x F/\nv'.ownBlock=y.ownBlock/\Eh F w l j):=by
  intro F nv' J aa ab;obtain⟨ai,aj,h2,_⟩:=(Ql.Jc J).shape;have aQ:Far (λg=>y.ownBlock=some g) x F:=(I' (E:=λg=>y.ownBlock=some g) (z36 (z11 _ _) q)).trans aa Ih;have ac:=aQ.blk (d' av).blk aK;exact⟨ai,_,aj,h2,(D' ac).trans (d' av).c0,by simp[World.frozen?,ac],(D' ac).trans (d' av).c1,y' ⟨J,aQ,ab,ac⟩⟩
 clear d0 aq aC;go_upto_region 5 with (go_at_call 199;refine Cm (d' aO) ?_;rintro e F ⟨nv',rfl,J,aa,ab⟩;obtain⟨ai,n2,aj,rfl,z0,bq,br,ax⟩:=aP _ _ J aa ab;clear J aa ab);obtain⟨M,aR⟩:=exq (Value.slice ai n2 aj);rw[<-aR]at ax ⊢;refine G' (λH=>Eh H w (l.setIfInBounds a M) j/\Jt H M ((PY d n).map (·.1))/\Xp H mb (AV d)/\Far (λg=>g=w\/y.ownBlock=some g) x H) ?_ ?_;obtain⟨J,aa,ab,ac⟩:=d' ax;have V:=T' F w a M;have aS:Far (λg=>g=w\/y.ownBlock=some g) x (F.setCell ⟨w,a,none⟩ M):=(aa.mono (λ_ _ h=>.inr h)).trans V (λ_ _ h=>.inl h);refine⟨AA ac,J.keep (λg z=>V.rest g (z14 J g z).2 (λe=>aK (by rw[<-ab,z,e]))),?_,aS⟩;have Q:Xp x mb (AV d):=by rcases(d' av).sh.map with ⟨h,_⟩|⟨bO,h1,h2⟩;cases h;cases h1;exact h2
 exact Q.keep (aS.rest mb Q.lt (λe=>e.elim (λe=>aJ e.symm) (λe=>bl e)));have aT:M.ownBlock=y.ownBlock:=(d' ax).2.2.1;clear z0 bq br ax aP aO aR;rintro H ⟨aD,aU,ay,aE⟩;have bt:H.cell? (Ea w (a+1))=some (.map (some mb)):=by rw[D' aD,z18 (by omega)];exact(d' ao).c1
 obtain⟨Y,aV,aW⟩:=MN (P:=prog) (w:=H) (t:=117) (K':=3) underlying117 underlying3 ay n;have bu:=λty=>aV ty H rfl;have bP:=aE.size;have bQ:=ay.lt;have aX:=y' aD;have az:=y' aU;have aY:=y' aW;have bw:=y' ay;have aZ:=y' aE;clear aD aU ay aE aV aW;go_upto_region 6 with fail;have ba:∀g,y.ownBlock=some g->g < p.heap.size:=λg z=>(d' ao).sh.lt g (.inl z);refine G' (λG=>Eh G w (l.setIfInBounds a M) j/\Jt G M ((PY d n).map (·.1))/\Xp G mb (fK (AV d) n)/\Far (λg=>(g=w\/y.ownBlock=some g)\/g=mb) x G/\Eh G p.heap.size #[.string ⟨#[]⟩] 224/\Eh G (p.heap.size+1) #[.string b] 224) ?_ ?_;have aF:=JS (w:=H) mb Y;have hF:=(d' aZ).mono (E':=λg=>(g=w\/y.ownBlock=some g)\/g=mb) (λ_ _ h=>.inl h) |>.trans aF (λ_ _ h=>.inr h);have bb:∀g,p.heap.size<=g->¬ ((g=w\/y.ownBlock=some g)\/g=mb):=by rintro g z ((h|h)|h);omega;have:=ba g h;omega;omega
 refine⟨aF.blk (d' aX) aJ,(d' az).keep (λg z=>aF.rest g (z14 (d' az) g z).2 ?_),d' aY,hF,hF.blk (d' bm) (bb _ (z16 _)),hF.blk (d' bn) (bb _ (by omega))⟩;rintro rfl;obtain⟨bc,ad⟩:∃bc,Eh H g bc 3:=by rcases(d' az).cases with ⟨e,_⟩|⟨g',bR,bS,e,bz,_⟩;rw[e]at z;cases z;rw[e]at z;cases z;exact⟨_,bz⟩
 exact(d' bw).Jy ad;rintro G ⟨bd,be,bf,bg,aG,bh⟩;have f0:G.cell? (Ea p.heap.size 0)=some (.string ⟨#[]⟩):=Bi 0 aG;have f1:G.cell? (Ea (p.heap.size+1) 0)=some (.string b):=Bi 0 bh;have bT:G.frozen? ⟨p.heap.size,0,none⟩=false:=H' (i:=0) aG;have bA:=y' bd;have bi:=y' be;have bj:=y' bf;have bB:=y' bg;clear bd be bf bg aG bh aX az aY aZ bu bt;go_wp2;refine z47 (v:=.tuple #[.agg #[.string b],.bool true]) (by simp[results,results204,go_sem,f0]) rfl ⟨rfl,?_⟩;have V:=T' G p.heap.size 0 (.string b);have S:=d' ao;have bC:w≠p.heap.size:=by omega
 refine⟨⟨M,⟨V.blk (d' bA) bC,by simp[bk],by rw[z18 (by omega)];exact S.c1,⟨(d' bi).keep (λg z=>V.rest g (z14 (d' bi) g z).2 (λe=>?_)),.inr ⟨mb,rfl,?_⟩,?_,?_⟩,S.ty⟩,aT⟩,?_⟩;rw[aT]at z;have:=ba g z;omega;rw[iJ S.sh.sorted n];exact(d' bj).keep (V.rest mb (d' bj).lt (by omega));exact S.sh.sorted.sublist ((OE d n).map _);exact z26 (OE d n).length_le S.sh.len;have bD:Far (λk=>k=w\/ShU y (.map (some mb)) k) p G:=(I' (E:=λk=>k=w\/ShU y (.map (some mb)) k) (d' bo)).trans (d' bB) (λk _ h=>by rcases h with (h|h)|h;exact .inl h;exact .inr (.inl h);exact .inr (.inr (by rw[h];rfl)));exact bD.trans V (λk Z h=>by omega)
def IY (held:List (Nat×Nat×z10)) (sh:Nat->List (Nat×Value)):Prop:=∀s,s < 3->∀ (q:Nat) (b:z10),AV (sh s) (q:Int)=some (PW b) ↔ (s,q,b) ∈held
structure CZ (a:Mq.Sk):Prop where
 bod:∀h∈a.held,h.2.2.size<=20
 nxt:a.count < 120->∀s,s < 3->∀b,(s,(a.Qc s).length+1,b) ∉a.held
theorem YO:∀ {l:List (Nat×Nat×z10)} {i k:Nat},Mq.ixFrom w a i l=some k->∃ (h:k - i < l.length),l[k - i].1=w/\l[k - i].2.1=a/\i<=k
 |[],_,_,h=>by simp[Mq.ixFrom]at h
 |x::l,i,k,h=>by
  rw[Mq.ixFrom]at h;split at h
  .rename_i z;injection h with h;subst h;simpa using z
  .obtain⟨h1,h2,h3,h4⟩:=YO h;have e:k - i=(k - (i+1))+1:=(by omega);simp only[e];exact⟨by simp;omega,by simpa using h2,by simpa using h3,by omega⟩
theorem MX:∀ {l:List (Nat×Nat×z10)} {i:Nat},Mq.ixFrom w a i l=none->∀b,(w,a,b) ∉l
 |[],_,_=>by simp
 |x::l,i,h=>by
  rw[Mq.ixFrom]at h;split at h
  .cases h
  .rename_i z;intro b hb;cases hb with
   |head=>exact z ⟨rfl,rfl⟩
   |tail _ hb=>exact MX h b hb
theorem kN (h:x.ix w a=some q):(w,a,(x.held.getD q (0,0,⟨#[]⟩)).2.2) ∈x.held:=by
 obtain⟨h1,h2,h3,h4⟩:=YO h;simp only[Nat.sub_zero]at h1 h2 h3;rw[z15,z17 h1,z98];have:=z86 h1;rw[show(w,a,x.held[q].2.2)=x.held[q] by rw[<-h2,<-h3]];exact this
theorem WR (h:x.ix w a=none):∀b,(w,a,b) ∉x.held:=MX h
theorem xU (G:Jd x) (h:(w,a,z) ∈x.held) (F:(w,a,bP) ∈x.held):z=bP:=by
 have hn:=G.once;have:∀ (l:List (Nat×Nat×z10)),(l.map λh=>(h.1,h.2.1)).Nodup->(w,a,z) ∈l->(w,a,bP) ∈l->z=bP:=by
  intro l;induction l with
  |nil=>intro _ h;cases h
  |cons H r ih=>
   intro hn h F;rw[z50,Fm]at hn;cases h with
   |head=>
    cases F with
    |head=>rfl
    |tail _ F=>exact absurd (z66.2 ⟨_,F,rfl⟩) hn.1
   |tail _ h=>
    cases F with
    |head=>exact absurd (z66.2 ⟨_,h,rfl⟩) hn.1
    |tail _ F=>exact ih hn.2 h F
 exact this x.held hn h F
structure tJ (a:Mq.Sk) (s q:Nat) (b:z10) (out:List z10) (sh:Nat->List (Nat×Value)):Prop where
 on:∀t,t < 3->∀ (n:Nat) (c:z10),AV (sh t) (n:Int)=some (PW c) ↔ ((t,n,c) ∈a.held/\(t=s->(a.Qc s).length+out.length < n))
 are:∀t,t < 3->PX (sh t)
 pos:0 < out.length
 len:a.count+out.length<=120
 run:a.commitFrom s q a.count (121 - out.length) out=a.commitFrom s q a.count 120 [b]
 bod:∀c∈out,c.size<=20
theorem tL (F:Jd x) (G:CZ x) (O:IY x.held L) (A:∀t,t < 3->PX (L t)) (s:Nat) (b:z10) (hs:s < 3) (hb:b.size<=20) (H:x.count < 120):tJ x s ((x.Qc s).length+1) b [b] L:=by
 refine⟨λt z n c=>?_,A,by simp,by simp;omega,by simp,by simpa using hb⟩;rw[O t z n c];constructor;intro h;refine⟨h,λe=>?_⟩;subst e;have h1:=(F.held _ h).2.1;have h2:=G.nxt H t z c;simp only[List.length_singleton]at h1 ⊢;rcases zT ((x.Qc t).length+1) n with h3|h3;exact h3;have:n=(x.Qc t).length+1:=by omega
 subst this;exact absurd h h2;exactλh=>h.1
theorem xV (J:Jd x) (M:CZ x) (hs:w < 3) (F:tJ x w ((x.Qc w).length+1) z S L) (Q:x.count+S.length < 120) (V:((L w).map (·.1)).Pairwise (· < ·))
  (hl:AV (L w) (((x.Qc w).length+S.length+1:Nat):Int)=some (PW bP)):
  tJ x w ((x.Qc w).length+1) z (S++[bP]) (λt=>if t=w then PY (L w) ((x.Qc w).length+S.length+1)else L t):=by
 have H:=((F.on w hs _ bP).1 hl).1;refine⟨λt G n d=>?_,λt G=>?_,by simp,by simp;omega,?_,?_⟩;by_cases e:t=w;subst e;rw[if_pos rfl,iJ V];unfold fK;by_cases h1:(n:Int)=(((x.Qc t).length+S.length+1:Nat):Int);rw[if_pos h1];simp;intro _;omega;rw[if_neg h1,F.on t G n d];simp;intro _;omega;rw[if_neg e,F.on t G n d];simp[e];show PX (if t=w then _ else L t);by_cases e:t=w;rw[if_pos e];exactλY Z=>F.are w hs Y ((OE _ _).subset Z);rw[if_neg e];exact F.are t G
 .rw[<-F.run];have aa:(S++[bP]).length=S.length+1:=by simp
  rw[aa];have ab:121 - S.length=(121 - (S.length+1))+1:=by have:=F.len;omega
  rw[ab];have I:(x.Qc w).length+1+S.length=(x.Qc w).length+S.length+1:=by omega
  cases hi:x.ix w ((x.Qc w).length+1+S.length)with
  |none=>have:=WR hi bP;rw[I]at this;exact absurd H this
  |some i=>rw[Mq.Sk.Vh Q hi];have h2:=kN hi;rw[I]at h2;rw[xU J H h2]
 intro d hd;rw[z55,z51]at hd;rcases hd with hd|rfl;exact F.bod d hd;exact M.bod _ H
theorem iK (hs:w < 3) (F:tJ x w ((x.Qc w).length+1) z S L)
  (h:¬x.count+S.length < 120\/AV (L w) (((x.Qc w).length+S.length+1:Nat):Int)=none):S=x.commitFrom w ((x.Qc w).length+1) x.count 120 [z]:=by
 rw[<-F.run];rcases h with h|h;exact(Mq.Sk.Zm h).symm;by_cases G:x.count+S.length < 120
 .refine(Mq.Sk.Vj G ?_).symm;cases hi:x.ix w ((x.Qc w).length+1+S.length)with
  |none=>rfl
  |some i=>have h2:=kN hi;rw[show(x.Qc w).length+1+S.length=(x.Qc w).length+S.length+1 by omega]at h2;have:=(F.on w hs _ _).2 ⟨h2,λ_=>by omega⟩;rw[h]at this;cases this
 exact(Mq.Sk.Zm G).symm
theorem Gp (F:tJ x w ((x.Qc w).length+1) z S L):IY (EJ x w S).held L:=by
 intro t G n c;rw[F.on t G n c];show _↔ _∈ (x.held.filter (Mq.keeps w (x.Qc w++S).length));rw[sL,z29];unfold Mq.keeps;by_cases e:t=w;subst e;simp;simp[e]
section
variable {w x y:World} {p e e2:Nat} {Qc logs2:Nat->List z10} {sh sh2:Nat->List (Nat×Value)} {st st2:Stv} {c:Sv}
theorem oR (z:Jo w p e Qc sh st c):Xg w w p e Qc sh st c:=⟨c,z,Far.refl _ _,λ_ h=>.inl h,rfl,rfl⟩
theorem Xg.trans (h:Xg w x p e Qc sh st c) (G:∀z,Jo x p e Qc sh st z->Xg x y p e2 logs2 sh2 st2 z):Xg w y p e2 logs2 sh2 st2 c:=by
 obtain⟨c1,h1,h2,h3,h4,h5⟩:=h;obtain⟨c2,k1,k2,k3,k4,k5⟩:=G c1 h1;refine⟨c2,k1,h2.trans k2 (λk F hu=>(h3 k hu).elim id (λh=>by omega)),λk F=>?_,k4.trans h4,k5.trans h5⟩;rcases k3 k F with h|h;exact h3 k h;exact .inr (z26 h2.size h)
theorem Xg.below (h:Xg w x p e Qc sh st c) (hb:El x y):Xg w y p e Qc sh st c:=
 h.trans (λz F=>⟨z,F.far (fbF hb) Ih,I' hb,λ_ h=>.inl h,rfl,rfl⟩)
theorem Jo.shAt (z:Jo w p e Qc sh st c) {i:Nat} (hi:i < 3):KP w p (2+i * 3+1) 125 c.arr (c.nv i) (c.mv i) (sh i):=
 ⟨z.ks.blk,z.ks.an i hi,z.ks.am i hi,z.ks.shs i hi,by decide⟩
theorem vU (z:Jo w p e Qc sh st c) {i:Nat} (hi:i < 3) {J:List (Nat×Value)} {nv' mv':Value} (S:KP x p (2+i * 3+1) 125 ((c.arr.setIfInBounds (2+i * 3+1) nv').setIfInBounds (2+i * 3+1+1) mv') nv' mv' J) (hn:Loc w (c.nv i) nv')
  (aa:CT mv'=CT (c.mv i)\/∃g,CT mv'=some g/\w.heap.size<=g) (hF:Far (λk=>k=p\/ShU (c.nv i) (c.mv i) k) w x) (A:PX J):
  Jo x p e Qc (λt=>if t=i then J else sh t) st {c with arr:=(c.arr.setIfInBounds (2+i * 3+1) nv').setIfInBounds (2+i * 3+1+1) mv',nv:=λt=>if t=i then nv' else c.nv t,mv:=λt=>if t=i then mv' else c.mv t}/\
   (∀k,ShU nv' mv' k->ShU (c.nv i) (c.mv i) k\/w.heap.size<=k):=by
 have Z:∀k,(k=p\/ShU (c.nv i) (c.mv i) k)->KsU p c.lv c.nv c.mv k:=λk F=>F.elim .inl (λh=>.inr (.inr ⟨i,hi,h⟩));have hst:=z.stt.far hF (λk F h=>z.sep k (Z k h) F);have ab:=z.rl.far hF (λg H h=>(z.sepr g H).1 (Z g h));have ac:=z.ks.sz;have I:∀j,j≠2+i * 3+1->j≠2+i * 3+2->((c.arr.setIfInBounds (2+i * 3+1) nv').setIfInBounds (2+i * 3+1+1) mv')[j]? =c.arr[j]? :=λj h1 h2=>by rw[z18 (by omega),z18 (by omega)]
 have Y:∀k,ShU nv' mv' k->ShU (c.nv i) (c.mv i) k\/w.heap.size<=k:=by rintro k (F|F);rcases hn with h|h|⟨g,h,H⟩;rw[h]at F;cases F;exact .inl (.inl (by rw[<-h];exact F));rw[h]at F;cases F;exact .inr H;rcases aa with h|⟨g,h,H⟩;exact .inl (.inr (by rw[<-h];exact F));rw[h]at F;cases F;exact .inr H
 refine⟨⟨⟨S.blk,by simpa using ac,?_,?_,?_,?_,?_,?_,?_,?_,?_,z.ks.apl,?_,z.ks.cnt,z.ks.ep⟩,hst,ab,z.len⟩,Y⟩;rw[I _ (by omega) (by omega)];exact z.ks.a0;rw[I _ (by omega) (by omega)];exact z.ks.a1;intro j hj;rw[I _ (by omega) (by omega)];exact z.ks.al j hj;intro j hj;show _=some (if j=i then nv' else c.nv j);by_cases e:j=i;subst e;rw[if_pos rfl];exact S.c0;rw[if_neg e,I _ (by omega) (by omega)];exact z.ks.an j hj;intro j hj;show _=some (if j=i then mv' else c.mv j);by_cases e:j=i;subst e;rw[if_pos rfl];exact S.c1;rw[if_neg e,I _ (by omega) (by omega)];exact z.ks.am j hj;rw[I _ (by omega) (by omega)];exact z.ks.ar;intro j hj;refine(z.ks.lgs j hj).far hF (λg H h=>?_);obtain⟨ah,ad⟩:=FP (z.ks.lgs j hj) H;rcases h with h|h;exact(z.ks.lgs j hj).ne z.ks.blk (by decide) (by rw[H,h]);exact(z.ks.shs i hi).ne ad (by decide) h;intro j hj;show Jl x (if j=i then nv' else c.nv j) (if j=i then mv' else c.mv j) (if j=i then J else sh j);by_cases e:j=i;rw[if_pos e,if_pos e,if_pos e];exact S.sh;rw[if_neg e,if_neg e,if_neg e];refine(z.ks.shs j hj).far hF (λk F h=>?_);rcases h with h|h;exact(z.ks.shs j hj).ne z.ks.blk (by decide) (by rw[<-h];exact F);exact z.ks.aps j i hj hi e k F h;intro j hj;show PX (if j=i then J else sh j);by_cases e:j=i;rw[if_pos e];exact A;rw[if_neg e];exact z.ks.are j hj;intro j G hj Q M k F;replace F:ShU (if j=i then nv' else c.nv j) (if j=i then mv' else c.mv j) k:=F;show ¬ShU (if G=i then nv' else c.nv G) (if G=i then mv' else c.mv G) k;by_cases h1:j=i;subst h1;rw[if_pos rfl,if_pos rfl]at F;rw[if_neg (λe=>M e.symm),if_neg (λe=>M e.symm)];intro V;rcases Y k F with h|h;exact z.ks.aps j G hj Q M k h V;have:=(z.ks.shs G Q).lt k V;omega;rw[if_neg h1,if_neg h1]at F;by_cases h2:G=i;subst h2;rw[if_pos rfl,if_pos rfl];intro V;rcases Y k V with h|h;exact z.ks.aps j G hj Q M k F h;have:=(z.ks.shs j hj).lt k F;omega;rw[if_neg h2,if_neg h2];exact z.ks.aps j G hj Q M k F
theorem iL (G:Jo w p e Qc sh st c) {i:Nat} (hi:i < 3) {F:List (Nat×Value)} (h:EC w x p (2+i * 3+1) 125 c.arr (c.nv i) (c.mv i) F) (A:PX F):
  Xg w x p e Qc (λt=>if t=i then F else sh t) st c:=by
 obtain⟨⟨nv',mv',S,hn,H⟩,hF⟩:=h;have I:∀k,(k=p\/ShU (c.nv i) (c.mv i) k)->KsU p c.lv c.nv c.mv k:=λk z=>z.elim .inl (λh=>.inr (.inr ⟨i,hi,h⟩));obtain⟨J,M⟩:=vU G hi S hn H hF A;refine⟨_,J,?_,?_,rfl,rfl⟩;exact hF.mono (λk _ h=>.inl (I k h));rintro k ((rfl|z|⟨j,hj,z⟩)|z|z);exact .inl (.inl (.inl rfl));exact .inl (.inl (.inr (.inl z)));have z:ShU (if j=i then nv' else c.nv j) (if j=i then mv' else c.mv j) k:=z;by_cases e:j=i;rw[if_pos e,if_pos e]at z;exact(M k z).elim (λh=>.inl (.inl (.inr (.inr ⟨i,hi,h⟩)))) .inr;rw[if_neg e,if_neg e]at z;exact .inl (.inl (.inr (.inr ⟨j,hj,z⟩)));exact .inl (.inr (.inl z));exact .inl (.inr (.inr z))
def xW (w F:World) (p e:Nat) (Qc:Nat->List z10) (sh:Nat->List (Nat×Value)) (st:Stv) (c:Sv):Prop:=
 ∃z,Jo F p e Qc sh st z/\(∀k,PkU p z k->PkU p c k)/\Far (PkU p c) w F/\z.s=c.s/\z.rv=c.rv
theorem xW.far {E:Nat->Prop} (h:xW w x p e Qc sh st c) (G:∀k,PkU p c k->k < w.heap.size) (hF:Far E x y) (z:∀k,E k->w.heap.size<=k):xW w y p e Qc sh st c:=by
 obtain⟨H,h1,h2,h3,h4,h5⟩:=h;exact⟨H,h1.far hF (λk F e=>by have:=G k (h2 k F);have:=z k e;omega),h2,h3.trans hF (λk F e=>by have:=z k e;omega),h4,h5⟩
theorem xX (G:Jo w p e Qc sh st c) {i:Nat} (hi:i < 3) {F:List (Nat×Value)} (h:Vn w x p (2+i * 3+1) 125 c.arr (c.nv i) (c.mv i) F) (A:PX F):
  xW w x p e Qc (λt=>if t=i then F else sh t) st c:=by
 obtain⟨⟨nv',S,H⟩,hF⟩:=h;have e2:(c.arr.setIfInBounds (2+i * 3+1) nv').setIfInBounds (2+i * 3+1+1) (c.mv i)=c.arr.setIfInBounds (2+i * 3+1) nv':=IX (by rw[z18 (by omega)];exact G.ks.am i hi);obtain⟨I,_⟩:=vU (nv':=nv') (mv':=c.mv i) G hi (by rw[e2];exact S) (.inr (.inl H)) (.inl rfl) hF A;have J:∀k,ShU nv' (c.mv i) k->ShU (c.nv i) (c.mv i) k:=λk z=>z.elim (λh=>.inl (by rw[<-H];exact h)) .inr;refine⟨_,I,?_,hF.mono (λk _ h=>.inl (h.elim .inl (λh=>.inr (.inr ⟨i,hi,h⟩)))),rfl,rfl⟩;rintro k ((rfl|z|⟨j,hj,z⟩)|z|z);exact .inl (.inl rfl);exact .inl (.inr (.inl z));have z:ShU (if j=i then nv' else c.nv j) (if j=i then c.mv i else c.mv j) k:=z;by_cases e:j=i;rw[if_pos e,if_pos e]at z;exact .inl (.inr (.inr ⟨i,hi,J k z⟩));rw[if_neg e,if_neg e]at z;exact .inl (.inr (.inr ⟨j,hj,z⟩));exact .inr (.inl z);exact .inr (.inr z)
end
theorem FA (z:Jo p w a F L H D) (hb:p.heap[q]? =some (.cells l j aA))
  (h1:j≠125) (h2:j≠9) (h3:j≠3) (h4:j≠190) (h5:j≠233) (G:j≠5) (I:j≠254) (J:j≠130):¬PkU w D q:=by
 rintro(h|(h|h)|h);exact EZ z.ks hb h1 h2 h3 h;subst h;have:=z.stt.blk;rw[hb]at this;injection this with this;injection this with _ this _;exact h4 this;exact KW z.stt.dk hb (λa=>h5 a.symm) (λa=>G a.symm) (λa=>I a.symm) h;exact z.rl.ne hb (λa=>J a.symm) h
theorem IB (a:Mq.Sk) (s:Nat):(grown a s []).Qc=a.Qc:=by
 funext t;show(if t=s then a.Qc s++[]else a.Qc t)= _;split;rename_i h;subst h;simp;rfl
theorem YP (a:Mq.Sk) (s:Nat) (out:List z10) (c:z10):(λj=>if j=s then(grown a s out).Qc s++[c]else(grown a s out).Qc j)=(grown a s (out++[c])).Qc:=by
 funext t;show(if t=s then(if s=s then a.Qc s++out else a.Qc s)++[c]else(if t=s then a.Qc s++out else a.Qc t))=if t=s then a.Qc s++(out++[c])else a.Qc t
 split;simp;rfl
theorem TY (a:Mq.Sk) (s:Nat) (hs:s < 3) (out:List z10):((grown a s out).Qc 0).length+((grown a s out).Qc 1).length+((grown a s out).Qc 2).length=a.count+out.length:=IS a s hs out
theorem YQ (a:Mq.Sk) (s:Nat) (out:List z10):(grown a s out).Qc s=a.Qc s++out:=by
 show(if s=s then _ else _)= _;rw[if_pos rfl]
def kO (w1 z:World):Prop:=∀ (g:Nat) (x:z10),w1.heap[g]? =some (.cells #[.string x] 224 (0,0))->∃F:z10,z.heap[g]? =some (.cells #[.string F] 224 (0,0))
theorem kP (w:World):kO w w:=λ_ x h=>⟨x,h⟩
theorem oS (w:World) (g:Nat) (b:z10):kO w (w.setCell ⟨g,0,none⟩ (.string b)):=by
 intro k x h;by_cases e:k=g;subst e;have:=AA (j:=0) (v:=.string b) h;exact⟨b,by simpa using this⟩;exact⟨x,(T' w g 0 (.string b)).blk h e⟩
def oT:Option Value->Nat
 |some (.slice _ n _)=>n
 | _=>0
