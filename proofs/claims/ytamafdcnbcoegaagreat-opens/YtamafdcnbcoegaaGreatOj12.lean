/- Part 12. -/
import Derived.Test.YtamafdcnbcoegaaGreatOj11
set_option maxRecDepth 100000
set_option maxHeartbeats 40000000
namespace Go.Proofs.YtamafdcnbcoegaaGreat
attribute [local simp, local go_sem] Ev Ep Ei Eb Et
open Go.RowKit Go.Proofs.Tryz
def plD (z:Nat->List Nat) (n:Nat->Nat) (j:Nat):Nat->List Nat:=fun t=>if t < j then(z t).drop (n t)else z t
def frD (free:List Nat) (z:Nat->List Nat) (n:Nat->Nat):Nat->List Nat
 |0=>free
 |j+1=>frD free z n j++(z j).take (n j)
theorem xk' (z:Nat->List Nat) (n:Nat->Nat):plD z n 0=z:=by funext t;unfold plD;rw[if_neg (by omega)]
theorem ru' (z:Nat->List Nat) (n:Nat->Nat) (j:Nat):plD z n j j=z j:=by unfold plD;rw[if_neg (by omega)]
theorem xl' (free:List Nat) (z:Nat->List Nat) (n:Nat->Nat) (j:Nat):frD free z n (j+1)=frD free z n j++(plD z n j j).take (n j):=by rw[ru'];rfl
theorem xm' (z:Nat->List Nat) (n:Nat->Nat) (j:Nat):plD z n (j+1)=fun t=>if t=j then(plD z n j j).drop (n j)else plD z n j t:=by
 funext t;rw[ru'];unfold plD;by_cases h:t=j
 ·subst h;rw[if_pos (by omega),if_pos rfl]
 ·rw[if_neg h];by_cases h2:t < j
  ·rw[if_pos (by omega),if_pos h2]
  ·rw[if_neg (by omega),if_neg h2]
variable{k:List Nat}{V:Nat -> List Nat}{Q:Nat -> Nat}{w:Nat}
theorem tQ':∀j,w∈frD k V Q j->w∈k\/∃i,i < j/\w∈ (V i).take (Q i)
 |0,h=> .inl h
 |j+1,h=>by
  unfold frD at h;rw[z61]at h;rcases h with h|h
  ·exact(tQ' j h).imp id (fun⟨i,hi,z⟩=>⟨i,by omega,z⟩)
  ·exact .inr ⟨j,by omega,h⟩
variable{P:Mq.Stv}{y:Mq.Ag}
theorem xn' {ct:Nat} (h:Yv w ct 0 P y k V) (M:ct+1000 < 18446744073709551616) (G:Mq.Xn y k V) (n X:Nat->Nat) (hn:∀i,i < 3->n i<=(y.fl i).kept.length) (F:∀i,i < 3->X i=(y.fl i).base+n i) (H:∀i,i < 3->(y.fl i).base+(y.fl i).kept.length<=2147483647):
  (P.Qr (X 0) (X 1) (X 2)).1=0/\Yv w (ct+1) 0 (P.Qr (X 0) (X 1) (X 2)).2 (y.drop n) (frD k V n 3) (plD V n 3):=by
 have I:=nC' h (by omega);have z:∀i,i < 3->((y.drop n).fl i).base=(y.fl i).base+n i/\((y.drop n).fl i).kept.map (·.1)=((y.fl i).kept.drop (n i)).map (·.1):=fun i hi=>by simp[Mq.Ag.drop,Mq.Xy,hi,Mq.Jl.drop]
 have hd:=h.dk.gone (a':=y.drop n) (free':=frD k V n 3) (pl':=plD V n 3) G n hn z (fun i hi=>by unfold plD;rw[if_pos hi]) (fun x J=>tQ' 3 J) (by have:=h.ct;omega) H;rw[(z 0 (by omega)).1,(z 1 (by omega)).1,(z 2 (by omega)).1,<-F 0 (by omega),<-F 1 (by omega),<-F 2 (by omega)]at hd;have h1:=h.dead;have h2:=h.arm;have h3:=h.ct;unfold Mq.Stv.Qr Mq.Dk.put;rw[if_neg (by rw[h1];simp),if_neg (by rw[h2];omega),I];exact⟨rfl,rfl,by show P.dk.Zo - 1=0;rw[h2],h.op,by show P.count+1<=ct+1;omega,hd⟩
variable{a q:Nat}{aX:Mq.Ag}
theorem Yv.same (h:Yv w a q P y k V) (hb:∀i,i < 3->(aX.fl i).base=(y.fl i).base/\(aX.fl i).kept.map (·.1)=(y.fl i).kept.map (·.1)):Yv w a q P aX k V:=⟨h.dead,h.arm,h.op,h.ct,h.dk.same hb⟩
def gt' (a:Mq.Ag):Nat:=((a.fl 0).base+(a.fl 0).base+(a.fl 0).kept.length)+((a.fl 1).base+(a.fl 1).base+(a.fl 1).kept.length)+((a.fl 2).base+(a.fl 2).base+(a.fl 2).kept.length)
def Vq (op:Nat) (st:Mq.Stv) (a:Mq.Ag) (free:List Nat) (z:Nat->List Nat):Prop:=Yv op (1+gt' a) 0 st a free z
theorem vj' (hb:∀i,i < 3->(aX.fl i).base=(y.fl i).base/\(aX.fl i).kept.map (·.1)=(y.fl i).kept.map (·.1)):gt' aX=gt' y:=by
 have hl:∀i,i < 3->(aX.fl i).kept.length=(y.fl i).kept.length:=fun i hi=>by have:=congrArg List.length (hb i hi).2;simpa using this
 unfold gt';rw[(hb 0 (by omega)).1,(hb 1 (by omega)).1,(hb 2 (by omega)).1,hl 0 (by omega),hl 1 (by omega),hl 2 (by omega)]
theorem Vq.same (h:Vq w P y k V) (hb:∀i,i < 3->(aX.fl i).base=(y.fl i).base/\(aX.fl i).kept.map (·.1)=(y.fl i).kept.map (·.1)):Vq w P aX k V:=by
 unfold Vq;rw[vj' hb];exact Yv.same h hb
theorem Vq.flags (h:Vq w P y k V) (tk:Nat) (z F:Bool):Vq w P {y with Qf:=tk,Qd:=z,fenced:=F} k V:=h.same (fun _ _=>⟨rfl,rfl⟩)
theorem tR' (z:∀i,i < 3->(y.fl i).base+(y.fl i).kept.length<=2147483647):gt' y<=12884901882:=by
 have h0:=z 0 (by omega);have h1:=z 1 (by omega);have h2:=z 2 (by omega);unfold gt';omega
variable{R:Nat -> List (Nat×Value)}{dM dN:Nat -> Nat}
theorem tk' (z:Js y w Q k R V) (F:∀i,i < 3->dN i=(y.fl i).base+dM i) (G:¬ (dN 0=Q 0/\dN 1=Q 1/\dN 2=Q 2)):0 < dM 0+dM 1+dM 2:=by
 have H:=z.bs 0 (by omega);have I:=z.bs 1 (by omega);have b2:=z.bs 2 (by omega);have J:=F 0 (by omega);have M:=F 1 (by omega);have O:=F 2 (by omega);omega
theorem xo' {st:Mq.Stv} (h:Vq w st y k V) (P:Mq.Xn y k V) (n X:Nat->Nat) (hn:∀i,i < 3->n i<=(y.fl i).kept.length) (F:∀i,i < 3->X i=(y.fl i).base+n i) (z:∀i,i < 3->(y.fl i).base+(y.fl i).kept.length<=2147483647) (G:0 < n 0+n 1+n 2):
  (st.Qr (X 0) (X 1) (X 2)).1=0/\Vq w (st.Qr (X 0) (X 1) (X 2)).2 (y.drop n) (frD k V n 3) (plD V n 3):=by
 have H:=tR' z;obtain⟨h1,h2⟩:=xn' (ct:=1+gt' y) h (by omega) P n X hn F z;refine⟨h1,⟨h2.dead,h2.arm,h2.op,z26 h2.ct ?_,h2.dk⟩⟩;have hl:∀i,i < 3->((y.drop n).fl i).base=(y.fl i).base+n i/\((y.drop n).fl i).kept.length=(y.fl i).kept.length - n i:=fun i hi=>by simp[Mq.Ag.drop,Mq.Xy,hi,Mq.Jl.drop]
 have n0:=hn 0 (by omega);have n1:=hn 1 (by omega);have n2:=hn 2 (by omega);show 1+gt' y+1<=1+gt' (y.drop n);unfold gt';rw[(hl 0 (by omega)).1,(hl 0 (by omega)).2,(hl 1 (by omega)).1,(hl 1 (by omega)).2,(hl 2 (by omega)).1,(hl 2 (by omega)).2];omega
def Zp (op:Nat) (w x:World) (p:Nat) (a:Mq.Ag) (c:Av):Prop:=
 ∃g free sh z st,Ja w x p g a.Qf a.Qd a.fenced free sh st c/\Vq op st a free z/\Js a st.Qe g free sh z
theorem Zp.behind {op:Nat} {w x y:World} {p:Nat} {a:Mq.Ag} {c:Av} (h:Zp op x y p a c) (hb:Below w.heap.size w x):Zp op w y p a c:=by
 obtain⟨g,free,sh,z,st,hk,hs,F⟩:=h;exact⟨g,free,sh,z,st,hk.behind hb,hs,F⟩
theorem Zp.below {op:Nat} {w x y:World} {p:Nat} {a:Mq.Ag} {c:Av} (h:Zp op w x p a c) (hb:Below x.heap.size x y):Zp op w y p a c:=by
 obtain⟨g,free,sh,z,st,hk,hs,F⟩:=h;exact⟨g,free,sh,z,st,hk.below hb,hs,F⟩
variable{p:World}{aZ:Av}
theorem eq' (z:Je p a Q y.Qf y.Qd y.fenced k R P aZ) (hs:Vq w P y k V) (F:Js y P.Qe Q k R V):Zp w p p a y aZ:=⟨Q,k,R,V,P,qz' z,hs,F⟩
section
variable {w x:World} {p:Nat} {g:Nat->Nat} {tk:Nat} {wel fen:Bool} {free:List Nat} {sh:Nat->List (Nat×Value)} {st:Mq.Stv} {c:Av} {a:Mq.Ag} {pl:Nat->List Nat} {op:Nat}
theorem rv' (Z:Je w p g a.Qf a.Qd a.fenced free sh st c) (hs:Vq op st a free pl) (cu:∀i,i < 3->(a.fl i).base+(a.fl i).kept.length<=2147483647) (bn:Js a st.Qe g free sh pl) (n X:Nat->Nat) (hn:∀i,i < 3->n i<=(a.fl i).kept.length) (bo:∀i,i < 3->X i=(a.fl i).base+n i) (bp:∀i,i < 3->X i < 4294967296)
  (bG:¬ (X 0=g 0/\X 1=g 1/\X 2=g 2)):
  Calls prog 152 #[D' p, .agg #[.int .i64 (X 0), .int .i64 (X 1), .int .i64 (X 2)]] w fun r z=>r= .returned (.int .i64 0)/\Zp op w z p (a.drop n) c:=by
 have g0:w.cell? ⟨p,1,none⟩=some (.int .i64 (g 0)):=by rw[y' Z.ks.blk];exact Z.ks.ag 0 (by omega)
 have g1:w.cell? ⟨p,2,none⟩=some (.int .i64 (g 1)):=by rw[y' Z.ks.blk];exact Z.ks.ag 1 (by omega)
 have g2:w.cell? ⟨p,3,none⟩=some (.int .i64 (g 2)):=by rw[y' Z.ks.blk];exact Z.ks.ag 2 (by omega)
 have bH:=z14 Z.ks.blk;obtain⟨h0,bI⟩:=xo' hs bn.places n X hn bo cu (tk' bn bo bG);have bq:=lm' (st:=st) (X 0) (X 1) (X 2) Z.stt.hd (by rw[Z.len];omega);rw[Z.len]at bq;have bJ:=gS' (st:=st) (X 0) (X 1) (X 2);have bK:=fun y (aj:Vf y c.s c.dp st c.dlv c.duv)=>dr' y c.s c.dp st c.dlv c.duv aj (X 0) (X 1) (X 2) (bp 0 (by omega)) (bp 1 (by omega)) (bp 2 (by omega));obtain⟨aB,bL⟩:=exq ((st.Qr (X 0) (X 1) (X 2)).2);rw[h0,<-bL]at bK;rw[<-bL]at bI bq bJ;have cv:∀z:World,(Op.equalIn 10000 136 (.agg #[.int .i64 (X 0), .int .i64 (X 1), .int .i64 (X 2)]) (.agg #[.int .i64 (g 0), .int .i64 (g 1), .int .i64 (g 2)])).run prog z= .ok false z:=fun z=>by
  rw[kj'];congr 1;by_cases ba:(X 0:Int)=(g 0:Int)
  ·by_cases aC:(X 1:Int)=(g 1:Int)
   ·have aT:¬ (X 2:Int)=(g 2:Int):=fun aT=>bG ⟨by omega,by omega,by omega⟩;simp[aT]
   ·simp[aC]
  ·simp[ba]
 have cw:=fun(z:World) (bb:Av) (h:Je z p g a.Qf a.Qd a.fenced free sh aB bb)=>qJ' h X;have cx:∀j:Nat,j < 3->∀cy:Array Value,cy= #[.int .i64 (X 0), .int .i64 (X 1), .int .i64 (X 2)]->cy[j]? =some (.int .i64 (X j)):=by
  rintro j hj _ rfl;obtain rfl|rfl|rfl:j=0\/j=1\/j=2:=by omega
  all_goals rfl
 have cz:=fun y aj=>m' (bK y aj);have cA:=fun z bb h=>m' (cw z bb h);have bM:=m' cx;have br:=m' Z;have cB:=m' bn;have aU:=m' (z12 bI (z12 bq (z12 bJ (z12 hn bo))));obtain⟨aD,bN⟩:=exq (X 0);obtain⟨aE,bO⟩:=exq (X 1);obtain⟨aF,bP⟩:=exq (X 2);rw[<-bN,<-bO,<-bP]at cz cv cA bM ⊢;have ec:=m' (z12 bN (z12 bO bP));generalize g 0=ed at *;generalize g 1=ee at *;generalize g 2=ef at *;clear Z bn bI bq bJ bK cw cx h0 bL bG bN bO bP hn bo bp hs cu;unfold D' at *;go_enter func152,ntmps152;go_upto_region 1 with fail;refine G' (fun x=>x.heap[w.heap.size]? =some (.cells #[.int .i64 aD, .int .i64 aE, .int .i64 aF] 136 (0,0))/\Below w.heap.size w x) ⟨z19 _ _,(z11 _ _).alloc (z13 _) _⟩ ?_;rintro x ⟨hb,aG⟩;obtain⟨aM,aN,b2⟩:=cC' hb;simp at aM aN b2;have d0:=(aG.cell (p:=⟨p,1,none⟩) bH).trans g0;have d1:=(aG.cell (p:=⟨p,2,none⟩) bH).trans g1;have d2:=(aG.cell (p:=⟨p,3,none⟩) bH).trans g2;have aH:=m' aG;have bc:=m' hb;clear hb aG g0 g1 g2;go_quiet (fail);go_upto_region 3 with fail;refine G' (fun x=>x.heap[w.heap.size]? =some (.cells #[.int .i64 aD, .int .i64 aE, .int .i64 aF] 136 (0,0))/\Below w.heap.size w x) ⟨d' bc,(d' aH).trans (z41 (z11 _ _) _ |>.mono (d' aH).size)⟩ ?_;clear aM aN b2 d0 d1 d2 aH bc cv;rintro x ⟨hb,aG⟩;obtain⟨aM,aN,b2⟩:=cC' hb;simp at aM aN b2;have eg:=z14 hb;have aH:=m' aG;have bc:=m' hb;have cC:∀k,w.heap.size<=k->¬StU c.s c.dp c.dlv c.duv k:=fun k hk h=>by have:=(d' br).lt k (.inr (.inl h));omega
 clear hb aG;refine af'
  [Ep p 0,Ep p 0,Ep p 0,Ep c.s 0,Ev (.agg #[.int .i64 aD, .int .i64 aE, .int .i64 aF]),
   fun v y=>v= .int .i64 0/\∃bd,Vf y c.s c.dp aB c.dlv bd/\Loc w c.duv bd,Ei 0]
  [[0],[1015],[2016],[3017],[3],[4018,5019],[6020]] [16,17,18,19,20,21,6] [5,1,9,6,48]
  [(5,StU c.s c.dp c.dlv c.duv)] ?_ ?_ (hst:=by repeat' (first|exact V' _|exact(fun _ _ _ h hb=>⟨h.1,h.2.imp fun _ h=>⟨h.1.far (C' (E:=fun _=>False) hb) (fun _ _ h=>h),h.2⟩⟩)|exact trivial|apply z12))
 ·refine⟨?_,?_,?_,?_,?_,?_,?_,trivial⟩;all_goals
   intro a' z hb Y;have aI:=hb.blk (d' bc) (ay' (by exact cC _ (z13 _)));obtain⟨ba,aC,aT⟩:=cC' aI;simp at ba aC aT;clear aI;simp[I']at Y
  iterate 3
   ·clear hb;go_simp;exact⟨_,rfl,Far.refl _ _,rfl⟩
  ·have z0:z.cell? ⟨p,0,none⟩=some (.pointer (some ⟨c.s,0,none⟩)):=(by have bQ:=(d' br).below (d' aH);have:=hb.blk bQ.ks.blk (ay' (by exact fun h=>bQ.sep p (.inl rfl) h));rw[y' this,bQ.ks.a0];rfl);clear hb;go_simp;exact⟨_,rfl,Far.refl _ _,rfl⟩
  ·clear hb;go_simp;exact⟨_,rfl,Far.refl _ _,rfl⟩
  ·have ah:Below x.heap.size x z:=es' hb;have bR:=m' (d' (cz z (((d' br).below (d' aH)).below ah).stt));have bt:=ah.size;have eh:=(d' aH).size;clear hb ah;go_simp;refine(d' bR).mono ?_;rintro r dr ⟨rfl,bd,k1,k2,k3⟩;exact⟨_,rfl,an' (.head _) k3,rfl,bd,k1,bT' k2 (by omega)⟩
  ·clear hb;obtain⟨Y,_⟩:=Y;go_simp;exact⟨_,rfl,Far.refl _ _,rfl⟩
 ·intro f z hF J;obtain⟨_,bd,k1,k2⟩:=J.2.2.2.2.2.1;have ds:=J.2.2.2.2.2.2.1;have hF:Far (StU c.s c.dp c.dlv c.duv) x z:=dM' hF;have be:=ih' (d' br) k1 k2 ((C' (E:=StU c.s c.dp c.dlv c.duv) (d' aH)).trans hF (fun _ _ h=>h)) (d' aU).2.1;have ah:=hF.blk (d' bc) (cC _ (z13 _));have cD:=be.trans (fun bb h=>d' (cA z bb h));obtain⟨ei,ak,_⟩:=id be;have f1:z.frozen? ⟨p,1,none⟩=false:=H' (i:=1) ak.ks.blk;have f2:z.frozen? ⟨p,2,none⟩=false:=H' (i:=2) ak.ks.blk;have f3:z.frozen? ⟨p,3,none⟩=false:=H' (i:=3) ak.ks.blk;have d1:z.cell? ⟨p,1,none⟩=some (.int .i64 (g 0)):=by rw[y' ak.ks.blk];exact ak.ks.ag 0 (by omega)
  have d2:z.cell? ⟨p,2,none⟩=some (.int .i64 (g 1)):=by rw[y' ak.ks.blk];exact ak.ks.ag 1 (by omega)
  have d3:z.cell? ⟨p,3,none⟩=some (.int .i64 (g 2)):=by rw[y' ak.ks.blk];exact ak.ks.ag 2 (by omega)
  obtain⟨aM,aN,b2⟩:=cC' ah;simp at aM aN b2;have bS:¬w.heap.size=p:=by omega
  have cE:=m' cD;have ax:=m' ah;clear J hF k1 k2 be ah cD ak;simp only[O',ds];go_upto_region 7 with fail;have cF:(((z.setCell ⟨p,1,none⟩ (.int .i64 aD)).setCell ⟨p,2,none⟩ (.int .i64 aE)).setCell ⟨p,3,none⟩ (.int .i64 aF)).heap[w.heap.size]? =some (.cells #[.int .i64 aD, .int .i64 aE, .int .i64 aF] 136 (0,0)):=by rw[P' bS,P' bS,P' bS];exact d' ax
  refine G' (fun y=>y.heap[w.heap.size]? =some (.cells #[.int .i64 aD, .int .i64 aE, .int .i64 aF] 136 (0,0))/\Ja w y p X a.Qf a.Qd a.fenced free sh aB c) ⟨cF,d' cE⟩ ?_;clear cF ax cE aM aN b2 f1 f2 f3 d1 d2 d3;rintro y cG;have bT:=m' cG;clear cG;go_wp2;go_loopw[6,28] (fun _ i wr=>∃j:Nat,j<=3/\i= .int .i64 j/\wr.heap[w.heap.size]? =some (.cells #[.int .i64 aD, .int .i64 aE, .int .i64 aF] 136 (0,0))/\∃aJ G pl',Ja w wr p X a.Qf a.Qd a.fenced aJ G aB c/\Js (agD a n j) aB.Qe (fun t=>((agD a n j).fl t).base) aJ G pl'/\aJ=frD free pl n j/\pl'=plD pl n j) (fun _ i _=>3 - (intOf i).toNat)
  case atStart=>refine⟨0,by omega,rfl,(d' bT).1,free,sh,pl,(d' bT).2,?_,rfl,(xk' pl n).symm⟩;rw[wO',(d' aU).2.2.1];exact {(d' cB)with bs:=fun _ _=>rfl}
  case round=>
   obtain⟨j,hj,rfl,aI,aJ,G,pl',cH,aV,cI,cJ⟩:=hrel;have bf:=m' (z12 cI cJ);clear bT cI cJ;by_cases ay:j < 3
   ·obtain⟨c1,aK,bg,bh,t1,t2⟩:=cH;have ao:=(d' aU).2.2.2.1 j ay;have aO:=(d' aU).2.2.2.2 j ay;have ap:=aV.kp j ay;have az:=aV.pn j ay;rw[ln']at ap az;have cK:ou' (G (j * 3)):=(by rw[ap];exact gn' _ _ _);have hcut:bA' (G (j * 3)) (X j)=n j:=(by rw[ap,aO];exact go' _ _ _ _ ao az);have bU:=fun y (aj:Below wr.heap.size wr y)=>mE' ((aK.below aj).shAt (i:=j * 3) (by omega)) cK (X j);simp only[hcut]at bU;have aL:∀y (aj:Below wr.heap.size wr y),Hid (Calls prog 200 #[.pointer (some ⟨p,4+j * 6,none⟩), .int .i64 (X j)] y fun e w'=>∃aq cap,e= .returned (.slice aq (n j) cap)/\Qi w' 158 2 (.slice aq (n j) cap) (n j) (eS' ((G (j * 3)).take (n j)))/\Vr y w' p (4+j * 3 * 2) 151 c1.arr (c1.nv (j * 3)) (c1.mv (j * 3)) ((G (j * 3)).drop (n j))):=(by intro y aj;have h:=bU y aj;rw[show 4+j * 3 * 2=4+j * 6 by omega]at h ⊢;refine m' (h.mono ?_);rintro e w' ⟨v,rfl,bV,hs⟩;have cL:=Qi.Qv (ak' bV (z54 _));obtain⟨aq,cap,rfl,_⟩:=cL.shape;exact⟨aq,cap,rfl,cL,hs⟩);have cM:wr.cell? ⟨w.heap.size,j,none⟩=some (.int .i64 (X j)):=(by rw[y' aI];exact(d' bM) j ay _ rfl);have ej:=z14 aI;have cN:=dc' aK aI (by decide) (by decide) (by decide) (by decide) (by decide) (by decide) (by decide);have cO:¬ (w.heap.size=p\/ShU (c1.nv (j * 3)) (c1.mv (j * 3)) w.heap.size):=fun h=>cN (h.elim (fun h=> .inl (.inl h)) (fun h=> .inl (.inr (.inr ⟨_,by omega,h⟩))));have ek:(0:Int)<=(j:Int):=(by omega);have em:(j:Int) < 3:=(by omega);have dt:=m' (z12 aK (z12 bg (z12 bh (z12 t1 t2))));have bW:=m' aV;have bX:=m' aI;have bu:=m' (z12 ao (z12 aO (z12 ap az)));obtain⟨F,bY⟩:=exq (n j);obtain⟨aP,bZ⟩:=exq (X j);rw[<-bY]at aL;rw[<-bZ]at aL cM;have bi:=m' (z12 bY bZ);clear bU cK hcut aK bg bh t1 t2 aV aI ao aO ap az cN bY bZ;go_upto_region 10 with fail;refine af'
     [Ep p 0,Ei j,Ep p 0,Ep p 4,Ep p (4+j * 6),Ep p (4+j * 6),Ei j,Ep w.heap.size j,Ei aP,
      fun v z=>∃aq cap,v= .slice aq F cap/\Qi z 158 2 (.slice aq F cap) F (eS' ((G (j * 3)).take F))/\Vr wr z p (4+j * 3 * 2) 151 c1.arr (c1.nv (j * 3)) (c1.mv (j * 3)) ((G (j * 3)).drop F),Ei F,Ei 0]
     [[0],[6],[1031],[3033],[4034,2032],[5035],[6],[3,7037],[8038],[6036,9039],[10040],[]] [32,33,34,35,36,37,38,39,40,41,42,43] [31,12,26]
     [(9,fun k=>k=p\/ShU (c1.nv (j * 3)) (c1.mv (j * 3)) k)] ?_ ?_ (hst:=by repeat' (first|exact V' _|exact(fun _ _ _ h hb=>h.imp fun _ h=>h.imp fun _ h=>⟨h.1,h.2.1.keep (fun g I=>hb.block g (h.2.1.lt g I)),oJ' h.2.2 hb⟩)|exact trivial|apply z12)) (hstF:=by repeat' (first|exact trivial|exact .inl rfl|exact .inr (.inr (bj' _ _))|exact .inr (.inl (by decide+kernel))|apply z12))
    ·refine⟨?_,?_,?_,?_,?_,?_,?_,?_,?_,?_,?_,?_,trivial⟩;all_goals
      intro a' z hb Y;have ba:z.cell? ⟨w.heap.size,j,none⟩=some (.int .i64 aP):=by have:=hb.blk (d' bX) (ay' (by exact cO));rw[y' this,<-y' (d' bX)];exact cM
      simp[I']at Y
     iterate 9
      ·clear hb aL;go_simp;exact⟨_,rfl,Far.refl _ _,rfl⟩
     ·have ah:Below wr.heap.size wr z:=es' hb;have bR:=m' (d' (aL z ah));have ax:=m' ah;clear hb ah aL;go_simp;refine(d' bR).mono ?_;rintro r dr ⟨aq,cap,rfl,k1,k2⟩;exact⟨_,rfl,an' (.head _) k2.far,aq,cap,rfl,k1,⟨k2.out,(C' (d' ax)).trans k2.far (fun _ _ h=>h)⟩⟩
     ·obtain⟨aq,cap,en,_⟩:=Y;clear hb aL;go_simp;exact⟨_,rfl,Far.refl _ _,rfl⟩
     ·clear hb aL;go_simp;exact⟨_,rfl,Far.refl _ _,rfl⟩
    ·intro f2 eo ai J;obtain⟨du,dv,cP,ca,cb⟩:=J.2.2.2.2.2.2.2.2.2.1;have cQ:=J.2.2.2.2.2.2.2.2.2.2.1;have cR:=J.2.2.2.2.2.2.2.2.2.2.2.1;clear J ai aL;simp only[O',cP,cQ,cR];obtain⟨aK,bg,bh,t1,t2⟩:=d' dt;have cS:=cb.far.blk (d' bX) cO;have cc:=eA' bg bh t1 t2 (cS' aK (i:=j * 3) (by omega) (cb.step (aK.ks.am (j * 3) (by omega))));obtain⟨bj,aW⟩:=exq (fun t=>if t=j * 3 then(G (j * 3)).drop F else G t);rw[<-aW]at cc;obtain⟨cd,bw⟩:=exq (eS' ((G (j * 3)).take F));rw[<-bw]at ca;have cT:∀t,t < F->∃ce:z10,cd[t * 2]? =some (.string ce)/\cd[t * 2+1]? =some (.int .i64 ((pl' j).getD t 0:Nat)):=by
      intro t cf;obtain⟨ao,aO,ap,az⟩:=d' bu;rw[<-(d' bi).1]at ao;rw[bw,ap,lp'];have:=lo' (a.fl j).base ((a.fl j).kept.take F) ((pl' j).take F) t (by simp[az]) (by simp;omega);have I:((pl' j).take F).getD t 0=(pl' j).getD t 0:=by rw[z17,z17,z69,if_pos cf]
      rw[I]at this;exact⟨_,this.1,this.2⟩
     have cU:∀t,t < F->(pl' j).take (t+1)=(pl' j).take t++[(pl' j).getD t 0]:=by
      intro t cf;obtain⟨ao,aO,ap,az⟩:=d' bu;rw[<-(d' bi).1]at ao;have bk:t < (pl' j).length:=by omega
      rw[sC',z18 bk,z17,z18 bk];rfl
     have eq:F<=24:=(by have h1:=(d' cB).small ay;have h2:=(d' bu).1;rw[<-(d' bi).1]at h2;omega);have cV:=m' (z12 cS (z12 ca cc));have cW:=m' (z12 cT cU);have cg:=m' (z12 aW bw);clear aK bg bh t1 t2 cS cc aW bw cT cU ca cb cQ cR cP;go_wp2;go_loopw[8,42] (fun _ i wr2=>∃t:Nat,t<=F/\i= .int .i64 t/\wr2.heap[w.heap.size]? =some (.cells #[.int .i64 aD, .int .i64 aE, .int .i64 aF] 136 (0,0))/\Qi wr2 158 2 (.slice du F dv) F cd/\Ja w wr2 p X a.Qf a.Qd a.fenced (aJ++(pl' j).take t) bj aB c) (fun _ i _=>F - (intOf i).toNat)
     case atStart=>obtain⟨ch,bz,dw⟩:=d' cV;exact⟨0,by omega,rfl,ch,bz,by simpa using dw⟩
     case round=>
      obtain⟨t,cf,rfl,au,aa,cX⟩:=hrel;clear cV;by_cases bk:t < F
      ·obtain⟨er,es,ci,_,_,cY⟩:=aa.shape;injection ci with ci _ dx;subst ci dx;obtain⟨et,cZ,rfl,cj⟩:=cY (by omega);obtain⟨ce,da,db⟩:=(d' cW).1 t bk;have r0:=(cj (t * 2) (by omega)).trans da;have ck:=(cj (t * 2+1) (by omega)).trans db;rw[show cZ+(t * 2+1)=cZ+t * 2+1 by omega]at ck;obtain⟨M,cl⟩:=exq ((pl' j).getD t 0);rw[<-cl]at ck;have dy:=m' cl;obtain⟨c2,H,ab,ac,s1,ad⟩:=cX;have eu:(0:Int)<=(t:Int):=(by omega);have dc:(t:Int) < (F:Int):=(by omega);have cm:=m' (z12 H (z12 ab (z12 ac (z12 s1 ad))));have dz:=m' (z12 au aa);clear H ab ac s1 ad cY cj da db cl au aa;go_upto_region 13 with fail;obtain⟨bA,cn⟩:=exq (wr.heap.size);have dd:=m' cn;rw[<-cn];clear cn;refine G' (fun y=>y.heap[bA]? =some (.cells #[.string ce, .int .i64 M] 158 (0,0))/\Below wr.heap.size wr y) ?_ ?_
       ·rw[d' dd];exact⟨z19 _ _,(z11 _ _).alloc (z13 _) _⟩
       clear r0 ck;rintro aQ ⟨bB,aR⟩;obtain⟨H,ab,ac,s1,ad⟩:=d' cm;have O:=H.below aR;obtain⟨Q,bC⟩:=exq (aJ++(pl' j).take t);rw[<-bC]at O;obtain⟨aA,bD⟩:=exq (Q.length);obtain⟨aX,aY,aZ,_⟩:=O.ks.fr.shape;have aa:=O.ks.fr;rw[<-bD]at aZ aa;have ev:aA<=24+24:=by have h1:=(d' bW).sum;rw[bD,bC,z35,z71];omega
       have d22:aQ.cell? ⟨p,22,none⟩=some c2.fv:=(by rw[y' O.ks.blk,O.ks.af]);have dA:aQ.cell? ⟨p,22,none⟩=some (.slice aX aA aY):=(by rw[d22,aZ]);have bE:=O.ks.fr.ne O.ks.blk (by decide);have dB:=O.ks.fr.ne bB (by decide);have ew:=z14 O.ks.blk;have ey:=z14 bB;have dC:¬bA=p:=(by have:=z14 H.ks.blk;have:=d' dd;omega);have dD:=fun g I=>O.ks.fr.lt g I;have bl:=m' O;have dE:=m' aR;have dF:=m' bB;have dG:=m' aa;have de:=m' (z12 bC bD);have dH:=m' (z12 H (z12 ab (z12 ac (z12 s1 ad))));clear H ab ac s1 ad O aR bB aa bC bD d22 dA;refine af'
        [Ep p 0,Ep p 0,Ep p 0,Ep p 22,Ev (.slice aX aA aY),Ep bA 1,Ei M,zL' aQ.heap.size M,zM' aQ c2.fv (Q++[M]),Ep p 0,Ep p 22,
         fun _ z=>Ja aQ z p X a.Qf a.Qd a.fenced (Q++[M]) bj aB c2]
        [[0],[0],[2047],[3048],[4049],[8],[6051],[7052],[5050,8053],[1046],[10055],[11056,9054]] [47,48,49,50,51,52,53,54,55,56,57,0] [46,11,12]
        [(8,fun k=>c2.fv.ownBlock=some k),(11,fun k=>k=p)] ?_ ?_ (hst:=by repeat' (first|exact V' _|exact qD' _ _|exact qE' _ _ _|exact(fun _ _ _ h hb=>h.below hb)|exact trivial|apply z12)) (hstF:=by repeat' (first|exact trivial|exact .inl rfl|exact .inr (.inr (bj' _ _))|exact .inr (.inr (ii' (fun g I=>dD g I)))|exact .inr (.inr (ii' (fun g (I:g=p)=>by omega)))|exact .inr (.inr (oI' (fun g (I:g=p)=>⟨by omega,by rw[I];exact bE⟩)))|exact .inr (.inl (show bJ' _ 11 8=true by decide+kernel))|apply z12))
       ·refine⟨?_,?_,?_,?_,?_,?_,?_,?_,?_,?_,?_,?_,trivial⟩;all_goals
         intro a' z hb Y;have bt:=hb.size;have ax:=m' hb;clear hb;simp[I']at Y
        iterate 4
         ·go_simp;exact⟨_,rfl,Far.refl _ _,rfl⟩
        ·have d0:=(d' ax).blk (d' bl).ks.blk (by
          rintro⟨q,V,g1,g2,av⟩;simp at V;rcases V with rfl|rfl
          ·exact bE av
          ·exact absurd (show bJ' _ 11 4=false from g2) (by decide+kernel))
         have d1:z.cell? ⟨p,22,none⟩=some (.slice aX aA aY):=(by rw[y' d0,(d' bl).ks.af,aZ]);clear d0;go_simp;exact⟨_,rfl,Far.refl _ _,rfl⟩
        ·go_simp;exact⟨_,rfl,Far.refl _ _,rfl⟩
        ·have d0:=(d' ax).blk (d' dF) (by
          rintro⟨q,V,g1,g2,av⟩;simp at V;rcases V with rfl|rfl
          ·exact dB av
          ·exact dC av)
         have d1:z.cell? ⟨bA,1,none⟩=some (.int .i64 M):=y' (i:=1) d0;clear d0;go_simp;exact⟨_,rfl,Far.refl _ _,rfl⟩
        ·go_simp;exact⟨_,rfl,C' ((z11 _ _).alloc (z13 _) _),_,rfl,bt,z19 z _⟩
        ·have dI:=(d' dG).far (d' ax) (by
          rintro g I ⟨q,V,g1,g2,av⟩;simp at V;rcases V with rfl|rfl
          ·exact g1 rfl
          ·have av:g=p:=av;exact bE (by rw[I,av]))
         obtain⟨g,I,ez,dJ⟩:=Y.2;have dK:Qi z 3 1 (.slice aX aA aY) aA (J' Q):=(by rw[<-aZ];exact dI);refine cK' rfl (.tmp 50) (.tmp 53) 26 rfl 3 _ 1 8 underlying26 wC' rfl (.slice aX aA aY) aA (J' Q) dK (by simp[Act.eval,Y]) ⟨g,0,none⟩ 1 1 [.int .i64 M] (by simp[Act.eval,I]) rfl ?_ (by intro u hu;simp at hu;subst hu;rfl) (by omega) (by omega) (by omega) ?_
         ·intro k u hk;rw[dG',y' dJ,z44];simpa using hk
         ·intro v' w' g1 g2;obtain⟨_,bz⟩:=d' de;have dL:Qi w' 3 1 v' (Q++[M]).length (J' (Q++[M])):=by rw[z35,z90,<-bz,show J' (Q++[M])=J' Q++[.int .i64 M] by simp[J']];exact g1
          have cp:=g2.grown;rw[<-aZ]at cp g2;exact⟨v',rfl,an' (.head _) (ba' cp),dL,dy' bt g2,z26 bt cp.size⟩
        ·go_simp;exact⟨_,rfl,Far.refl _ _,rfl⟩
        ·go_simp;exact⟨_,rfl,Far.refl _ _,rfl⟩
        ·have ai:Far (fun k=>c2.fv.ownBlock=some k) aQ z:=(d' ax).mono (by
          rintro k _ ⟨q,V,g1,g2,av⟩;simp at V;rcases V with rfl|rfl
          ·exact av
          ·exact absurd rfl g1)
         have d0:=ai.blk (d' bl).ks.blk bE;have f1:z.frozen? ⟨p,22,none⟩=false:=H' (i:=22) d0;have d1:z.cell? ⟨p,22,none⟩=some (.slice aX aA aY):=(by rw[y' d0,(d' bl).ks.af,aZ]);obtain⟨eA,cq⟩:=Y;obtain⟨dM,dN,dO,_⟩:=cq.1.shape;have df:=m' cq;have cr:=m' ai;clear cq d0 ai;rw[dO]at df;go_simp;refine⟨an' (.tail _ (.head _)) (Q' z p 22 _),?_⟩;obtain⟨dP,dg,_⟩:=d' df;have dh:(Q++[M]).length=Q.length+1:=(by simp);rw[dh]at dg;have dQ:Qi z 3 1 (.slice dM (Q.length+1) dN) (Q++[M]).length (J' (Q++[M])):=(by rw[<-dh];exact dP);exact jI' (d' bl) _ (d' cr) dQ dg
       ·intro f3 z3 di J;have dj:=J.2.2.2.2.2.2.2.2.2.2.2.1;have ai:Far (fun k=>c2.fv.ownBlock=some k\/k=p) aQ z3:=di.mono (fun k _ h=>by
         obtain⟨q,V,h⟩:=h;simp at V;rcases V with rfl|rfl
         ·exact .inl h
         ·exact .inr h)
        have dR:=m' dj;have cr:=m' ai;clear dj J di ai;simp only[O'];go_wp2;obtain⟨au,aa⟩:=d' dz;obtain⟨H,ab,ac,s1,ad⟩:=d' dH;have aR:=d' dE;have ai:=d' cr;obtain⟨ch,bz⟩:=d' de;have dS:¬ (c2.fv.ownBlock=some w.heap.size\/w.heap.size=p):=by
         rintro(h|h)
         ·exact(H.ks.fr.ne au (by decide)) h
         ·exact absurd h (by omega)
        refine⟨⟨t+1,by omega,by go_num,?_,?_,?_⟩,by simp[intOf];omega⟩
        ·exact ai.blk ((aR.block _ (z14 au)).trans au) dS
        ·refine(aa.far (C' (E:=fun _=>False) aR) (fun _ _ h=>h)).far ai (fun g I h=>?_);rcases h with h|h
         ·exact(aa.ty H.ks.fr (by decide) I) h
         ·exact(aa.ne H.ks.blk (by decide)) (by rw[I,h])
        ·rw[(d' cW).2 t bk,<-z38,<-ch,<-d' dy];exact eA' ab ac s1 ad ((d' dR).behind aR)
      ·have dc:F=t:=(by omega);subst dc;obtain⟨c2,H,ab,ac,s1,ad⟩:=cX;have aW:=(d' cg).1;have dl:lk' (bj (j * 3+1)):=(by rw[aW];show lk' (if j * 3+1=j * 3 then _ else G (j * 3+1));rw[if_neg (by omega)];exact(d' bW).si j ay);have bF:=fun y (aj:Below wr.heap.size wr y)=>m' (mJ' ((H.below aj).shAt (i:=j * 3+1) (by omega)) dl aP);rw[show 4+(j * 3+1) * 2=4+j * 6+2 by omega]at bF;have dT:wr.cell? ⟨w.heap.size,j,none⟩=some (.int .i64 aP):=(by rw[y' au,(d' bi).2];exact(d' bM) j ay _ rfl);have dm:=z14 au;have cm:=m' (z12 H (z12 ab (z12 ac (z12 s1 ad))));have dn:=m' au;clear H ab ac s1 ad au aW dl aa;go_upto_region 15 with fail;refine ab'
        [Ep p 0,Ei j,Ep p 0,Ep p 4,Ep p (4+j * 6),Ep p (4+j * 6+2),Ei j,Ep w.heap.size j,Ei aP,Et]
        [[0],[6],[1058],[3060],[4061,2059],[5062],[6],[3,7064],[8065],[6063,9066]] [59,60,61,62,63,64,65,66,67,68] [58,10,1]
        9 _ rfl rfl ?_ ?_
       ·refine⟨?_,?_,?_,?_,?_,?_,?_,?_,?_,trivial⟩;all_goals
         intro a' z hb Y;have ba:=(hb.cell (p:=⟨w.heap.size,j,none⟩) dm).trans dT;clear hb bF;simp[I']at Y;go_simp;try exact⟨_,rfl,z11 _ _,rfl⟩
         try exact z11 _ _
       ·intro f4 dq aS J;simp only[ag',List.take]at J;have dU:=J.2.2.2.2.2.1;have dV:=J.2.2.2.2.2.2.2.2.1;clear J;have dW:=m' (d' (bF dq aS));have dX:=m' aS;clear aS bF;simp only[O',dU,dV];go_simp;refine(d' dW).mono ?_;rintro r u ⟨v,rfl,bV,bm⟩;have dY:=m' bm;clear bV bm;go_wp2;obtain⟨H,ab,ac,s1,ad⟩:=d' cm;have aS:=d' dX;have O:=H.below aS;have bm:=d' dY;have dZ:Vr dq u p (4+(j * 3+1) * 2) 151 c2.arr (c2.nv (j * 3+1)) (c2.mv (j * 3+1)) ((bj (j * 3+1)).drop (bA' (bj (j * 3+1)) aP)):=by rw[show 4+(j * 3+1) * 2=4+j * 6+2 by omega];exact bm
        have be:=eA' ab ac s1 ad ((cS' O (i:=j * 3+1) (by omega) (dZ.step (H.ks.am (j * 3+1) (by omega)))).behind aS);have ea:=dc' H (d' dn) (by decide) (by decide) (by decide) (by decide) (by decide) (by decide) (by decide);obtain⟨ao,aO,ap,az⟩:=d' bu;obtain⟨aC,aT⟩:=d' bi;have eb:((G (j * 3+1)).map (·.1)).Pairwise (· < ·):=(by have:=(H.ks.shs (j * 3+1) (by omega)).sorted;rw[(d' cg).1]at this;have e:(fun t=>if t=j * 3 then(G (j * 3)).drop F else G t) (j * 3+1)=G (j * 3+1):=if_neg (by omega);rw[e]at this;exact this);have cs:=sT' (d' bW) ay (n:=n j) (by rw[ln'];exact ao) eb;rw[<-wP']at cs;refine⟨⟨j+1,by omega,by go_num,?_,aJ++(pl' j).take F,_,(fun t=>if t=j then(pl' j).drop F else pl' t),be,?_,?_,?_⟩,by simp[intOf];omega⟩
        ·refine bm.far.blk ((aS.block _ dm).trans (d' dn)) (fun h=>ea ?_);rcases h with h|h
         ·exact .inl (.inl h)
         ·exact .inl (.inr (.inr ⟨_,by omega,h⟩))
        ·have hcut:bA' (G (j * 3)) ((a.fl j).base+n j)=n j:=(by rw[ap];exact go' _ _ _ _ ao az);rw[ln',hcut,<-aC,<-show aP=(a.fl j).base+F by rw[aT,aC];exact aO]at cs;rw[(d' cg).1];have e:(fun t=>if t=j * 3 then(G (j * 3)).drop F else G t) (j * 3+1)=G (j * 3+1):=if_neg (by omega);rw[e];exact {cs with bs:=fun _ _=>rfl}
        ·rw[(d' bf).1,(d' bf).2,aC];exact(xl' free pl n j).symm
        ·rw[(d' bf).2,aC];exact(xm' pl n j).symm
   ·obtain rfl:j=3:=(by omega);go_wp2;go_ret;refine⟨rfl,X,aJ,G,pl',aB,cH,by rw[(d' bf).1,(d' bf).2];exact(d' aU).1,?_⟩;rw[uW']at aV;exact {aV with bs:=fun i hi=>(d' aU).2.2.2.2 i hi |>.trans (by simp[Mq.Ag.drop,Mq.Xy,hi,Mq.Jl.drop])}
theorem lK' (z:Je w p g a.Qf a.Qd a.fenced free sh st c) (hs:Vq op st a free pl) (J:∀i,i < 3->(a.fl i).base+(a.fl i).kept.length<=2147483647) (F:Js a st.Qe g free sh pl) (n X:Nat->Nat) (hn:∀i,i < 3->n i<=(a.fl i).kept.length) (G:∀i,i < 3->X i=(a.fl i).base+n i) (M:∀i,i < 3->X i < 4294967296):
  Calls prog 152 #[D' p, .agg #[.int .i64 (X 0), .int .i64 (X 1), .int .i64 (X 2)]] w fun r H=>r= .returned (.int .i64 0)/\Zp op w H p (a.drop n) c:=by
 by_cases h:X 0=g 0/\X 1=g 1/\X 2=g 2
 ·have I:∀i,i < 3->X i=g i:=by
   intro i hi;obtain rfl|rfl|rfl:i=0\/i=1\/i=2:=by omega
   ·exact h.1
   ·exact h.2.1
   ·exact h.2.2
  have O:a.drop n=a:=uX' (fun i hi=>by have:=I i hi;have:=G i hi;have:=F.bs i hi;omega);rw[O];refine(sV' z X I).mono ?_;rintro r H ⟨rfl,hb⟩;exact⟨rfl,(eq' z hs F).below hb⟩
 ·exact rv' z hs J F n X hn G M h
theorem lL' (J:Je w p g a.Qf a.Qd a.fenced free sh st c) (hs:Vq op st a free pl) (Q:Js a st.Qe g free sh pl) (e:Nat) (s q:Int) (b:z10):
  Calls prog 106 #[D' p, .agg #[.int .i64 5, .int .i64 e, .int .i64 s, .int .i64 q, .string b]] w fun r V=>r= .returned (.int .i64 0)/\Zp op w V p (a.Qx 5 e s q b) c:=by
 have ak:=z14 J.ks.blk;have Y:=fun V (ah:Below w.heap.size w V)=>m' (bW' (J.below ah));obtain⟨ep,Z⟩:=exq (a.Qa);have ab:st.Qe=ep:=by rw[Z];exact Q.ep
 rw[ab]at Y;have hd:a.Qx 5 e s q b=if ep < e then {a with fenced:=true}else if e=ep then {a with Qd:=false}else a:=by
  unfold Mq.Ag.Qx;rw[<-Z];by_cases h1:ep < e
  ·rw[if_pos ⟨rfl,by omega⟩,if_pos h1]
  ·rw[if_neg (by omega),if_neg h1];by_cases h2:e=ep
   ·rw[if_neg (by omega),if_pos rfl,if_pos h2]
   ·rw[if_pos (by omega),if_neg h2]
 obtain⟨a2,ac⟩:=exq (a.Qx 5 e s q b);rw[<-ac]at hd ⊢;have ad:=m' (dY' w #[.int .i64 5, .int .i64 e, .int .i64 s, .int .i64 q, .string b]);have z:=m' (z12 J (z12 hs Q));have aa:=m' hd;clear J hs Q ab Z ac hd;unfold D' at *;go_enter func106,ntmps106;go_upto_region 1 with fail;refine G' (Xv w #[.int .i64 5, .int .i64 e, .int .i64 s, .int .i64 q, .string b]) (d' ad) ?_;clear ad;intro x X;have M:=y' (i:=1) X.box;simp at M;have G:=fun n=>m' (d' (Y (x.drewN n) (X.drewN n).bel));have O:=m' X;clear X;have K:=(d' z).1.below (d' O).bel;have d25:∀n,(x.drewN n).cell? ⟨p,25,none⟩=some (.bool a.fenced):=fun n=>by show x.cell? _= _;rw[y' K.ks.blk,K.ks.ae]
 have f25:∀n,(x.drewN n).frozen? ⟨p,25,none⟩=false:=fun n=>H' (w:=x) (i:=25) K.ks.blk;have H:=m' (z12 d25 f25);have I:∀n,Below w.heap.size w (x.drewN n):=fun n=>((d' O).drewN n).bel;have F:=m' I;clear K d25 f25 I;by_cases h1:ep < e
 ·have ai:(ep:Int) < (e:Int):=by omega
  go_quiet (first|(go_at_call 66;exact z57 (d' (G _))))
  have d:=(d' H).1 nq;have f:=(d' H).2 nq;go_wp2;go_ret;refine⟨rfl,?_⟩;rw[d' aa,if_pos h1];exact⟨g,free,sh,pl,st,(sW' ((d' z).1.below ((d' F) nq)) true).behind ((d' F) nq),(d' z).2.1.flags _ _ _,(d' z).2.2.flags a.Qf a.Qd true⟩
 ·have ai:¬ (ep:Int) < (e:Int):=by omega
  go_quiet (first|(go_at_call 66;exact z57 (d' (G _))))
  go_upto_region 3 with fail
  refine G' (Xv w #[.int .i64 5, .int .i64 e, .int .i64 s, .int .i64 q, .string b]) ((d' O).drewN _) ?_;clear O M G H F;intro x X;have M:=y' (i:=1) X.box;simp at M;have G:=fun n=>m' (d' (Y (x.drewN n) (X.drewN n).bel));have K:=(d' z).1.below X.bel;have d24:∀n,(x.drewN n).cell? ⟨p,24,none⟩=some (.bool a.Qd):=fun n=>by show x.cell? _= _;rw[y' K.ks.blk,K.ks.aw]
  have f24:∀n,(x.drewN n).frozen? ⟨p,24,none⟩=false:=fun n=>H' (w:=x) (i:=24) K.ks.blk;have I:∀n,Below w.heap.size w (x.drewN n):=fun n=>(X.drewN n).bel;have F:=m' I;have H:=m' (z12 d24 f24);clear K d24 f24 X I;by_cases h2:e=ep
  ·have aj:((e:Int) == (ep:Int))=true:=(by simp[h2]);go_quiet (first|(go_at_call 66;exact z57 (d' (G _))));have d:=(d' H).1 nq;have f:=(d' H).2 nq;go_wp2;go_ret;refine⟨rfl,?_⟩;rw[d' aa,if_neg h1,if_pos h2];exact⟨g,free,sh,pl,st,(lt' ((d' z).1.below ((d' F) nq)) false).behind ((d' F) nq),(d' z).2.1.flags _ _ _,(d' z).2.2.flags a.Qf false a.fenced⟩
  ·have aj:((e:Int) == (ep:Int))=false:=(by simp;omega);go_quiet (first|(go_at_call 66;exact z57 (d' (G _))));go_wp2;go_ret;refine⟨rfl,?_⟩;rw[d' aa,if_neg h1,if_neg h2];exact(eq' (d' z).1 (d' z).2.1 (d' z).2.2).below ((d' F) nq)
end
theorem tl' (f:Nat->Mq.Jl) (i:Nat):(Mq.fresh f 3 i).base=(f i).base/\(Mq.fresh f 3 i).kept.map (·.1)=(f i).kept.map (·.1):=by
 unfold Mq.fresh;split
 ·exact⟨rfl,by simp⟩
 ·exact⟨rfl,rfl⟩
theorem Ql (f:Nat->Mq.Jl) (s:Nat) (x:List Nat) (i:Nat):(Mq.upd f s {f s with held:=x} i).base=(f i).base/\(Mq.upd f s {f s with held:=x} i).kept.map (·.1)=(f i).kept.map (·.1):=by
 unfold Mq.upd;split
 ·rename_i h;rw[h];exact⟨rfl,rfl⟩
 ·exact⟨rfl,rfl⟩
section
variable {w:World} {p:Nat} {g:Nat->Nat} {free:List Nat} {sh:Nat->List (Nat×Value)} {st:Mq.Stv} {c:Av} {a:Mq.Ag} {pl:Nat->List Nat} {op:Nat}
theorem jb' (O:Je w p g a.Qf a.Qd a.fenced free sh st c) (hs:Vq op st a free pl) (Y:Js a st.Qe g free sh pl) (e:Nat) (s q:Int) (b:z10) (bV:e=a.Qa) (bf:b.size=12) (aP:∀i,i < 3->(a.fl i).base+(a.fl i).kept.length<=1000000000):
  Calls prog 104 #[D' p, .agg #[.int .i64 2, .int .i64 e, .int .i64 s, .int .i64 q, .string b]] w fun r z=>r= .returned (.int .i64 0)/\Zp op w z p (a.Qx 2 e s q b) c:=by
 have aQ:=z14 O.ks.blk;have bg:=fun z (M:Below w.heap.size w z)=>m' (bW' (O.below M));obtain⟨n,hn⟩:=exq (a.Xr 2 e s q b);have hd:a.Qx 2 e s q b={a.drop n with Qd:=true,fl:=Mq.fresh (a.drop n).fl 3}:=by unfold Mq.Ag.Qx;rw[if_neg (by omega),if_neg (by omega),if_neg (by omega),if_pos rfl,hn]
 have aR:∀i,i < 3->n i<=(a.fl i).kept.length:=fun i _=>by rw[hn];exact fa' _ _ _ _ _ _ _
 have bh:∀i,n i=min (Qb.Qg b.data.toList (4 * i) - (a.fl i).base).toNat (a.fl i).kept.length:=fun i=>by rw[hn];unfold Mq.Ag.Xr;rw[if_neg (by omega),if_pos rfl];rfl
 obtain⟨X,aC⟩:=exq (fun i=>(a.fl i).base+n i:Nat->Nat);have aD:∀i,max ((a.fl i).base:Int) (min (Qb.Qg b.data.toList (4 * i)) (((a.fl i).base+(a.fl i).kept.length:Nat):Int))=(X i:Int):=fun i=>by rw[yn',aC];show _=(((a.fl i).base+n i:Nat):Int);rw[bh i]
 have bi:=fun z (M:Below w.heap.size w z)=>lK' (O.below M) hs (fun i hi=>by have:=aP i hi;omega) Y n X aR (fun i _=>by rw[aC]) (fun i hi=>by have:=aP i hi;have:=aR i hi;rw[aC];show(a.fl i).base+n i < _;omega);have bj:=fun z=>gu' b z bf;have aE:=fun i (hi:i < 3) z (M:Below w.heap.size w z)=>gR' (O.below M) Y hi (Y.bs i hi);have aS:w.cell? ⟨p,1,none⟩=some (.int .i64 (a.fl 0).base):=by rw[y' O.ks.blk,<-Y.bs 0 (by omega)];exact O.ks.ag 0 (by omega)
 have aT:w.cell? ⟨p,2,none⟩=some (.int .i64 (a.fl 1).base):=by rw[y' O.ks.blk,<-Y.bs 1 (by omega)];exact O.ks.ag 1 (by omega)
 have aU:w.cell? ⟨p,3,none⟩=some (.int .i64 (a.fl 2).base):=by rw[y' O.ks.blk,<-Y.bs 2 (by omega)];exact O.ks.ag 2 (by omega)
 have aF:=fun z M=>m' (aE 0 (by omega) z M);have aG:=fun z M=>m' (aE 1 (by omega) z M);have aH:=fun z M=>m' (aE 2 (by omega) z M);have ab:=aD 0;have ac:=aD 1;have ad:=aD 2;simp only[Nat.mul_zero,Nat.mul_one,show 4 * 2=8 from rfl]at ab ac ad;have bW:=fun z=>m' (bj z);generalize Qb.Qg b.data.toList 0=n0 at *;generalize Qb.Qg b.data.toList 4=n1 at *;generalize Qb.Qg b.data.toList 8=n2 at *;have aI:=fun z M=>m' (bi z M);obtain⟨aV,aW⟩:=exq (X 0);obtain⟨aX,aY⟩:=exq (X 1);obtain⟨aZ,ba⟩:=exq (X 2);rw[<-aW]at ab;rw[<-aY]at ac;rw[<-ba]at ad;rw[<-aW,<-aY,<-ba]at aI;obtain⟨bk,bl⟩:=exq ((a.fl 0).base+(a.fl 0).kept.length);obtain⟨bm,bn⟩:=exq ((a.fl 1).base+(a.fl 1).kept.length);obtain⟨b2,bo⟩:=exq ((a.fl 2).base+(a.fl 2).kept.length);rw[<-bl]at ab aF;rw[<-bn]at ac aG;rw[<-bo]at ad aH;obtain⟨g0,bp⟩:=exq ((a.fl 0).base);obtain⟨g1,bq⟩:=exq ((a.fl 1).base);obtain⟨g2,br⟩:=exq ((a.fl 2).base);rw[<-bp]at ab aS;rw[<-bq]at ac aT;rw[<-br]at ad aU;simp only[show((0:Nat):Int)=0 from rfl,show((1:Nat):Int)=1 from rfl,show((2:Nat):Int)=2 from rfl]at aF aG aH;obtain⟨ep,bt⟩:=exq (a.Qa);have bu:st.Qe=ep:=by rw[bt];exact Y.ep
 rw[bu]at bg;have cg:((e:Int) != (ep:Int))=false:=by simp;omega
 obtain⟨a2,bw⟩:=exq (a.Qx 2 e s q b);rw[<-bw]at hd ⊢;obtain⟨a1,bz⟩:=exq (a.drop n);rw[<-bz]at hd aI;have bX:=m' hd;have bA:=m' (dY' w #[.int .i64 2, .int .i64 e, .int .i64 s, .int .i64 q, .string b]);have i0:∀w:World,(Instr.index 98 (.agg #[.int .i64 n0, .int .i64 n1, .int .i64 n2]) (.int .i64 0)).run prog w= .ok (.int .i64 n0) w:=fun _=>by kernel_rfl
 have bY:∀w:World,(Instr.index 98 (.agg #[.int .i64 n0, .int .i64 n1, .int .i64 n2]) (.int .i64 1)).run prog w= .ok (.int .i64 n1) w:=fun _=>by kernel_rfl
 have bZ:∀w:World,(Instr.index 98 (.agg #[.int .i64 n0, .int .i64 n1, .int .i64 n2]) (.int .i64 2)).run prog w= .ok (.int .i64 n2) w:=fun _=>by kernel_rfl
 clear O Y hs hn hd aR bh aC aD bi bj aE aW aY ba bl bn bo bp bq br bu bt bw bz bV bf aP;unfold D' at *;go_enter func104,ntmps104;go_upto_region 1 with fail;refine G' (Xv w #[.int .i64 2, .int .i64 e, .int .i64 s, .int .i64 q, .string b]) (d' bA) ?_;clear bA;intro x G;have bB:=y' (i:=1) G.box;simp at bB;have bC:=fun n=>m' (d' (bg (x.drewN n) (G.drewN n).bel));have aa:=m' G;clear G;go_quiet (first|(go_at_call 66;exact z57 (d' (bC _))));go_upto_region 3 with fail;refine G' (Xv w #[.int .i64 2, .int .i64 e, .int .i64 s, .int .i64 q, .string b]) ((d' aa).drewN _) ?_;clear aa bB bC;intro x G;have ah:=y' (i:=4) G.box;simp at ah;have d0:=(G.bel.cell (p:=⟨p,1,none⟩) aQ).trans aS;have d1:=(G.bel.cell (p:=⟨p,2,none⟩) aQ).trans aT;have d2:=(G.bel.cell (p:=⟨p,3,none⟩) aQ).trans aU;have ca:=G.lt;have aa:=m' G;clear G aS aT aU;go_upto_region 4 with fail;obtain⟨F,bb⟩:=exq (x.heap.size);have bD:=m' bb;have bc:w.heap.size<=F:=by have:=(d' aa).bel.size;omega
 rw[<-bb];have ch:¬w.heap.size=F:=by omega
 clear bb;refine G' (fun y=>y.heap[F]? =some (.cells #[.int .i64 g0, .int .i64 g1, .int .i64 g2] 136 (0,0))/\Xv w #[.int .i64 2, .int .i64 e, .int .i64 s, .int .i64 q, .string b] y) ?_ ?_
 ·rw[d' bD];exact⟨z19 _ _,(d' aa).below ((z11 _ _).alloc (z13 _) _)⟩
 clear aa bD ah d0 d1 d2 ca;rintro y ⟨h5,G⟩;have ah:=y' (i:=4) G.box;simp at ah;have ai:=m' (z12 h5 G);clear h5 G;go_upto_region 5 with (go_at_call 151;refine(d' (bW _)).mono ?_;rintro r z ⟨rfl,hb⟩);have bE:=(hb.block _ (z14 (d' ai).1)).trans (d' ai).1;have bF:=(d' ai).2.bel.trans (hb.mono (d' ai).2.bel.size);have bG:=m' (z12 bE bF);clear hb bE bF ai ah;go_loopw[6,7,22] (fun _ _ i wr=>∃j:Nat,j<=3/\i= .int .i64 j/\wr.heap[F]? =some (.cells #[.int .i64 (if 0 < j then aV else g0:Nat), .int .i64 (if 1 < j then aX else g1:Nat), .int .i64 (if 2 < j then aZ else g2:Nat)] 136 (0,0))/\Below w.heap.size w wr) (fun _ _ i _=>3 - (intOf i).toNat)
 case atStart=>obtain⟨h1,h2⟩:=d' bG;exact⟨0,by omega,rfl,by simpa using h1,h2⟩
 case round=>
  obtain⟨j,hj,rfl,h5,bH⟩:=hrel;clear bG;obtain⟨aj,ak,ao⟩:=cC' h5;have V:=z14 h5;have aJ:=m' h5;have H:=m' bH;clear h5 bH;rcases(show j=0\/j=1\/j=2\/j=3 by omega)with rfl|rfl|rfl|rfl
  ·simp at aj;go_wp2_with fail;refine ab'
    [Ei 0,Ei 0,Ep F 0,Ei g0,Ei n0,Ep p 0,Ei 0,Ei bk,Ei (min n0 (bk:Int)),Ei aV,Ep F 0,Et]
    [[6],[6],[5,2027],[3028],[7],[0],[6],[6031,7032],[5030,8033],[4029,9034],[5,1026],[11036,10035]] [27,28,29,30,31,32,33,34,35,36,37,0] [26,11,28]
    11 _ rfl rfl ?_ ?_
   ·refine⟨?_,?_,?_,?_,?_,?_,?_,?_,?_,?_,?_,trivial⟩;all_goals
     intro a' z hb ap;have d0:=(hb.cell (p:=⟨F,0,none⟩) V).trans aj;have Z:=m' (d' (aF z ((d' H).trans (hb.mono (d' H).size))));clear hb;simp[I']at ap;go_simp;try exact⟨_,rfl,z11 _ _,rfl⟩
     try exact z11 _ _
    all_goals first
     |(refine(d' Z).mono ?_;rintro r aq ⟨rfl,q,rfl⟩;exact⟨rfl,z41 (z11 _ _) q⟩)
     |(refine(d' Z).mono ?_;rintro r aq ⟨rfl,q,rfl⟩;exact⟨_,rfl,z41 (z11 _ _) q,rfl⟩)
     |skip
   ·intro f z I J;simp only[ag',List.take]at J;have au:=J.2.2.2.2.2.2.2.2.2.1;have av:=J.2.2.2.2.2.2.2.2.2.2.1;clear J;have z5:=(I.block _ V).trans (d' aJ);have d0:=(I.cell (p:=⟨F,0,none⟩) V).trans aj;have f0:=H' (i:=0) z5;have ax:=m' z5;have ay:=m' ((d' H).trans (I.mono (d' H).size));clear I z5;simp only[O',au,av];go_simp;go_wp2;refine⟨⟨1,by omega,by go_num,?_,?_⟩,by simp[intOf]⟩
    ·have:=aa' (j:=0) (v:= .int .i64 aV) (d' ax);simpa using this
    ·exact(d' ay).setCell (p:=⟨F,0,none⟩) bc _
  ·simp at ak;go_wp2_with fail;refine ab'
    [Ei 1,Ei 1,Ep F 1,Ei g1,Ei n1,Ep p 0,Ei 1,Ei bm,Ei (min n1 (bm:Int)),Ei aX,Ep F 1,Et]
    [[6],[6],[5,2027],[3028],[7],[0],[6],[6031,7032],[5030,8033],[4029,9034],[5,1026],[11036,10035]] [27,28,29,30,31,32,33,34,35,36,37,0] [26,11,28]
    11 _ rfl rfl ?_ ?_
   ·refine⟨?_,?_,?_,?_,?_,?_,?_,?_,?_,?_,?_,trivial⟩;all_goals
     intro a' z hb ap;have d1:=(hb.cell (p:=⟨F,1,none⟩) V).trans ak;have Z:=m' (d' (aG z ((d' H).trans (hb.mono (d' H).size))));clear hb;simp[I']at ap;go_simp;try exact⟨_,rfl,z11 _ _,rfl⟩
     try exact z11 _ _
    all_goals first
     |(refine(d' Z).mono ?_;rintro r aq ⟨rfl,q,rfl⟩;exact⟨rfl,z41 (z11 _ _) q⟩)
     |(refine(d' Z).mono ?_;rintro r aq ⟨rfl,q,rfl⟩;exact⟨_,rfl,z41 (z11 _ _) q,rfl⟩)
     |skip
   ·intro f z I J;simp only[ag',List.take]at J;have au:=J.2.2.2.2.2.2.2.2.2.1;have av:=J.2.2.2.2.2.2.2.2.2.2.1;clear J;have z5:=(I.block _ V).trans (d' aJ);have d1:=(I.cell (p:=⟨F,1,none⟩) V).trans ak;have f1:=H' (i:=1) z5;have ax:=m' z5;have ay:=m' ((d' H).trans (I.mono (d' H).size));clear I z5;simp only[O',au,av];go_simp;go_wp2;refine⟨⟨2,by omega,by go_num,?_,?_⟩,by simp[intOf]⟩
    ·have:=aa' (j:=1) (v:= .int .i64 aX) (d' ax);simpa using this
    ·exact(d' ay).setCell (p:=⟨F,1,none⟩) bc _
  ·simp at ao;go_wp2_with fail;refine ab'
    [Ei 2,Ei 2,Ep F 2,Ei g2,Ei n2,Ep p 0,Ei 2,Ei b2,Ei (min n2 (b2:Int)),Ei aZ,Ep F 2,Et]
    [[6],[6],[5,2027],[3028],[7],[0],[6],[6031,7032],[5030,8033],[4029,9034],[5,1026],[11036,10035]] [27,28,29,30,31,32,33,34,35,36,37,0] [26,11,28]
    11 _ rfl rfl ?_ ?_
   ·refine⟨?_,?_,?_,?_,?_,?_,?_,?_,?_,?_,?_,trivial⟩;all_goals
     intro a' z hb ap;have d2:=(hb.cell (p:=⟨F,2,none⟩) V).trans ao;have Z:=m' (d' (aH z ((d' H).trans (hb.mono (d' H).size))));clear hb;simp[I']at ap;go_simp;try exact⟨_,rfl,z11 _ _,rfl⟩
     try exact z11 _ _
    all_goals first
     |(refine(d' Z).mono ?_;rintro r aq ⟨rfl,q,rfl⟩;exact⟨rfl,z41 (z11 _ _) q⟩)
     |(refine(d' Z).mono ?_;rintro r aq ⟨rfl,q,rfl⟩;exact⟨_,rfl,z41 (z11 _ _) q,rfl⟩)
     |skip
   ·intro f z I J;simp only[ag',List.take]at J;have au:=J.2.2.2.2.2.2.2.2.2.1;have av:=J.2.2.2.2.2.2.2.2.2.2.1;clear J;have z5:=(I.block _ V).trans (d' aJ);have d2:=(I.cell (p:=⟨F,2,none⟩) V).trans ao;have f2:=H' (i:=2) z5;have ax:=m' z5;have ay:=m' ((d' H).trans (I.mono (d' H).size));clear I z5;simp only[O',au,av];go_simp;go_wp2;refine⟨⟨3,by omega,by go_num,?_,?_⟩,by simp[intOf]⟩
    ·have:=aa' (j:=2) (v:= .int .i64 aZ) (d' ax);simpa using this
    ·exact(d' ay).setCell (p:=⟨F,2,none⟩) bc _
  ·simp at aj ak ao;have bI:=m' (d' (aI wr (d' H)));clear aI aF aG aH i0 bY bZ ab ac ad;go_upto_region 12 with (go_at_call 152;refine(d' bI).mono ?_;rintro r y ⟨rfl,cb⟩);obtain⟨bJ,bK,bL,cc,bM,bN,bO,bP⟩:=cb;have bQ:=m' (bN.behind (d' H));have bR:=m' (z12 bO bP);clear bN bO bP bI aj ak ao aJ;go_wp2;go_loopw[9,44] (fun _ i wr=>∃j:Nat,j<=3/\i= .int .i64 j/\Ja w wr p bJ a1.Qf a1.Qd a1.fenced bK (clr bL j) bM c) (fun _ i _=>3 - (intOf i).toNat)
   case atStart=>exact⟨0,by omega,rfl,by rw[wT'];exact d' bQ⟩
   case round=>
    obtain⟨j,hj,rfl,aK⟩:=hrel;clear bQ;by_cases ci:j < 3
    ·obtain⟨c1,Q,az,aA,t1,t2⟩:=aK;have bd:=sO' (Q.shAt (i:=j * 3+1) (by omega));rw[show 4+(j * 3+1) * 2=4+j * 6+2 by omega]at bd;have bS:=m' bd;have bT:=m' (z12 Q (z12 az (z12 aA (z12 t1 t2))));have cj:(0:Int)<=(j:Int):=(by omega);have ck:(j:Int) < 3:=(by omega);clear Q az aA t1 t2 bd;go_upto_region 16 with (go_at_call 153;refine(d' bS).mono ?_;rintro r y ⟨rfl,hst⟩);obtain⟨Q,az,aA,t1,t2⟩:=d' bT;have aL:cq' wr y p (4+(j * 3+1) * 2) 151 c1.arr (c1.nv (j * 3+1)) (c1.mv (j * 3+1)) []:=(by rw[show 4+(j * 3+1) * 2=4+j * 6+2 by omega];exact hst);obtain⟨c2,aB,aM,aN,s1,aO⟩:=eA' az aA t1 t2 (cS' Q (i:=j * 3+1) (by omega) aL);have be:=lj' (aB.shAt (i:=j * 3+2) (by omega));rw[show 4+(j * 3+2) * 2=4+j * 6+4 by omega]at be;have cd:=m' be;have ce:=m' (z12 aB (z12 aM (z12 aN (z12 s1 aO))));clear Q az aA t1 t2 aB aM aN s1 aO be hst aL bT bS;go_wp2_with (go_at_call 154;refine(d' cd).mono ?_;rintro r z ⟨rfl,hst⟩);obtain⟨aB,aM,aN,s1,aO⟩:=d' ce;have aL:cq' y z p (4+(j * 3+2) * 2) 151 c2.arr (c2.nv (j * 3+2)) (c2.mv (j * 3+2)) []:=(by rw[show 4+(j * 3+2) * 2=4+j * 6+4 by omega];exact hst);have bU:=eA' aM aN s1 aO (cS' aB (i:=j * 3+2) (by omega) aL);rw[wU']at bU;exact⟨⟨j+1,by omega,by go_num,bU⟩,by simp[intOf];omega⟩
    ·obtain rfl:j=3:=(by omega);obtain⟨c1,Q,_⟩:=id aK;have f24:=H' (i:=24) Q.ks.blk;have d24:wr.cell? ⟨p,24,none⟩=some (.bool a1.Qd):=(by rw[y' Q.ks.blk,Q.ks.aw]);have cf:=m' (aK.trans (fun cl h=>lt' h true));clear aK Q;go_wp2;go_ret;refine⟨rfl,?_⟩;rw[d' bX];exact⟨bJ,bK,clr bL 3,cc,bM,d' cf,(d' bR).1.same (fun i _=>tl' _ i),sX' (d' bR).2⟩
theorem rw' (I:Je w p g a.Qf a.Qd a.fenced free sh st c) (hs:Vq op st a free pl) (O:Js a st.Qe g free sh pl) (e:Nat) (s q:Nat) (b:z10) (cg:e=a.Qa) (aE:a.Qd=true) (aj:s < 3) (aN:0 < b.size) (aF:∀i,i < 3->(a.fl i).base+(a.fl i).kept.length<=1000000000):
  Calls prog 105 #[D' p, .agg #[.int .i64 4, .int .i64 e, .int .i64 s, .int .i64 q, .string b]] w fun r F=>r= .returned (.int .i64 0)/\Zp op w F p (a.Qx 4 e s q b) c:=by
 have av:=z14 I.ks.blk;have bi:=fun F (ad:Below w.heap.size w F)=>m' (bW' (I.below ad));have bj:w.cell? ⟨p,24,none⟩=some (.bool true):=by rw[y' I.ks.blk,I.ks.aw,aE]
 obtain⟨G,aO⟩:=exq (a.ackSeq s q);have bk:G=min q ((a.fl s).base+(a.fl s).kept.length):=by rw[aO];rfl
 obtain⟨n,hn⟩:=exq (a.Xr 4 e s q b);have hd:a.Qx 4 e s q b=if G < (a.fl s).base then a else {a.drop n with fl:=Mq.upd (a.drop n).fl s {(a.drop n).fl s with held:=Mq.bitsOf G b[0].toNat 3}}:=by
  unfold Mq.Ag.Qx;rw[if_neg (by omega),if_neg (by omega),if_neg (by omega),if_neg (by omega),if_pos rfl,hn,Ap' aN];have hst:((s:Nat):Int).toNat=s:=rfl;rw[hst,<-aO,aE];by_cases h:G < (a.fl s).base
  ·rw[if_pos (.inr h),if_pos h]
  ·rw[if_neg (by simp;omega),if_neg h]
 have aP:∀i,i < 3->n i<=(a.fl i).kept.length:=fun i _=>by rw[hn];exact fa' _ _ _ _ _ _ _
 have bl:∀i,n i=if i=s then min (q - (a.fl s).base) (a.fl s).kept.length else 0:=fun i=>by
  rw[hn];unfold Mq.Ag.Xr;rw[if_neg (by omega),if_neg (by omega)];by_cases h:i=s
  ·subst h;rw[if_pos ⟨rfl,rfl,aE⟩,if_pos rfl];unfold Mq.Ag.gone;congr 1;omega
  ·rw[if_neg (fun ch=>h (by have:=ch.2.1;omega)),if_neg h]
 obtain⟨X,aQ⟩:=exq (fun i=>if i=s then G else(a.fl i).base:Nat->Nat);have ax:¬G < (a.fl s).base->∀F,Below w.heap.size w F->Hid (Calls prog 152 #[D' p, .agg #[.int .i64 (X 0), .int .i64 (X 1), .int .i64 (X 2)]] F fun r ci=>r= .returned (.int .i64 0)/\Zp op F ci p (a.drop n) c):=fun aG F ad=>by
  have bm:∀i,i < 3->X i=(a.fl i).base+n i:=fun i hi=>by
   rw[aQ,bl i];show(if i=s then G else(a.fl i).base)= _;by_cases h:i=s
   ·subst h;rw[if_pos rfl,if_pos rfl];omega
   ·rw[if_neg h,if_neg h];rfl
  refine m' (lK' (I.below ad) hs (fun i hi=>by have:=aF i hi;omega) O n X aP bm (fun i hi=>?_));have:=aF i hi;have:=aP i hi;rw[bm i hi];omega
 have aR:=fun F (ad:Below w.heap.size w F)=>gR' (I.below ad) O aj (O.bs s aj);have bn:w.cell? ⟨p,1,none⟩=some (.int .i64 (a.fl 0).base):=by rw[y' I.ks.blk,<-O.bs 0 (by omega)];exact I.ks.ag 0 (by omega)
 have bo:w.cell? ⟨p,2,none⟩=some (.int .i64 (a.fl 1).base):=by rw[y' I.ks.blk,<-O.bs 1 (by omega)];exact I.ks.ag 1 (by omega)
 have bp:w.cell? ⟨p,3,none⟩=some (.int .i64 (a.fl 2).base):=by rw[y' I.ks.blk,<-O.bs 2 (by omega)];exact I.ks.ag 2 (by omega)
 have aS:w.cell? ⟨p,1+s,none⟩=some (.int .i64 (a.fl s).base):=by rw[y' I.ks.blk,<-O.bs s aj];exact I.ks.ag s aj
 obtain⟨bq,ah⟩:=exq ((a.fl s).base+(a.fl s).kept.length);rw[<-ah]at aR bk;have cj:=fun F ad=>m' (aR F ad);have cK:min (q:Int) (bq:Int)=(G:Int):=by omega
 have br:G<=1000000000:=by have:=aF s aj;omega
 have aT:=fun F=>m' (mH' G br b aN F);obtain⟨bits,aU⟩:=exq (Mq.bitsOf G b[0].toNat 3);have bt:bits.length<=3:=by rw[aU];exact cp' _ _ _
 rw[<-aU]at hd aT;obtain⟨ep,bu⟩:=exq (a.Qa);have bw:st.Qe=ep:=by rw[bu];exact O.ep
 rw[bw]at bi;have cL:((e:Int) != (ep:Int))=false:=by simp;omega
 obtain⟨a2,bz⟩:=exq (a.Qx 4 e s q b);rw[<-bz]at hd ⊢;obtain⟨a1,bA⟩:=exq (a.drop n);rw[<-bA]at hd ax;have bB:=m' hd;have bC:=m' (dY' w #[.int .i64 4, .int .i64 e, .int .i64 s, .int .i64 q, .string b]);obtain⟨bs,aV⟩:=exq ((a.fl s).base);rw[<-aV]at aS ax;have bD: #[Value.int .i64 (X 0), .int .i64 (X 1), .int .i64 (X 2)]=(#[Value.int .i64 (a.fl 0).base, .int .i64 (a.fl 1).base, .int .i64 (a.fl 2).base]:Array Value).setIfInBounds s (.int .i64 G):=by
  rw[aQ];obtain rfl|rfl|rfl:s=0\/s=1\/s=2:=by omega
  all_goals simp
 have bE:=m' bD;have bF:=m' aV;have ck:=m' (eq' I hs O);have cM:(0:Int)<=(s:Int):=by omega
 have cN:(s:Int) < 3:=by omega
 generalize (a.fl 0).base=g0 at *;generalize (a.fl 1).base=g1 at *;generalize (a.fl 2).base=g2 at *;obtain⟨cl,bG⟩:=exq (X 0);obtain⟨cm,bH⟩:=exq (X 1);obtain⟨cn,bI⟩:=exq (X 2);rw[<-bG,<-bH,<-bI]at ax bE;have cp:=m' ax;have cq:=m' (fun h=>absurd (I.lt _ h) (by omega):¬PaU p c w.heap.size);clear I O hs hn hd aP bl aQ aR bw bu bz bA cg aE aF aO bk ah aU aV bD bG bH bI ax aN br;unfold D' at *;go_enter func105,ntmps105;go_upto_region 1 with fail;refine G' (Xv w #[.int .i64 4, .int .i64 e, .int .i64 s, .int .i64 q, .string b]) (d' bC) ?_;clear bC;intro x z;have bJ:=y' (i:=1) z.box;simp at bJ;have d24:=(z.bel.cell (p:=⟨p,24,none⟩) av).trans bj;have bK:=fun n=>m' (d' (bi (x.drewN n) (z.drewN n).bel));have H:=m' z;clear z bj;go_quiet (first|(go_at_call 66;exact z57 (d' (bK _))));go_upto_region 3 with fail;refine G' (Xv w #[.int .i64 4, .int .i64 e, .int .i64 s, .int .i64 q, .string b]) ((d' H).drewN _) ?_;clear H bJ bK d24;intro x z;have J:=y' (i:=2) z.box;have aW:=y' (i:=3) z.box;simp at J aW;have ay:=z.lt;have H:=m' z;clear z;refine ae'
  [Ep w.heap.size 3,Ei q,Ep p 0,Ep w.heap.size 2,Ei s,Ei bq,Ei G,Ei G]
  [[3],[1023],[0],[3],[4026],[3025,5027],[2024,6028],[7029]] [24,25,26,27,28,29,30,6] [5,1,17,7,46] ?_ ?_
 ·refine⟨?_,?_,?_,?_,?_,?_,?_,?_,trivial⟩;all_goals
   intro a' F M cr;have aX:=(M.cell (p:=⟨w.heap.size,2,none⟩) ay).trans J;have cO:=(M.cell (p:=⟨w.heap.size,3,none⟩) ay).trans aW;have bL:=m' (d' (cj F ((d' H).bel.trans (M.mono (d' H).bel.size))));clear M;simp[I']at cr;go_simp;try exact z11 _ _
  all_goals first
   |exact⟨rfl,z11 _ _⟩
   |exact⟨_,rfl,z11 _ _,rfl⟩
   |(refine(d' bL).mono ?_;rintro r aY ⟨rfl,k,rfl⟩;exact⟨rfl,z41 (z11 _ _) k⟩)
   |(refine(d' bL).mono ?_;rintro r aY ⟨rfl,k,rfl⟩;exact⟨_,rfl,z41 (z11 _ _) k,rfl⟩)
   |skip
 ·intro f F M aZ;simp only[ag']at aZ;have cs:=aZ.2.2.2.2.2.2.2.1;clear aZ;have ak:=m' ((d' H).below M);clear M;simp only[O',cs];go_upto_region 4 with fail;refine G' (Xv w #[.int .i64 4, .int .i64 e, .int .i64 s, .int .i64 q, .string b]) (d' ak) ?_;clear ak H J aW ay;intro x z;have J:=y' (i:=2) z.box;simp at J;have cu:=(z.bel.cell (p:=⟨p,1+s,none⟩) av).trans aS;have H:=m' z;clear z aS;by_cases aG:G < bs
  ·have cv:(G:Int) < (bs:Int):=(by omega);go_quiet (fail);go_wp2;go_ret;refine⟨rfl,?_⟩;rw[d' bB,<-d' bF,if_pos aG];exact(d' ck).below (((d' H).drewN _).bel)
  ·have cv:¬ (G:Int) < (bs:Int):=(by omega);go_quiet (fail);go_upto_region 6 with fail;refine G' (Xv w #[.int .i64 4, .int .i64 e, .int .i64 s, .int .i64 q, .string b]) ((d' H).drewN _) ?_;clear H J cu;intro x z;have J:=y' (i:=2) z.box;simp at J;have d0:=(z.bel.cell (p:=⟨p,1,none⟩) av).trans bn;have d1:=(z.bel.cell (p:=⟨p,2,none⟩) av).trans bo;have d2:=(z.bel.cell (p:=⟨p,3,none⟩) av).trans bp;have ay:=z.lt;have H:=m' z;obtain⟨ao,ba⟩:=exq (x.heap.size);have bM:=m' ba;have cw:w.heap.size < ao:=(by omega);clear z bn bo bp;go_upto_region 7 with fail;rw[<-ba];clear ba;refine G' (fun y=>y.heap[ao]? =some (.cells #[.int .i64 g0, .int .i64 g1, .int .i64 g2] 136 (0,0))/\Xv w #[.int .i64 4, .int .i64 e, .int .i64 s, .int .i64 q, .string b] y) ?_ ?_
   ·rw[d' bM];exact⟨z19 _ _,(d' H).below ((z11 _ _).alloc (z13 _) _)⟩
   clear H bM J d0 d1 d2 ay;rintro y ⟨Y,z⟩;have J:=y' (i:=2) z.box;simp at J;have f6:=H' (i:=s) Y;obtain⟨old,cx⟩:∃v:Nat,y.cell? ⟨ao,s,none⟩=some (.int .i64 v):=by
    rw[y' Y];obtain rfl|rfl|rfl:s=0\/s=1\/s=2:=by omega
    ·exact⟨g0,rfl⟩
    ·exact⟨g1,rfl⟩
    ·exact⟨g2,rfl⟩
   have bN:=m' (z12 Y z);clear Y z;go_upto_region 8 with fail;refine G' (fun y=>y.heap[ao]? =some (.cells #[.int .i64 cl, .int .i64 cm, .int .i64 cn] 136 (0,0))/\Xv w #[.int .i64 4, .int .i64 e, .int .i64 s, .int .i64 q, .string b] y) ?_ ?_
   ·obtain⟨Y,z⟩:=d' bN;have cy:=Q' y ao s (.int .i64 G);refine⟨?_,⟨cy.blk z.box (by omega),z.bel.setCell (p:=⟨ao,s,none⟩) (qg' cw) _⟩⟩;rw[d' bE];exact aa' Y
   clear bN J f6 cx;rintro y ⟨Y,z⟩;obtain⟨bO,bP,aX⟩:=cC' Y;have J:=y' (i:=2) z.box;simp at bO bP aX J;have bQ:=m' (d' ((d' cp) aG y z.bel));have H:=m' z;clear Y z;go_upto_region 11 with (go_at_call 152;refine(d' bQ).mono ?_;rintro r F ⟨rfl,cz⟩);obtain⟨aH,aI,az,cA,aJ,⟨c1,Q,Z,ac,t1,t2⟩,bR,bS⟩:=cz;have M:=Z.blk (d' H).box (d' cq);have bT:=Ja.behind (w:=w) (⟨c1,Q,Z,ac,t1,t2⟩:Ja y F p aH a1.Qf a1.Qd a1.fenced aI az aJ c) (d' H).bel;have J:=y' (i:=2) M;simp at J;have ak:=m' (z12 M bT);have bU:=m' (z12 bR bS);clear Q Z ac t1 t2 bR bS M bT H bQ bO bP aX;go_quiet (fail);go_upto_region 12 with fail;refine G' (fun y=>y.heap[w.heap.size]? =some (.cells #[.int .i64 4, .int .i64 e, .int .i64 s, .int .i64 q, .string b] 41 (0,0))/\Ja w y p aH a1.Qf a1.Qd a1.fenced aI az aJ c) ?_ ?_
   ·exact⟨(d' ak).1,(d' ak).2.below (z41 (z11 _ _) _)⟩
   clear ak J;rintro x ⟨ap,c1,Q,Z,ac,t1,t2⟩;have bb:=m' (lj' (Q.shAt (i:=s * 3+2) (by omega)));rw[show 4+(s * 3+2) * 2=4+s * 6+4 by omega]at bb;have bV:=m' (z12 ap (z12 Q (z12 Z (z12 ac (z12 t1 t2)))));clear ap Q Z ac t1 t2;go_upto_region 13 with (go_at_call 154;refine(d' bb).mono ?_;rintro r aY ⟨rfl,hst⟩);rw[show 4+s * 6+4=4+(s * 3+2) * 2 by omega]at hst;obtain⟨ap,Q,Z,ac,t1,t2⟩:=d' bV;have bW:=dc' Q ap (by decide) (by decide) (by decide) (by decide) (by decide) (by decide) (by decide);have bX:=hst.2.blk ap (fun h=>bW (.inl (h.elim .inl (fun h=> .inr (.inr ⟨s * 3+2,by omega,h⟩)))));have cB:=eA' Z ac t1 t2 (cS' Q (by omega) hst);have cC:=y' (i:=4) bX;simp at cC;clear ap Q Z ac t1 t2 bW hst bV bb bX;obtain⟨c2,aA,aK,aL,s1,aM⟩:=cB;have cD:=m' (z12 aA (z12 aK (z12 aL (z12 s1 aM))));clear aA aK aL s1 aM;have bY:=m' (d' (aT aY));clear aT;obtain⟨m,bc⟩:=exq (bits.length);rw[<-bc]at bY bt;have bd:=m' bc;clear bc;go_wp2_with (go_at_call 155;refine(d' bY).mono ?_;rintro r z3 ⟨v,rfl,aB,ah⟩;obtain⟨bZ,cap,rfl,_⟩:=(bq' aB).shape;replace aB:=m' aB;replace ah:=m' ah);go_loopw[10,67] (fun _ i wr=>∃t:Nat,t<=m/\i= .int .i64 t/\Qi wr 3 1 (.slice bZ m cap) m (J' bits)/\∃aC,Je wr p aH a1.Qf a1.Qd a1.fenced aI (fun j=>if j=s * 3+2 then(bits.take t).foldl (fun l n=>br' l n dJ') []else az j) aJ aC/\Far (PaU p c) w wr/\(∀k,PaU p aC k->PaU p c k\/w.heap.size<=k)/\aC.s=c.s/\aC.rv=c.rv/\(∀g,(Value.slice bZ m cap).ownBlock=some g->¬PaU p aC g)) (fun _ i _=>m - (intOf i).toNat)
   case atStart=>obtain⟨aA,aK,aL,s1,aM⟩:=d' cD;refine⟨0,by omega,rfl,bq' (d' aB),c2,aA.below (d' ah),aK.trans (C' (E:=PaU p c) (d' ah)) (fun _ _ h=>h),aL,s1,aM,fun g aq hu=>?_⟩;have h1:=(z15 (d' aB) g aq).1;have h2:=aA.lt g hu;omega
   case round=>
    obtain⟨t,cP,rfl,ai,c3,V,aa,ab,u1,u2,au⟩:=hrel;by_cases ca:t < m
    ·obtain⟨cQ,cR,be,_,_,cb⟩:=ai.shape;injection be with be _ cE;subst be cE;obtain⟨cS,cT,rfl,cc⟩:=cb (by omega);obtain⟨aD,bf⟩:∃aD,bits[t]? =some aD:=⟨bits[t]'(by have:=d' bd;omega),z18 _⟩
     have r0:=(cc t (by omega));rw[show(J' bits)[t]? =some (.int .i64 aD) by simp[J',bf]]at r0;have cd:bits.take (t+1)=bits.take t++[aD]:=(by rw[sC',bf];rfl);have ce:((bits.take t).foldl (fun l n=>br' l n dJ') []).length < 1000:=(by have:=nz' (bits.take t);have:=List.length_take_le t bits;omega);have bg:=m' (wK' (V.shAt (i:=s * 3+2) (by omega)) (by rw[if_pos rfl];exact ce) aD);rw[if_pos rfl,<-fh',<-cd]at bg;rw[show 4+(s * 3+2) * 2=4+s * 6+4 by omega]at bg;have cU:(0:Int)<=(t:Int):=(by omega);have cV:(t:Int) < (m:Int):=(by omega);have bh:=m' (z12 ai (z12 V (z12 aa (z12 ab (z12 u1 (z12 u2 au))))));clear ai V aa ab u1 u2 au cb cc cd ce bf;go_wp2_with (go_at_call 156;refine(d' bg).mono ?_;rintro r z4 ⟨rfl,hst⟩);rw[show 4+s * 6+4=4+(s * 3+2) * 2 by omega]at hst;obtain⟨ai,V,aa,ab,u1,u2,au⟩:=d' bh;obtain⟨c4,cF,cG,cf,v1,cH⟩:=cS' V (by omega) hst;have cI:∀k,(k=p\/ShU (c3.nv (s * 3+2)) (c3.mv (s * 3+2)) k)->PaU p c3 k:=fun k hk=>hk.elim (fun h=> .inl (.inl h)) (fun h=> .inl (.inr (.inr ⟨s * 3+2,by omega,h⟩)));refine⟨⟨t+1,by omega,rfl,ai.far hst.2 (fun g aq h=>au g aq (cI g h)),c4,?_,aa.trans cG (fun k hk hu=>(ab k hu).elim id (fun h=>by omega)),fun k hk=>?_,v1.trans u1,cH.trans u2,fun g aq hu=>?_⟩,?_⟩
     ·rw[show(fun j=>if j=s * 3+2 then(bits.take (t+1)).foldl (fun l n=>br' l n dJ') []else az j)=(fun j=>if j=s * 3+2 then(bits.take (t+1)).foldl (fun l n=>br' l n dJ') []else if j=s * 3+2 then(bits.take t).foldl (fun l n=>br' l n dJ') []else az j) by
       funext j;by_cases h:j=s * 3+2
       ·rw[if_pos h,if_pos h]
       ·rw[if_neg h,if_neg h,if_neg h]]
      exact cF
     ·rcases cf k hk with h|h
      ·exact ab k h
      ·exact .inr (z26 aa.size h)
     ·rcases cf g hu with h|h
      ·exact au g aq h
      ·have:=ai.lt g aq;omega
     ·simp[intOf];omega
    ·have e:t=m:=(by omega);have cW:¬ (t:Int) < (m:Int):=(by omega);have bh:=m' (z12 V (z12 aa (z12 ab (z12 u1 u2))));have cJ:=m' (z12 e ca);clear ai V aa ab u1 u2 au e ca;go_wp2;go_ret;refine⟨rfl,?_⟩;rw[d' bB,<-d' bF,if_neg aG];obtain⟨V,aa,ab,u1,u2⟩:=d' bh;rw[show bits.take t=bits by rw[(d' cJ).1,d' bd];exact zn']at V;exact⟨aH,aI,_,cA,aJ,⟨c3,V,aa,ab,u1,u2⟩,(d' bU).1.same (fun i _=>Ql _ _ _ i),uY' (d' bU).2 aj bits (by rw[<-d' bd];exact bt)⟩
end
section
variable {w:World} {p:Nat} {g0:Nat->Nat} {free:List Nat} {sh:Nat->List (Nat×Value)} {st:Mq.Stv} {c:Av} {a a2:Mq.Ag} {pl:Nat->List Nat} {op:Nat}
theorem mR' (z:Je w p g0 a.Qf a.Qd a.fenced free sh st c) (hs:Vq op st a free pl) (H:Js a st.Qe g0 free sh pl) (bs:Value) (l:List UInt8) (I:Qn w bs l) (J:Qb.reads l=false):
  Calls prog 57 #[D' p,bs] w fun r M=>r= .returned (.int .i64 1)/\Zp op w M p a c:=by
 have c0:w.cell? ⟨p,0,none⟩=some (D' c.s):=by rw[y' z.ks.blk,z.ks.a0]
 have G:=aL' z.stt;rw[hs.dead]at G;have O:=m' G;have F:=eV' bs l w I;rw[J]at F;simp only[Bool.false_eq_true,if_false,bI']at F;have Q:=m' F;have V:=m' (eq' z hs H);clear z G F;unfold D' at *;go_enter func57,ntmps57;go_wp2_with (first|(go_at_call 86;refine(d' O).mono ?_;rintro r y ⟨rfl,rfl⟩)|(go_at_call 54;refine(d' Q).mono ?_;rintro r y ⟨rfl,hb⟩;replace hb:=m' hb));go_ret;exact⟨rfl,(d' V).below ((d' hb).alloc (d' hb).size _)⟩
variable{M:Int}{dF:World -> Prop}
theorem tm' (G:Je w p g0 a.Qf a.Qd a.fenced free sh st c) (hd:st.dk.dead=false) (bs:Value) (k e s q:Int) (b:z10)
  (au:∀y,Below w.heap.size w y->Calls prog 54 #[bs] y fun r z=>r= .returned (.tuple #[.agg #[.int .i64 k, .int .i64 e, .int .i64 s, .int .i64 q, .string b], .int .i64 0])/\Below y.heap.size y z)
  (av:k=2->∀y,Below w.heap.size w y->Calls prog 104 #[D' p, .agg #[.int .i64 k, .int .i64 e, .int .i64 s, .int .i64 q, .string b]] y fun r z=>r= .returned (.int .i64 M)/\dF z)
  (ax:k=4->∀y,Below w.heap.size w y->Calls prog 105 #[D' p, .agg #[.int .i64 k, .int .i64 e, .int .i64 s, .int .i64 q, .string b]] y fun r z=>r= .returned (.int .i64 M)/\dF z)
  (ay:k=5->∀y,Below w.heap.size w y->Calls prog 106 #[D' p, .agg #[.int .i64 k, .int .i64 e, .int .i64 s, .int .i64 q, .string b]] y fun r z=>r= .returned (.int .i64 M)/\dF z)
  (az:k≠2->k≠4->k≠5->M=0/\∀y,Below w.heap.size w y->dF y):
  Calls prog 57 #[D' p,bs] w fun r z=>r= .returned (.int .i64 M)/\dF z:=by
 have c0:w.cell? ⟨p,0,none⟩=some (D' c.s):=by rw[y' G.ks.blk,G.ks.a0]
 have aj:=aL' G.stt;rw[hd]at aj;have aA:=m' aj;have aB:=m' (au w (z11 _ _));have Q:=fun h y V=>m' (av h y V);have Y:=fun h y V=>m' (ax h y V);have Z:=fun h y V=>m' (ay h y V);have aa:=m' az;obtain⟨F,cap,aC,aY,aZ,aD⟩:=G.rl.shape;obtain⟨g,o,rfl,I⟩:=aD (by omega);have r0:w.cell? ⟨g,o,none⟩=some (.int .i64 2):=by have:=I 0 (by omega);simpa[cm']using this
 have aE:w.cell? ⟨g,o+1,none⟩=some (.func (.func 104) #[D' p] #[]):=by have:=I 1 (by omega);simpa[cm']using this
 have aF:w.cell? ⟨g,o+2,none⟩=some (.int .i64 4):=by have:=I 2 (by omega);simpa[cm']using this
 have aG:w.cell? ⟨g,o+2+1,none⟩=some (.func (.func 105) #[D' p] #[]):=by have:=I 3 (by omega);simpa[cm']using this
 have aH:w.cell? ⟨g,o+4,none⟩=some (.int .i64 5):=by have:=I 4 (by omega);simpa[cm']using this
 have aI:w.cell? ⟨g,o+4+1,none⟩=some (.func (.func 106) #[D' p] #[]):=by have:=I 5 (by omega);simpa[cm']using this
 have aJ:w.cell? ⟨p,26,none⟩=some (.slice (some ⟨g,o,none⟩) 3 cap):=by rw[y' G.ks.blk,G.ks.ar,aC]
 have J:g < w.heap.size:=z66 _ _ r0;have aP:=z14 G.ks.blk;clear G aj au I aD aC hd av ax ay az;unfold D' at *;go_enter func57,ntmps57;go_upto_region 4 with (first|(go_at_call 86;refine(d' aA).mono ?_;rintro r y ⟨rfl,aQ⟩;obtain rfl:w=y:=aQ.symm)|(go_at_call 54;refine(d' aB).mono ?_;rintro r y ⟨rfl,hb⟩));obtain⟨ah,ak⟩:=exq (y.heap.size);have ba:w.heap.size<=ah:=by have:=hb.size;omega
 have aK:=m' ak;have ao:=m' hb;rw[<-ak];clear ak hb;refine G' (fun u=>u.heap[ah]? =some (.cells #[.int .i64 k, .int .i64 e, .int .i64 s, .int .i64 q, .string b] 41 (0,0))/\Below w.heap.size w u) ?_ ?_
 ·rw[d' aK];exact⟨z19 _ _,(d' ao).alloc (d' ao).size _⟩
 clear aK ao c0 aB aA;rintro u ⟨H,ap⟩;have d26:=(ap.cell (p:=⟨p,26,none⟩) aP).trans aJ;have aL:=m' H;have aM:=m' ap;clear H ap aJ;go_wp2;go_loopw[8,27] (fun _ i wr=>∃j:Nat,(j=0\/j=1/\k≠2\/j=2/\k≠2/\k≠4\/j=3/\k≠2/\k≠4/\k≠5)/\i= .int .i64 j/\wr.heap[ah]? =some (.cells #[.int .i64 k, .int .i64 e, .int .i64 s, .int .i64 q, .string b] 41 (0,0))/\Below w.heap.size w wr) (fun _ i _=>4 - (intOf i).toNat)
 case atStart=>exact⟨0,by omega,rfl,d' aL,d' aM⟩
 case round=>
  obtain⟨j,hj,rfl,H,hb⟩:=hrel;clear aL aM d26;have s0:=(hb.cell (p:=⟨g,o,none⟩) J).trans r0;have s1:=(hb.cell (p:=⟨g,o+1,none⟩) J).trans aE;have bb:=(hb.cell (p:=⟨g,o+2,none⟩) J).trans aF;have s3:=(hb.cell (p:=⟨g,o+2+1,none⟩) J).trans aG;have bc:=(hb.cell (p:=⟨g,o+4,none⟩) J).trans aH;have bd:=(hb.cell (p:=⟨g,o+4+1,none⟩) J).trans aI;obtain⟨aR,aS,aT,aU,aV⟩:=dK' H;simp at aR aS aT aU aV;have aW:=z14 H;have be:=m' H;have ai:=m' hb;have aN:∀aq,(wr.alloc aq).heap[ah]? =some (.cells #[.int .i64 k, .int .i64 e, .int .i64 s, .int .i64 q, .string b] 41 (0,0))/\Below w.heap.size w (wr.alloc aq):=fun aq=>⟨(hao _ _ aW).trans H,hb.alloc hb.size _⟩;have O:=m' aN;clear H hb aN r0 aE aF aG aH aI;have bf:∀ (F:Addr) (m:Mode) (z:World),(store F (.func (.func 104) #[.pointer (some ⟨p,0,none⟩)] #[]) m).run prog z=stored prog z F (.func (.func 104) #[.pointer (some ⟨p,0,none⟩)] #[]) m:=fun F m z=>run_store _ _ _ _ _ rfl;have bg:∀ (F:Addr) (m:Mode) (z:World),(store F (.func (.func 105) #[.pointer (some ⟨p,0,none⟩)] #[]) m).run prog z=stored prog z F (.func (.func 105) #[.pointer (some ⟨p,0,none⟩)] #[]) m:=fun F m z=>run_store _ _ _ _ _ rfl;have bh:∀ (F:Addr) (m:Mode) (z:World),(store F (.func (.func 106) #[.pointer (some ⟨p,0,none⟩)] #[]) m).run prog z=stored prog z F (.func (.func 106) #[.pointer (some ⟨p,0,none⟩)] #[]) m:=fun F m z=>run_store _ _ _ _ _ rfl;rcases hj with rfl|⟨rfl,n2⟩|⟨rfl,n2,ab⟩|⟨rfl,n2,ab,aO⟩
  ·by_cases k2:k=2
   ·have ac:((2:Int) ==k)=true:=(by simp[k2]);have ad:=Q k2;clear k2 Y Z aa Q;go_wp2_with (go_at_call 104;refine(d' (ad _ (by first|exact((d' O) _).2|exact(d' ai)))).mono ?_;rintro r z ⟨rfl,k1⟩;replace k1:=m' k1);go_ret;exact⟨rfl,d' k1⟩
   ·have ac:((2:Int) ==k)=false:=(by simp;omega);go_wp2;exact⟨⟨1,by simp[k2],by go_num,(d' O) _⟩,by simp[intOf]⟩
  ·by_cases k4:k=4
   ·have ac:((4:Int) ==k)=true:=(by simp[k4]);have ad:=Y k4;clear k4 Y Z aa Q n2;go_wp2_with (go_at_call 105;refine(d' (ad _ (by first|exact((d' O) _).2|exact(d' ai)))).mono ?_;rintro r z ⟨rfl,k1⟩;replace k1:=m' k1);go_ret;exact⟨rfl,d' k1⟩
   ·have ac:((4:Int) ==k)=false:=(by simp;omega);go_wp2;exact⟨⟨2,by simp[n2,k4],by go_num,(d' O) _⟩,by simp[intOf]⟩
  ·by_cases k5:k=5
   ·have ac:((5:Int) ==k)=true:=(by simp[k5]);have ad:=Z k5;clear k5 Y Z aa Q n2 ab;go_wp2_with (go_at_call 106;refine(d' (ad _ (by first|exact((d' O) _).2|exact(d' ai)))).mono ?_;rintro r z ⟨rfl,k1⟩;replace k1:=m' k1);go_ret;exact⟨rfl,d' k1⟩
   ·have ac:((5:Int) ==k)=false:=(by simp;omega);go_wp2;exact⟨⟨3,by simp[n2,ab,k5],by go_num,(d' O) _⟩,by simp[intOf]⟩
  ·obtain⟨rfl,hn⟩:=(d' aa) n2 ab aO;have aX:=m' (hn wr (d' ai));clear Y Z aa Q n2 ab aO hn;go_wp2;go_ret;exact⟨rfl,d' aX⟩
end
section
variable {w:World} {p:Nat} {g0:Nat->Nat} {free:List Nat} {sh:Nat->List (Nat×Value)} {st:Mq.Stv} {c:Av} {a:Mq.Ag} {pl:Nat->List Nat} {op:Nat}
theorem lM' (M:Je w p g0 a.Qf a.Qd a.fenced free sh st c) (hs:Vq op st a free pl) (G:Js a st.Qe g0 free sh pl) (V:∀i,i < 3->(a.fl i).base+(a.fl i).kept.length<=1000000000) (bs:Value) (l:List UInt8) (Y:Qn w bs l):
  Calls prog 57 #[D' p,bs] w fun r F=>r= .returned (.int .i64 (bu' a l).1)/\Zp op w F p (bu' a l).2 c:=by
 cases H:Qb.reads l
 ·rw[va' H];exact mR' M hs G bs l Y H
 ·have O:=oN' H;obtain⟨k,e,s,q,b,h1,h2,h3,h4,h5,g1,g2,ab,ac⟩:=eC' H;rw[tb' H h1 h2 h3 h4 h5];rw[h1,h2,h3,h4,h5]at O;have Z:∀y,Below w.heap.size w y->Calls prog 54 #[bs] y fun r F=>r= .returned (.tuple #[.agg #[.int .i64 k, .int .i64 e, .int .i64 s, .int .i64 q, .string b], .int .i64 0])/\Below y.heap.size y F:=fun y z=>by have:=eV' bs l y (Y.below z);rw[H]at this;simp only[if_true,jh',h1,h2,h3,h4,h5]at this;exact this
  have I:=fun y (z:Below w.heap.size w y)=>M.below z;have Q:=fun y (z:Below w.heap.size w y)=>(eq' (I y z) hs G).behind z;refine tm' M hs.dead bs k e s q b Z (fun k2 y z=>?_) (fun k4 y z=>?_) (fun k5 y z=>?_) (fun k2 k4 k5=>⟨rfl,fun y z=>?_⟩)
  ·subst k2;by_cases J:e=a.Qa
   ·refine(jb' (I y z) hs G e s q b J (kJ' O) V).mono fun r F h=>⟨h.1,h.2.behind z⟩
   ·refine(lu' (I y z) G e s q b J).mono ?_;rintro r F ⟨rfl,hb⟩;rw[show a.Qx 2 e s q b=a by unfold Mq.Ag.Qx;rw[if_neg (by omega),if_pos (by omega)]];exact⟨rfl,(Q y z).below hb⟩
  ·subst k4;by_cases J:e=a.Qa/\a.Qd=true
   ·exact(rw' (I y z) hs G e s q b J.1 J.2 g2 (by have:=(kK' O).1;omega) V).mono fun r F h=>⟨h.1,h.2.behind z⟩
   ·have hd:¬e=a.Qa\/a.Qd=false:=by
     by_cases h:e=a.Qa
     ·cases aa:a.Qd
      ·exact .inr rfl
      ·exact absurd ⟨h,aa⟩ J
     ·exact .inl h
    refine(oL' (I y z) G e s q b hd).mono ?_;rintro r F ⟨rfl,hb⟩;have:a.Qx 4 e s q b=a:=by
     unfold Mq.Ag.Qx;rw[if_neg (by omega)];by_cases h:e=a.Qa
     ·rw[if_neg (by omega),if_neg (by omega),if_neg (by omega),if_pos rfl,hd.resolve_left (fun g=>g h),if_pos (.inl (by simp))]
     ·rw[if_pos (by omega)]
    rw[this];exact⟨rfl,(Q y z).below hb⟩
  ·subst k5;exact(lL' (I y z) hs G e s q b).mono fun r F h=>⟨h.1,h.2.behind z⟩
  ·rw[show a.Qx k e s q b=a by
    unfold Mq.Ag.Qx;rw[if_neg (by omega)];by_cases h:e=a.Qa
    ·rw[if_neg (by omega),if_neg (by omega),if_neg (by omega),if_neg (by omega)]
    ·rw[if_pos (by omega)]]
   exact Q y z
end
theorem rx' (a:Mq.Ag) (i:Nat):(a.tick.1.fl i).base=(a.fl i).base/\(a.tick.1.fl i).kept.map (·.1)=(a.fl i).kept.map (·.1):=by
 unfold Mq.Ag.tick;split
 ·exact⟨rfl,rfl⟩
 ·split
  ·exact⟨rfl,rfl⟩
  ·simp only
   unfold Mq.Xe;split
   ·exact⟨rfl,gU' _ _ _ _ _⟩
   ·exact⟨rfl,rfl⟩
def tn' (op:Nat) (w F:World) (p:Nat) (a':Mq.Ag) (c:Av) (lv:Value) (H:List Value) (I:List z10):Prop:=
 ∃z,Qh w.heap.size F lv H I (PaU p z)/\(∃g free sh G st,Je F p g a'.Qf a'.Qd a'.fenced free sh st z/\Vq op st a' free G/\Js a' st.Qe g free sh G)/\Far (PaU p c) w F/\(∀k,PaU p z k->PaU p c k\/w.heap.size<=k)/\z.s=c.s/\z.rv=c.rv
section
variable {w:World} {p:Nat} {g:Nat->Nat} {free:List Nat} {sh:Nat->List (Nat×Value)} {st:Mq.Stv} {c:Av} {a:Mq.Ag} {pl:Nat->List Nat} {op:Nat}
theorem lN' (z:Je w p g a.Qf a.Qd a.fenced free sh st c) (hs:Vq op st a free pl) (I:Js a st.Qe g free sh pl) (ac:a.Qf<=1000000000) (J:a.fenced=true):
  Calls prog 53 #[D' p] w fun r Y=>r= .returned (.slice none 0 0)/\Zp op w Y p a.tick.1 c:=by
 have M:a.tick.1={a with Qf:=a.Qf+1}:=by unfold Mq.Ag.tick;rw[if_pos J]
 rw[M];have Z:w.cell? ⟨p,23,none⟩=some (.int .i64 a.Qf):=by rw[y' z.ks.blk,z.ks.at']
 have f23:w.frozen? ⟨p,23,none⟩=false:=H' (i:=23) z.ks.blk;obtain⟨t2,G⟩:=exq (a.Qf+1);rw[<-G];have aa:=m' G;have H:=m' (z12 z (z12 hs I));clear z I hs M G;unfold D' at *;go_enter func53,ntmps53;go_upto_region 2 with fail;refine G' (fun x=>Ja w x p g t2 a.Qd a.fenced free sh st c) ?_ ?_
 ·rw[show((a.Qf:Int)+1)=((t2:Nat):Int) by have:=d' aa;omega];exact fY' (d' H).1 t2
 clear Z f23;rintro x hst;obtain⟨c1,F,O,Q,s1,V⟩:=hst;have d25:x.cell? ⟨p,25,none⟩=some (.bool true):=by rw[y' F.ks.blk,F.ks.ae,J]
 have ab:=m' (⟨c1,F,O,Q,s1,V⟩:Ja w x p g t2 a.Qd a.fenced free sh st c);clear F O Q s1 V;go_wp2;go_ret;exact⟨rfl,g,free,sh,pl,st,d' ab,(d' H).2.1.flags _ _ _,(d' H).2.2.flags t2 a.Qd a.fenced⟩
theorem mS' (F:Je w p g a.Qf a.Qd a.fenced free sh st c) (hs:Vq op st a free pl) (J:Js a st.Qe g free sh pl) (aE:a.Qf<=1000000000) (aa:a.Qa<=2147483647) (ab:a.fenced=false) (ac:a.Qd=false):
  Calls prog 53 #[D' p] w fun r ad=>∃lv ap x,r= .returned lv/\Zp op w x p a.tick.1 c/\Below x.heap.size x ad/\Qh x.heap.size ad lv ap (a.tick.2.map fun l=>⟨l.toArray⟩) (fun _=>False):=by
 have ah:a.tick=({a with Qf:=a.Qf+1},[Qb.bytes 1 a.Qa 0 0 []]):=by unfold Mq.Ag.tick;rw[if_neg (by rw[ab];decide),if_pos ac]
 rw[ah];simp only[List.map_cons,List.map_nil];have aq:w.cell? ⟨p,23,none⟩=some (.int .i64 a.Qf):=by rw[y' F.ks.blk,F.ks.at']
 have f23:w.frozen? ⟨p,23,none⟩=false:=H' (i:=23) F.ks.blk;obtain⟨t2,M⟩:=exq (a.Qf+1);rw[<-M];have au:=m' M;obtain⟨ep,G⟩:=exq (a.Qa);have av:st.Qe=ep:=by rw[G];exact J.ep
 rw[<-G]at aa ⊢;have ax:=fun y=>m' (fp' 1 ep 0 0 ⟨#[]⟩ y (oQ' ep aa));have O:=m' (z12 F (z12 hs J));have ay:=hs.dead;have az:=m' G;clear F J hs ah M G;unfold D' at *;go_enter func53,ntmps53;go_upto_region 2 with fail;refine G' (fun x=>Ja w x p g t2 a.Qd a.fenced free sh st c) ?_ ?_
 ·rw[show((a.Qf:Int)+1)=((t2:Nat):Int) by have:=d' au;omega];exact fY' (d' O).1 t2
 clear aq f23;rintro x hst;obtain⟨c1,z,ai,aj,s1,ak⟩:=hst;have d25:x.cell? ⟨p,25,none⟩=some (.bool false):=by rw[y' z.ks.blk,z.ks.ae,ab]
 have d24:x.cell? ⟨p,24,none⟩=some (.bool false):=by rw[y' z.ks.blk,z.ks.aw,ac]
 have d0:x.cell? ⟨p,0,none⟩=some (.pointer (some ⟨c1.s,0,none⟩)):=by rw[y' z.ks.blk,z.ks.a0];rfl
 have Q:=aL' z.stt;rw[ay]at Q;have aA:=m' Q;have V:=bW' z;rw[av]at V;have aB:=m' V;have aC:=m' (⟨c1,z,ai,aj,s1,ak⟩:Ja w x p g t2 a.Qd a.fenced free sh st c);clear z ai aj s1 ak Q V;unfold D' at *;go_wp2_with (first|(go_at_call 86;refine(d' aA).mono ?_;rintro r y ⟨rfl,Y⟩;obtain rfl:x=y:=Y.symm)|(go_at_call 66;refine(d' aB).mono ?_;rintro r y ⟨rfl,Y⟩;obtain rfl:x=y:=Y.symm)|(go_at_call 92;refine(d' (ax _)).mono ?_;rintro r v ⟨aF,rfl,H,Z⟩;obtain⟨aG,cap,rfl,_⟩:=H.shape;replace H:=m' H;replace Z:=m' Z));go_ret;have I:=d' Z;have aD:=d' H;have e:=d' az;subst e;have ao:x.heap.size<=v.heap.size:=by have:=I.size;first|omega|(simp at this;omega)
 exact⟨_,_,x,rfl,⟨g,free,sh,pl,st,d' aC,(d' O).2.1.flags _ _ _,(d' O).2.2.flags t2 a.Qd a.fenced⟩,(by first|exact I.alloc I.size _|exact(((z11 _ x).alloc (z13 _) _).trans (I.mono (by simp))).alloc ao _),gC' (z53 (aD.mono (by omega)) _) ao (z19 _ _)⟩
theorem oY' (Y:Je w p g a.Qf a.Qd a.fenced free sh st c) (hs:Vq op st a free pl) (az:Js a st.Qe g free sh pl) (bn:a.Qf<=1000000000) (aA:∀i,i < 3->(a.fl i).base+(a.fl i).kept.length < 4294967296) (aB:∀i,i < 3->∀x∈ (a.fl i).kept,x.1.size<=20/\x.2<=1000000000000) (ai:a.fenced=false) (aj:a.Qd=true):
  Calls prog 53 #[D' p] w fun r aN=>∃lv I,r= .returned lv/\tn' op w aN p a.tick.1 c lv I (a.tick.2.map fun l=>⟨l.toArray⟩):=by
 have aO:w.cell? ⟨p,23,none⟩=some (.int .i64 a.Qf):=by rw[y' Y.ks.blk,Y.ks.at']
 have f23:w.frozen? ⟨p,23,none⟩=false:=H' (i:=23) Y.ks.blk;obtain⟨t2,aa⟩:=exq (a.Qf+1);have ak:=rx' a;rw[nB' ai aj,<-aa]at ak;have aP:=m' ak;clear ak;rw[nB' ai aj,<-aa];have aQ:=m' aa;have aC:=fun(wr:World) (c2:Av) (J:Nat->List (Nat×Value)) (j:Nat) (hj:j < 3) (K:Je wr p g (bB' a t2 j).Qf (bB' a t2 j).Qd (bB' a t2 j).fenced free J st c2) (aR:Js (bB' a t2 j) st.Qe g free J pl)=>
  tf' K aR j hj (by show t2≠0;omega) (by show t2<= _;omega) (by rw[gp'];exact aA j hj) (by rw[gp'];exact aB j hj)
 have aS:=m' aC;have ao:=m' (z12 Y (z12 hs az));have aT:=hs.dead;clear Y az hs aa aC aA aB;unfold D' at *;go_enter func53,ntmps53;go_upto_region 2 with fail;refine G' (fun x=>Ja w x p g t2 a.Qd a.fenced free sh st c) ?_ ?_
 ·rw[show((a.Qf:Int)+1)=((t2:Nat):Int) by have:=d' aQ;omega];exact fY' (d' ao).1 t2
 clear aO f23;rintro x hst;obtain⟨c1,G,aD,aE,s1,ab⟩:=hst;have d25:x.cell? ⟨p,25,none⟩=some (.bool false):=by rw[y' G.ks.blk,G.ks.ae,ai]
 have d24:x.cell? ⟨p,24,none⟩=some (.bool true):=by rw[y' G.ks.blk,G.ks.aw,aj]
 have d0:x.cell? ⟨p,0,none⟩=some (.pointer (some ⟨c1.s,0,none⟩)):=by rw[y' G.ks.blk,G.ks.a0];rfl
 have ap:=aL' G.stt;rw[aT]at ap;have aF:=m' ap;have aG:=m' (⟨c1,G,aD,aE,s1,ab⟩:Ja w x p g t2 a.Qd a.fenced free sh st c);clear G aD aE s1 ab ap;unfold D' at *;go_wp2_with (go_at_call 86;refine(d' aF).mono ?_;rintro r y ⟨rfl,aU⟩;obtain rfl:x=y:=aU.symm);go_loopw[3,4,33] (fun v _ i wr=>∃j:Nat,j<=3/\i= .int .i64 j/\∃I c2 J,Qh w.heap.size wr v I (lB' a t2 j) (PaU p c2)/\Je wr p g (bB' a t2 j).Qf (bB' a t2 j).Qd (bB' a t2 j).fenced free J st c2/\Js (bB' a t2 j) st.Qe g free J pl/\Far (PaU p c) w wr/\(∀k,PaU p c2 k->PaU p c k\/w.heap.size<=k)/\c2.s=c.s/\c2.rv=c.rv) (fun _ _ i _=>3 - (intOf i).toNat)
 case atStart=>
  obtain⟨c2,aV,aW,aX,s1,ab⟩:=d' aG;refine⟨0,by omega,rfl,[],c2,sh,⟨rfl,z27 _ _ _ _,(fun j v hj=>by simp at hj),(fun i j u v hi=>by simp at hi),fun k hk=>?_⟩,aV,?_,aW,aX,s1,ab⟩
  ·rcases hk with h|⟨j,hj,_⟩
   ·cases h
   ·simp at hj
  ·rw[qW'];exact(d' ao).2.2.flags t2 a.Qd a.fenced
 case round=>
  obtain⟨j,hj,rfl,I,c2,J,z,M,V,F,H,O,Q⟩:=hrel;clear aG aF d0 d24 d25;by_cases aY:j < 3
  ·have aH:=m' ((d' aS) wr c2 J j aY M V);have bo:(0:Int)<=(j:Int):=(by omega);have aI:(j:Int) < 3:=(by omega);have aZ:=lE' a t2 j;have bp:=lD' (bB' a t2 j) j (bB' a t2 j).Qf;obtain⟨n1,aq⟩:=exq (I.length);have bq:n1<=8:=(by have:=z.len;omega);have ba:=m' aq;have br:=F.size;have ac:=z.row;rw[<-aq]at ac;obtain⟨ad,cap,rfl,_⟩:=(bq' ac).shape;have bb:=m' ac;clear ac aq aZ;have Z:=m' (z12 z (z12 M (z12 F (z12 H (z12 O Q)))));clear z M V F H O Q;unfold D' at aH;go_upto_region 10 with fail;go_upto_region 11 with (first
    |(go_at_call 93;(refine(d' aH).mono ?_;rintro r y ⟨bt,au,c3,bc,rfl,k1,k2,k3,k4,k5,k6,k7⟩;obtain⟨n2,av⟩:=exq (au.length);have bu:n2<=4:=(by have:=k1.len;omega);have ah:=k1.row;rw[<-av]at ah;have bd:=m' av;have bw:=k4.size;obtain⟨be,bf,bg,_⟩:=(bq' ah).shape;subst bg;have bh:=m' ah;clear ah av;have ax:=m' (z12 k1 (z12 k2 (z12 k3 (z12 k4 (z12 k5 (z12 k6 k7))))));clear k1 k2 k3 k4 k5 k6 k7))
    |(at_builtin;(refine lC' rfl (.tmp 36) (.tmp 39) 38 rfl w.heap.size 44 (.slice none 0 0) 1 24 underlying38 (by kernel_rfl) rfl (by decide) (.slice ad n1 cap) n1 I (L' (d' bb) (fun k hk=>(d' ax).2.2.2.1.rest k ((d' Z).1.lt k (.inl hk)).2 ((d' Z).1.clear k (.inl hk)))) rfl wr.heap.size (.slice be n2 bf) n2 au (d' bh) rfl (d' ax).1.one (by unfold maxLen;omega) (by omega) (by omega) ?_;intro v' w1 ay aJ aK;obtain⟨bz,bA,bi,_⟩:=(bq' ay).shape;subst bi;have bj:=m' (z12 ay (z12 aJ aK));clear ay aJ aK)))
   go_wp2;go_roundw
   case rel=>
    obtain⟨z,M,F,H,O,Q⟩:=d' Z;obtain⟨k1,k2,k3,k4,k5,k6,k7⟩:=d' ax;obtain⟨bk,aL,bl⟩:=d' bj;have hF:=mN' (lv:= .slice ad n1 cap) z k1 k4 k5 k2.lt F.size (by rw[<-d' ba,<-d' bd];exact bk) aL bl;have bm:∀k,PaU p c3 k->¬ (Value.slice ad n1 cap).ownBlock=some k:=fun k hu e=>by
     have h1:=z.lt k (.inl e);rcases k5 k hu with h2|h2
     ·exact z.clear k (.inl e) h2
     ·omega
    have aM:=ba' aL;refine⟨j+1,by omega,by go_num,I++au,c3,bc,?_,k2.far aM (fun k hu e=>bm k hu (by simpa using e)),?_,(F.trans k4 (fun k hk hu=>?_)).trans aM (fun k hk e=>?_),fun k hu=>?_,k6.trans O,k7.trans Q⟩
    ·rw[jK'];exact hF
    ·have:=k3;rw[show(bB' a t2 j).Qf=t2 from rfl,qV']at this;exact this
    ·rcases H k hu with h|h
     ·exact h
     ·omega
    ·have:=(z.lt k (.inl (by simpa using e))).1;omega
    ·rcases k5 k hu with h|h
     ·exact H k h
     ·exact .inr (by omega)
   case measure=>simp[intOf];omega
  ·have aI:j=3:=(by omega);subst aI;have Z:=m' (z12 z (z12 M (z12 V (z12 F (z12 H (z12 O Q))))));obtain⟨ad,cap,rfl,_⟩:=(bq' z.row).shape;clear z M V F H O Q;go_wp2;go_ret;obtain⟨z,M,V,F,H,O,Q⟩:=d' Z;exact⟨_,I,rfl,c2,z,⟨g,free,J,pl,st,M,(d' ao).2.1.same (fun i _=>(d' aP) i),V⟩,F,H,O,Q⟩
end
variable{u O:World}{c:Value}{t:List Value}{T:List z10}
theorem nI' (h:Zp w p u a y aZ) (hb:Below u.heap.size u O) (F:Qh u.heap.size O c t T (fun _=>False)):tn' w p O a y aZ c t T:=by
 obtain⟨g,free,sh,G,st,⟨H,K,z,N,s1,I⟩,hs,J⟩:=h;exact⟨H,F.up z.size K.lt,⟨g,free,sh,G,st,K.below hb,hs,J⟩,z.trans (C' hb) (fun _ _ h=>h),N,s1,I⟩
section
variable {w:World} {p:Nat} {g:Nat->Nat} {free:List Nat} {sh:Nat->List (Nat×Value)} {st:Mq.Stv} {c:Av} {a:Mq.Ag} {pl:Nat->List Nat} {op:Nat}
theorem ry' {N:Nat} (G:Je w p g a.Qf a.Qd a.fenced free sh st c) (hs:Vq op st a free pl) (H:Js a st.Qe g free sh pl) (z:Jn N a) (Y:N < 1000000000):
  Calls prog 53 #[D' p] w fun r I=>∃lv J,r= .returned lv/\tn' op w I p a.tick.1 c lv J (a.tick.2.map fun l=>⟨l.toArray⟩):=by
 have M:a.Qf<=1000000000:=by have:=z.tk;omega
 cases F:a.fenced with
 |true=>
  refine(lN' G hs H M F).mono ?_;rintro r I ⟨rfl,h⟩;have V:a.tick.2=[]:=by unfold Mq.Ag.tick;rw[if_pos F]
  rw[V];exact⟨_,[],rfl,nI' h (z11 _ _) ⟨rfl,z27 _ _ _ _,(fun j v hj=>by simp at hj),(fun i j u v hi=>by simp at hi),fun k hk=>fun h=>h⟩⟩
 |false=>
  cases O:a.Qd with
  |false=>refine(mS' G hs H M z.ep F O).mono ?_;rintro r I ⟨lv,J,x,rfl,h1,h2,h3⟩;exact⟨lv,J,rfl,nI' h1 h2 h3⟩
  |true=>exact oY' G hs H M (fun i hi=>by have:=z.sum i hi;omega) (fun i hi x Q=>⟨(z.bod i hi x Q).1,by have:=(z.bod i hi x Q).2;omega⟩) F O
end
def jc' (w:World) (v:Nat) (a:Mq.Ag) (U:Nat->Prop):Prop:=ir' a.Qa (1+gt' a) 0 w v a U
section
variable {N:Nat} {w w':World} {v:Nat} {a:Mq.Ag} {U:Nat->Prop}
theorem jd' {op ct z n:Nat} (h:ir' op ct n w v a U) (F:ct<=z):ir' op z n w v a U:=by
 obtain⟨p,g,free,sh,G,st,c,hb,H,hs,I,rfl⟩:=h;exact⟨p,g,free,sh,G,st,c,hb,H,⟨hs.dead,hs.arm,hs.op,z26 hs.ct F,hs.dk⟩,I,rfl⟩
theorem yz' {p:Nat} {c:Av} {z:World} {a':Mq.Ag} (hb:w.heap[v]? =some (.cells #[D' p] 90 (0,0))) (G:¬PaU p c v) {op:Nat} (H:a'.Qa=op) (h:Zp op w z p a' c):
  ∃U',jc' z v a' U'/\Far (fun k=>k=v\/PaU p c k) w z/\∀k,U' k->(k=v\/PaU p c k)\/w.heap.size<=k:=by
 subst H;obtain⟨g,free,sh,I,st,⟨J,K,F,M,s1,Q⟩,hs,O⟩:=h;refine⟨_,⟨p,g,free,sh,I,st,J,F.blk hb G,K,hs,O,rfl⟩,F.mono (fun _ _ h=> .inr h),?_⟩;rintro k (rfl|hk)
 ·exact .inl (.inl rfl)
 ·exact(M k hk).imp .inr id
theorem vk' (z:Jn N a) (F:N < 1000000000):gt' a<=12884901882:=tR' (fun i hi=>by have:=z.sum i hi;omega)
variable{M:Int}{o:z10}
theorem rz' (h0:a.Jy M o.size=0):1+gt' a+1<=1+gt' (bg' a M o)/\(bg' a M o).Qa=a.Qa:=by
 obtain⟨⟨h1,h2⟩,h3,h4⟩:=np' h0;obtain⟨m,rfl⟩:=z73 h1;have z:m < 3:=by omega
 have:bg' a (m:Int) o=a.Xi m o:=by unfold bg';rw[if_pos h0];rfl
 rw[this];refine⟨?_,rfl⟩;obtain rfl|rfl|rfl:m=0\/m=1\/m=2:=by omega
 all_goals
  simp[gt',Mq.Ag.Xi,Mq.upd];omega
theorem cySubmit {op ct n:Nat} (i:Int) (s:z10) (h:ir' op ct n w v a U) (M:Jn N a) (Y:N < 1000000000) (O:ct+1000 < 18446744073709551616) (hn:n≠1):
  Calls prog 21 #[D' v, .int .i64 i, .string s] w fun r w'=>
   ∃U' z,r= .returned (.int .i64 (a.Jy i s.size))/\(n=0->z=0)/\ir' op (ct+1) z w' v (bg' a i s) U'/\Far U w w'/\∀k,U' k->U k\/w.heap.size<=k:=by
 obtain⟨p,g,free,sh,Q,st,c,hb,F,hs,G,rfl⟩:=h;have c0:w.cell? ⟨v,0,none⟩=some (D' p):=y' (i:=0) hb;have I:Calls prog 52 #[D' p, .int .i64 i, .string s] w fun r H=>r= .returned (.int .i64 (a.Jy i s.size))/\∃z,(n=0->z=0)/\yV' op (ct+1) z w H p (bg' a i s) c:=by
  unfold bg';by_cases h0:a.Jy i s.size=0
  ·rw[if_pos h0];obtain⟨⟨h1,h2⟩,h3,h4⟩:=np' h0;obtain⟨m,rfl⟩:=z73 h1;refine(ys' F hs O hn G (i:=m) (by omega) s h3 h4 (by have:=M.sum m (by omega);omega)).mono ?_;rintro r H ⟨rfl,h⟩;exact⟨by rw[h0],n - 1,by omega,h⟩
  ·rw[if_neg h0];refine(oS' F hs.dead G i s h0).mono ?_;rintro r H ⟨rfl,rfl⟩;exact⟨rfl,n,id,g,free,sh,Q,st,qz' F,⟨hs.dead,hs.arm,hs.op,Nat.le_succ_of_le hs.ct,hs.dk⟩,G⟩
 have V:=m' I;have J:=m' (And.intro hb (wY' F hb));generalize bg' a i s=a2 at *;generalize a.Jy i s.size=e at *;clear F G hs hb I;unfold D' at *;go_enter func21,ntmps21;go_wp2_with (go_at_call 52;refine(d' V).mono ?_;rintro r y ⟨rfl,z,k0,k1⟩;replace k1:=m' k1;replace k0:=m' k0);go_ret;obtain⟨U',h1,h2,h3⟩:=Aw' (d' J).1 (d' J).2 (d' k1);exact⟨U',z,rfl,d' k0,h1,h2,h3⟩
theorem xp' (i:Int) (s:z10) (h:jc' w v a U) (G:Jn N a) (H:N < 1000000000):
  Calls prog 21 #[D' v, .int .i64 i, .string s] w fun r w'=>
   ∃U',r= .returned (.int .i64 (a.Jy i s.size))/\jc' w' v (bg' a i s) U'/\Far U w w'/\∀k,U' k->U k\/w.heap.size<=k:=by
 by_cases h0:a.Jy i s.size=0
 ·obtain⟨J,M⟩:=rz' h0;refine(cySubmit i s h G H (by have:=vk' G H;omega) (by omega)).mono ?_;rintro r y ⟨U',Y,rfl,k0,k1,k2,k3⟩;obtain rfl:=k0 rfl;refine⟨U',rfl,?_,k2,k3⟩;unfold jc';rw[M];exact jd' k1 J
 ·obtain⟨p,g,free,sh,O,st,c,hb,z,hs,F,rfl⟩:=h;have c0:w.cell? ⟨v,0,none⟩=some (D' p):=y' (i:=0) hb;have I:=oS' z hs.dead F i s h0;have e:bg' a i s=a:=by unfold bg';rw[if_neg h0]
  rw[e];have Q:=m' I;have V:=m' (⟨p,g,free,sh,O,st,c,hb,z,hs,F,rfl⟩:jc' w v a (fun k=>k=v\/PaU p c k));generalize a.Jy i s.size=e at *;clear z F hs hb I h0;unfold D' at *;go_enter func21,ntmps21;go_wp2_with (go_at_call 52;refine(d' Q).mono ?_;rintro r y ⟨rfl,rfl⟩);go_ret;exact⟨_,rfl,d' V,Far.refl _ _,fun k hk=> .inl hk⟩
theorem nJ' (a:Mq.Ag) (l:List UInt8):(bu' a l).2.Qa=a.Qa:=by
 unfold bu';split
 ·unfold Mq.Ag.Qx;repeat' split
  all_goals rfl
 ·rfl
theorem tS' (a:Mq.Ag):a.tick.1.Qa=a.Qa:=by
 unfold Mq.Ag.tick;repeat' split
 all_goals rfl
theorem vl' (bs:Value) (l:List UInt8) (h:jc' w v a U) (I:Jn N a) (O:N < 1000000000) (F:Qn w bs l):
  Calls prog 28 #[D' v,bs] w fun r w'=>
   ∃U',r= .returned (.int .i64 (bu' a l).1)/\jc' w' v (bu' a l).2 U'/\Far U w w'/\∀k,U' k->U k\/w.heap.size<=k:=by
 obtain⟨p,g,free,sh,Q,st,c,hb,z,hs,G,rfl⟩:=h;have c0:w.cell? ⟨v,0,none⟩=some (D' p):=y' (i:=0) hb;have J:=m' (lM' z hs G (fun i hi=>by have:=I.sum i hi;omega) bs l F);have M:=m' (nJ' a l);have H:=m' (z12 hb (wY' z hb));generalize (bu' a l).2=a2 at *;generalize (bu' a l).1=e at *;clear z G hs hb F;unfold D' at *;go_enter func28,ntmps28;go_wp2_with (go_at_call 57;refine(d' J).mono ?_;rintro r y ⟨rfl,k1⟩;replace k1:=m' k1);go_ret;obtain⟨U',h1,h2,h3⟩:=yz' (d' H).1 (d' H).2 (d' M) (d' k1);exact⟨U',rfl,h1,h2,h3⟩
theorem zZ' (h:jc' w v a U) (J:Jn N a) (M:N < 1000000000):
  Calls prog 24 #[D' v] w fun r w'=>
   ∃lv z U',r= .returned lv/\Qh w.heap.size w' lv z (a.tick.2.map fun l=>⟨l.toArray⟩) U'/\jc' w' v a.tick.1 U'/\Far U w w'/\∀k,U' k->U k\/w.heap.size<=k:=by
 obtain⟨p,g,free,sh,ai,st,c,hb,F,hs,G,rfl⟩:=h;have c0:w.cell? ⟨v,0,none⟩=some (D' p):=y' (i:=0) hb;have O:=m' (ry' F hs G J M);have aj:=z14 hb;have Q:=m' (z12 hb (wY' F hb));have V:=m' (tS' a);generalize a.tick.1=a2 at *;generalize a.tick.2=fr at *;clear F G hs hb;unfold D' at *;go_enter func24,ntmps24;go_wp2_with (go_at_call 53;refine(d' O).mono ?_;rintro r y ⟨lv,z,rfl,k1⟩;replace k1:=m' k1);go_ret;obtain⟨H,k1,⟨g2,free2,Y,Z,aa,K,ab,ac⟩,I,ad,s1,ak⟩:=d' k1;obtain⟨hb,ah⟩:=d' Q;refine⟨lv,z,fun k=>k=v\/PaU p H k,rfl,k1.apartU ?_,⟨p,g2,free2,Y,Z,aa,H,I.blk hb ah,K,by rw[d' V];exact ab,ac,rfl⟩,I.mono (fun _ _ h=> .inr h),?_⟩
 ·rintro k hk (rfl|hu)
  ·have:=(k1.lt k hk).1;omega
  ·exact k1.clear k hk hu
 ·rintro k (rfl|hk)
  ·exact .inl (.inl rfl)
  ·exact(ad k hk).imp .inr id
theorem At' (h:jc' w v a U):∃ (L:List UInt8) (c2 hd:Nat) (free:List Nat) (z:Nat->List Nat),Mq.Xp L a.Qa c2 hd a free z/\Mq.Xn a free z/\∀x,Below w.heap.size w x->∀F:Int,
  Calls prog 29 #[D' v, .int .u64 F] x fun r y=>∃v',r= .returned v'/\Qt x.heap.size y v' L/\Below x.heap.size x y:=As' h
theorem Aa' (bs:Value) (L:List UInt8) {c2 hd:Nat} {free:List Nat} {z:Nat->List Nat} (F:Qn w bs L) (D:Mq.Xp L a.Qa c2 hd a free z) (P:Mq.Xn a free z) (G:a.Qa<=1073741824) (H:∀i,i < 3->(a.fl i).base+(a.fl i).kept.length<=1073741824):
  Calls prog 37 #[bs] w fun r w'=>∃v U,r= .returned (.tuple #[D' v, .int .i64 0])/\jc' w' v (Mq.Yj a) U/\Below w.heap.size w w'/\∀k,U k->w.heap.size<=k:=by
 refine(zY' bs L F D P rfl G H).mono ?_;rintro r y ⟨v,U,rfl,k1,k2,k3⟩;exact⟨v,U,rfl,jd' k1 (by omega),k2,k3⟩
theorem rA' (bs:Value) (z:Qn w bs (List.replicate 1664 0)):
  Calls prog 37 #[bs] w fun r w'=>
   ∃v U,r= .returned (.tuple #[D' v, .int .i64 0])/\jc' w' v {Qa:=1,Qf:=0,Qd:=false,fenced:=false,fl:=fun _=>{base:=0,kept:=[],held:=[]}} U/\Below w.heap.size w w'/\∀k,U k->w.heap.size<=k:=by
 refine(rt' bs z).mono ?_;rintro r y ⟨v,U,rfl,k1,k2,k3⟩;exact⟨v,U,rfl,jd' k1 (by omega),k2,k3⟩
end
structure Ab' (top:Nat) where
 C:aW' top
 img:∀ {w v a U},C.At w v a U->∃ (L:List UInt8) (c2 hd:Nat) (free:List Nat) (pl:Nat->List Nat),Mq.Xp L a.Qa c2 hd a free pl/\Mq.Xn a free pl/\∀x,Below w.heap.size w x->∀keep:Int,
  Calls prog 29 #[D' v, .int .u64 keep] x fun r y=>∃v',r= .returned v'/\Qt x.heap.size y v' L/\Below x.heap.size x y
 again:∀ {w} {a:Mq.Ag} (bs:Value) (L:List UInt8) {c2 hd:Nat} {free:List Nat} {pl:Nat->List Nat},Qn w bs L->Mq.Xp L a.Qa c2 hd a free pl->Mq.Xn a free pl->a.Qa<=1073741824->(∀i,i < 3->(a.fl i).base+(a.fl i).kept.length<=1073741824)->
  Calls prog 37 #[bs] w fun r w'=>∃v U,r= .returned (.tuple #[D' v, .int .i64 0])/\C.At w' v (Mq.Yj a) U/\Below w.heap.size w w'/\∀k,U k->w.heap.size<=k
def by':Ab' 1000000000 where
 C:={
  At:=jc'
  lt:=yw'
  far:=xj'
  Xi:=xp'
  Qx:=vl'
  tick:=zZ'
  Qa:=fun h=>rf' (lJ' h)
  Zx:=fun i h=>rg' i (lJ' h)
  opened:=rA'}
 img:=At'
 again:=Aa'
def opS (a:Mq.Ag) (s:Nat):Mq.Ag:={Qa:=a.Qa+1,Qf:=0,Qd:=false,fenced:=false,fl:=fun t=>if t < s then(Mq.Yj a).fl t else {base:=0,kept:=[],held:=[]}}
def opI (a:Mq.Ag) (s i:Nat):Mq.Ag:={opS a s with fl:=Mq.upd (opS a s).fl s {base:=(a.fl s).base,kept:=((a.fl s).kept.take i).map fun x=>(x.1,0),held:=[]}}
theorem xq' (a:Mq.Ag) (s:Nat):(opS a s).fl s={base:=0,kept:=[],held:=[]}:=by simp[opS]
theorem rB' (a:Mq.Ag) (s i:Nat):(opI a s i).fl s={base:=(a.fl s).base,kept:=((a.fl s).kept.take i).map fun x=>(x.1,0),held:=[]}:=by simp[opI,Mq.Ql]
theorem vm' (a:Mq.Ag) (s:Nat):{opS a s with fl:=Mq.upd (opS a s).fl s {(opS a s).fl s with base:=(a.fl s).base}}=opI a s 0:=by
 unfold opI;rw[xq'];rfl
variable{o:z10}
theorem xr' (a:Mq.Ag) (s i:Nat) (h:(a.fl s).kept[i]? =some (o,w)):
  {opI a s i with fl:=Mq.upd (opI a s i).fl s {(opI a s i).fl s with kept:=(((a.fl s).kept.take i).map fun x=>(x.1,0))++[(o,0)]}}=opI a s (i+1):=by
 rw[rB'];unfold opI;simp only[et'];rw[sC',h];simp
theorem yA' (a:Mq.Ag) (hs:w < 3):opI a w (a.fl w).kept.length=opS a (w+1):=by
 unfold opI opS;simp only[List.take_length,Mq.Ag.mk.injEq,true_and];funext t;unfold Mq.upd;by_cases h:t=w
 ·subst h;simp[Mq.Yj,hs]
 ·by_cases h2:t < w
  ·simp[h,h2,show t < w+1 by omega]
  ·simp[h,h2,show ¬t < w+1 by omega]
theorem vn' (a:Mq.Ag):opS a 3=Mq.Yj a:=by
 unfold opS Mq.Yj;simp only[Mq.Ag.mk.injEq,true_and];funext t;by_cases h:t < 3
 ·simp[h]
 ·simp[h]
def lO':Nat->Value:=fun _=> .slice none 0 0
def rC' (B:Nat) (C:Array Value) (T:TypeId) (v:Value) (z:World):Prop:=∃g,v= .pointer (some ⟨g,0,none⟩)/\B<=g/\z.heap[g]? =some (.cells C T (0,0))
theorem is' (B:Nat) (C:Array Value) (T:TypeId):bm' (rC' B C T):=fun _ _ _ h hb=>by
 obtain⟨g,e,h1,h2⟩:=h;exact⟨g,e,h1,(hb.block g (z14 h2)).trans h2⟩
def Ac' (B:Nat) (C:Array Value) (T:TypeId) (v:Value) (z:World):Prop:=∃g,v= .slice (some ⟨g,0,none⟩) 1 1/\B<=g/\z.heap[g]? =some (.cells C T (0,0))
theorem rD' (B:Nat) (C:Array Value) (T:TypeId):bm' (Ac' B C T):=fun _ _ _ h hb=>by
 obtain⟨g,e,h1,h2⟩:=h;exact⟨g,e,h1,(hb.block g (z14 h2)).trans h2⟩
variable{l:Array Value}{j:TypeId}{D:Nat -> Prop}
theorem iu' (z:∀k,D k->k < w):bP' D (Ac' w l j):=fun _ _ _ h hF=>by
 obtain⟨g,e,h1,h2⟩:=h;exact⟨g,e,h1,hF.blk h2 (fun h=>by have:=z g h;omega)⟩
def Ad' (w0:World) (fv:Value) (T:TypeId) (size n:Nat) (xs:List Value) (v:Value) (w:World):Prop:=Qi w T size v n xs/\Loc w0 fv v/\w0.heap.size<=w.heap.size
theorem rE' (w0:World) (fv:Value) (T:TypeId) (size n:Nat) (xs:List Value):bm' (Ad' w0 fv T size n xs):=fun _ _ _ h hb=>
 ⟨h.1.far (C' (E:=fun _=>False) hb) (fun _ _ h=>h),h.2.1,z26 h.2.2 hb.size⟩
theorem oZ' (F:∀k,D k->k < p.heap.size/\c.ownBlock≠some k):bP' D (Ad' p c j w a t):=fun _ _ _ h hF=>
 ⟨h.1.far hF (fun g z G=>by
  rcases h.2.1 with h1|h1|⟨g',h1,h2⟩
  ·rw[h1]at z;cases z
  ·rw[h1]at z;exact(F g G).2 z
  ·rw[h1]at z;injection z with z;have:=(F g G).1;omega),h.2.1,z26 h.2.2 hF.size⟩
theorem iv':∀ {l:List (z10×Nat)} {j:Nat} {b:z10} {n:Nat},l[j]? =some (b,n)->(aK' l)[j * 2]? =some (.string b)
 |[],j,_,_,h=>by simp at h
 |x::l,0,b,n,h=>by simp at h;subst h;rfl
 |x::l,j+1,b,n,h=>by simp at h;have:=iv' h;rw[show(j+1) * 2=j * 2+2 by omega];simpa[aK']using this
variable{H:ah'}{b z:Nat -> Value}
theorem mT' (h:aU' p u w y H b z) (hb:Below u.heap.size u O):aU' p O w y H b z:=by
 obtain⟨F,G,R,I,N⟩:=h;exact⟨F,G,R.far (C' (E:=fun _=>False) hb) (fun _ _ h=>h),I.trans (C' (E:=fun _=>False) hb) (fun _ _ h=>h.elim),N⟩
theorem mU' (R:Qk p w y H b z) (bm:y.Qa<=100000000000000) (az:∃bO n c,H.ex= .slice bO n c):
  Calls prog 175 #[.pointer (some ⟨w,0,none⟩)] p fun e w'=>∃F ac ad,e= .returned (.pointer (some ⟨F,0,none⟩))/\Qk w' F (Mq.Yj y) {H with dead:=false} ac ad/\Below p.heap.size p w'/\∀k,aO' F ac ad k->p.heap.size<=k:=by
 obtain⟨aE,aF,aG,az⟩:=az;have c0:=y' (i:=0) R.blk;have bn:=y' (i:=14) R.blk;have bo:=y' (i:=15) R.blk;have bp:=y' (i:=16) R.blk;have bq:=y' (i:=17) R.blk;have aV:=y' (i:=18) R.blk;simp[ai']at c0 bn bo bp bq aV;have Y:=z14 R.blk;have bP:IntKind.i64.wrap ((y.Qa:Int)+1)=((y.Qa+1:Nat):Int):=by rw[z36];omega
 have aj:=m' R;have bQ:=m' bm;rw[az]at aV;have bR:=m' az;clear R bm az;go_enter func175,ntmps175;go_upto_region 1 with fail;refine ae'
  [Ep w 0,Ep w 0,Ep w 0,Ei y.Qa,Ei (y.Qa+1:Nat),
   Ep w 0,Ep w 0,Ep w 14,Ev (.agg #[.int .i64 H.g0, .int .i64 H.g1, .int .i64 H.g2]),
   Ep w 0,Ep w 0,Ep w 17,Ei H.st,
   Ep w 0,Ep w 0,Ep w 18,Ev (.slice aE aF aG),
   Ev (.agg #[.int .i64 (y.Qa+1:Nat), .int .i64 0, .bool false, .bool false, .bool false, .int .i64 0, .slice none 0 0, .slice none 0 0, .int .i64 0, .slice none 0 0, .slice none 0 0, .int .i64 0, .slice none 0 0, .slice none 0 0, .int .i64 H.g0, .int .i64 H.g1, .int .i64 H.g2, .int .i64 H.st, .slice aE aF aG]),
   rC' p.heap.size #[.int .i64 (y.Qa+1:Nat), .int .i64 0, .bool false, .bool false, .bool false, .int .i64 0, .slice none 0 0, .slice none 0 0, .int .i64 0, .slice none 0 0, .slice none 0 0, .int .i64 0, .slice none 0 0, .slice none 0 0, .int .i64 H.g0, .int .i64 H.g1, .int .i64 H.g2, .int .i64 H.st, .slice aE aF aG] 124,rC' p.heap.size #[.int .i64 (y.Qa+1:Nat), .int .i64 0, .bool false, .bool false, .bool false, .int .i64 0, .slice none 0 0, .slice none 0 0, .int .i64 0, .slice none 0 0, .slice none 0 0, .int .i64 0, .slice none 0 0, .slice none 0 0, .int .i64 H.g0, .int .i64 H.g1, .int .i64 H.g2, .int .i64 H.st, .slice aE aF aG] 124]
  [[0],[1006],[2007],[3008],[4009],[0],[6011],[7012],[8013],[0],[10015],[11016],[12017],[0],[14019],[15020],[16021],[5010,9014,13018,17022],[18023],[19024]] [7,8,9,10,11,12,13,14,15,16,17,18,19,20,21,22,23,24,25,4] [3,1,2,19,57] ?_ ?_ (hst:=by repeat' (first|exact V' _|exact is' _ _ _|exact trivial|apply z12))
 ·refine⟨?_,?_,?_,?_,?_,?_,?_,?_,?_,?_,?_,?_,?_,?_,?_,?_,?_,?_,?_,?_,trivial⟩;all_goals
   intro F x hb Z;have aW:=(hb.cell (p:=⟨w,0,none⟩) Y).trans c0;have cz:=(hb.cell (p:=⟨w,14,none⟩) Y).trans bn;have cA:=(hb.cell (p:=⟨w,15,none⟩) Y).trans bo;have cB:=(hb.cell (p:=⟨w,16,none⟩) Y).trans bp;have cC:=(hb.cell (p:=⟨w,17,none⟩) Y).trans bq;have cD:=(hb.cell (p:=⟨w,18,none⟩) Y).trans aV;have br:=hb.size;clear hb;simp[I']at Z;try go_simp
   try exact z11 _ _
  all_goals first
   |exact⟨rfl,z11 _ _⟩
   |(rw[bP];exact⟨rfl,z11 _ _⟩)
   |exact⟨(z11 _ _).alloc (z13 _) _,_,rfl,br,z19 x _⟩
   |exact⟨_,rfl,(z11 _ _).alloc (z13 _) _,_,rfl,br,z19 x _⟩
   |exact⟨_,rfl,z11 _ _,Z⟩
 ·intro f aX aa V;simp only[ag']at V;have hn:=V.2.2.2.2.2.2.2.2.2.2.2.2.2.2.2.2.2.2.2.1;obtain⟨F,aH,bt,bu⟩:=hn;clear V;simp only[O',aH];have bw:Qk aX F (opS y 0) {H with dead:=false} lO' lO':=⟨by rw[bu];simp only[ai',d' bR];rfl,fun _ _=>bb' _ _ _,fun _ _=>bb' _ _ _,fun s t _ _ _ g h=>(by cases h),fun s t _ _ _ g h=>(by cases h),by show y.Qa+1<=1000000000000000;have:=d' bQ;omega,z54 _,fun s _=>by simp[opS],fun s _=>by simp[opS],fun s _=>by simp[opS]⟩;have bS:=m' bw;have bT:=m' aa;have bU:=m' bt;clear bu aa bw aH bt;go_wp2;go_loopw[4] (fun i wr=>∃ (s:Nat) (ac ad:Nat->Value),s<=3/\i= .int .i64 s/\Qk wr F (opS y s) {H with dead:=false} ac ad/\Below p.heap.size p wr/\∀k,aO' F ac ad k->p.heap.size<=k) (fun i _=>3 - (intOf i).toNat)
  case atStart=>
   refine⟨0,lO',lO',by omega,rfl,d' bS,d' bT,?_⟩;rintro k (rfl|⟨s,_,h|h⟩)
   ·exact d' bU
   ·cases h
   ·cases h
  case round=>
   obtain⟨s,aY,aZ,hs,rfl,ab,aa,aI⟩:=hrel;by_cases G:s < 3
   ·have cE:(s:Int) < 3:=(by omega);obtain⟨d0,_,_⟩:=bR' (d' aj) s G;have d0:=(aa.cell (p:=⟨w,5+s * 3,none⟩) Y).trans d0;obtain⟨g0,_,_⟩:=bR' ab s G;have f0:=H' (i:=5+s * 3) ab.blk;have aJ:=z14 ab.blk;have bz:=z20 Y aa.size;have bA:=m' ab;have aK:=m' aa;have ba:=m' aI;clear ab aa aI;go_upto_region 5 with fail;refine ab'
     [Ep F 0,Ei s,Ep w 0,Ei s,Ep w 0,Ep w 5,Ep w (5+s * 3),Ep w (5+s * 3),Ei ((y.fl s).base),Ep F 0,Ep F 5,Ep F (5+s * 3),Ep F (5+s * 3),Et]
     [[3],[4],[0],[4],[3031],[5033],[6034,4032],[7035],[8036],[1029],[10038],[11039,2030],[12040],[13041,9037]] [30,31,32,33,34,35,36,37,38,39,40,41,42,0] [29,13,40]
     13 _ rfl rfl ?_ ?_
    ·refine⟨?_,?_,?_,?_,?_,?_,?_,?_,?_,?_,?_,?_,?_,trivial⟩;all_goals
      intro cF x hb Z;have aW:=(hb.cell (p:=⟨w,5+s * 3,none⟩) bz).trans d0;clear hb;simp[I']at Z;try go_simp
      try exact z11 _ _
     all_goals first
      |exact⟨rfl,z11 _ _⟩
      |skip
    ·intro f5 bB hb V;simp only[ag',List.take]at V;have bV:=V.2.2.2.2.2.2.2.2.1;have bW:=V.2.2.2.2.2.2.2.2.2.2.2.2.1;have bC:=(d' bA).far (C' (E:=fun _=>False) hb) (fun _ _ h=>h);have aW:=(hb.cell (p:=⟨F,5+s * 3,none⟩) aJ).trans g0;have bX:=(hb.frozen (p:=⟨F,5+s * 3,none⟩) aJ).trans f0;have au:=bC.baseStep s G (y.fl s).base ((d' aj).bs s G);rw[vm']at au;have aA:Below p.heap.size p (bB.setCell ⟨F,5+s * 3,none⟩ (.int .i64 ((y.fl s).base:Int))):=((d' aK).trans (hb.mono (d' aK).size)).trans ((Q' bB F (5+s * 3) _).below (z26 (d' aK).size hb.size) (fun k hk e=>by have:=(d' ba) F (.inl rfl);omega));have aB:=m' au;have aC:=m' aA;clear V hb bC au aA d0 g0 f0 bz aJ bA aK;simp only[O',bV,bW];go_simp;go_upto_region 6 with fail;refine G' (fun x=>Qk x F (opI y s 0) {H with dead:=false} aY aZ/\Below p.heap.size p x) ⟨d' aB,d' aC⟩ ?_;clear aW bX aB aC;rintro cG ⟨au,aA⟩;have aB:=m' au;have aC:=m' aA;clear au aA;go_wp2;go_loopw[5] (fun i wr=>∃ (j:Nat) (ac ad:Nat->Value),j<=(y.fl s).kept.length/\i= .int .i64 j/\Qk wr F (opI y s j) {H with dead:=false} ac ad/\Below p.heap.size p wr/\∀k,aO' F ac ad k->p.heap.size<=k) (fun i _=>(y.fl s).kept.length - (intOf i).toNat)
     case atStart=>exact⟨0,aY,aZ,by omega,rfl,d' aB,d' aC,d' ba⟩
     case round=>
      obtain⟨j,ah,bD,hj,rfl,O,ak,av⟩:=hrel;clear aB aC ba;obtain⟨cH,bE,ax,cI,cJ,aL⟩:=((d' aj).kept s G).shape;obtain⟨_,d1,_⟩:=bR' (d' aj) s G;have d1:=(ak.cell (p:=⟨w,5+s * 3+1,none⟩) Y).trans d1;rw[ax]at d1;obtain⟨ao,ai⟩:=exq ((y.fl s).kept.length);rw[<-ai]at hj aL d1 ax;have cK:ao<=24:=(by rw[ai];exact(d' aj).kl s G);by_cases bY:j < ao
      ·obtain⟨g,o,rfl,bF⟩:=aL (by omega);obtain⟨⟨ap,sn⟩,bb⟩:∃x,(y.fl s).kept[j]? =some x:=⟨_,z18 (by rw[<-ai];exact bY)⟩;have bc:=bF (j * 2) (by omega);rw[iv' bb]at bc;have bZ:g < p.heap.size:=((d' aj).kept s G).lt g (by rw[ax];rfl);have d2:=(ak.cell (p:=⟨g,o+j * 2,none⟩) bZ).trans bc;have ay:=O.kept s G;rw[rB']at ay;simp only at ay;obtain⟨X,aM⟩:=exq (((y.fl s).kept.take j).map fun x=>(x.1,(0:Nat)));have bd:X.length=j:=(by rw[aM,z43,z71,<-ai];omega);rw[<-aM,bd]at ay;obtain⟨aN,aO,be,_⟩:=ay.shape;obtain⟨_,bf,_⟩:=bR' O s G;rw[be]at bf;have aP:(ah s).ownBlock≠some F:=(O.kept s G).ne O.blk (by decide);have cL:p.heap.size<=F:=av F (.inl rfl);have bG:∀k,(ah s).ownBlock=some k->p.heap.size<=k:=fun k h=>av k (.inr ⟨s,G, .inl h⟩);have ca:∀k,(ah s).ownBlock=some k->k < wr.heap.size:=fun k h=>(O.kept s G).lt k h;have aJ:=z14 O.blk;have bH:=ak.size;have aQ:=m' O.blk;have cb:=m' ay;have bI:=m' be;have cc:=m' (z12 aM bd);have bg:=m' O;have aR:=m' ak;have aS:=m' av;have cd:=m' bb;have aT:=m' ai;have ce:=m' ax;have cf:(j:Int) < ao:=(by omega);clear bF aL ax bb ay aM bd O ak av be bc ai;go_upto_region 9 with fail;refine af'
        [Ep F 0,Ei s,Ep F 0,Ei s,Ep F 0,Ep F 5,Ep F (5+s * 3),Ep F (5+s * 3+1),Ev (.slice aN j aO),
         Ep w 0,Ei s,Ep w 0,Ep w 5,Ep w (5+s * 3),Ep w (5+s * 3+1),Ev (.slice (some ⟨g,o,none⟩) ao bE),Ei j,Ep g (o+j * 2),Ep g (o+j * 2),Ev (.string ap),
         Ev (.agg #[.string ap, .int .i64 0]),Ac' wr.heap.size #[.string ap, .int .i64 0] 242,Ad' wr (ah s) 242 2 (j+1) (aK' (X++[(ap,0)])),
         Ep F 0,Ep F 5,Ep F (5+s * 3),Ep F (5+s * 3+1),
         fun _ Q=>aU' wr Q F (opI y s (j+1)) {H with dead:=false} ah bD]
        [[3],[4],[3],[4],[3056],[5058],[6059,4057],[7060],[8061],[0],[4],[10063],[12065],[13066,11064],[14067],[15068],[5],[16069,17070],[18071],[19072],[20073],[21074],[9062,22075],[1054],[24077],[25078,2055],[26079],[27080,23076]] [55,56,57,58,59,60,61,62,63,64,65,66,67,68,69,70,71,72,73,74,75,76,77,78,79,80,81,0] [54,27,1]
        [(22,fun k=>(ah s).ownBlock=some k),(27,fun k=>k=F)] ?_ ?_ (hst:=by repeat' (first|exact V' _|exact rD' _ _ _|exact rE' _ _ _ _ _ _|exact(fun _ _ _ h hb=>mT' h hb)|exact trivial|apply z12)) (hstF:=by repeat' (first|exact trivial|exact .inl rfl|exact .inr (.inr (bj' _ _))|exact .inr (.inr (iu' (fun g J=>ca g J)))|exact .inr (.inr (iu' (fun g (J:g=F)=>by omega)))|exact .inr (.inr (oZ' (fun g (J:g=F)=>⟨by omega,by rw[J];exact aP⟩)))|exact .inr (.inl (show bJ' _ 27 22=true by decide+kernel))|apply z12))
       ·refine⟨?_,?_,?_,?_,?_,?_,?_,?_,?_,?_,?_,?_,?_,?_,?_,?_,?_,?_,?_,?_,?_,?_,?_,?_,?_,?_,?_,?_,trivial⟩;all_goals
         intro a' Q hb Z;have bh:=hb.size;have aD:=m' hb;clear hb;simp[I']at Z
        iterate 8
         ·go_simp;exact⟨_,rfl,Far.refl _ _,rfl⟩
        ·have d0:=(d' aD).blk (d' aQ) (by
          rintro⟨q,M,g1,g2,I⟩;simp at M;rcases M with rfl|rfl
          ·exact aP I
          ·exact absurd (show bJ' _ 27 8=false from g2) (by decide+kernel))
         have d1:Q.cell? ⟨F,5+s * 3+1,none⟩=some (.slice aN j aO):=(by rw[y' d0,<-y' (d' aQ)];exact bf);clear d0;go_simp;exact⟨_,rfl,Far.refl _ _,rfl⟩
        iterate 6
         ·go_simp;exact⟨_,rfl,Far.refl _ _,rfl⟩
        ·have bi:Below p.heap.size p Q:=(d' aR).trans ((d' aD).below (B:=p.heap.size) bH (fun k hk h=>by
          obtain⟨q,M,_,_,I⟩:=h;simp at M;rcases M with rfl|rfl
          ·have:=bG k I;omega
          ·have I:k=F:=I;omega))
         have d1:Q.cell? ⟨w,5+s * 3+1,none⟩=some (.slice (some ⟨g,o,none⟩) ao bE):=(by obtain⟨_,aU,_⟩:=bR' (d' aj) s G;have aU:=(bi.cell (p:=⟨w,5+s * 3+1,none⟩) Y).trans aU;rw[d' ce]at aU;exact aU);go_simp;exact⟨_,rfl,Far.refl _ _,rfl⟩
        iterate 3
         ·go_simp;exact⟨_,rfl,Far.refl _ _,rfl⟩
        ·have bi:Below wr.heap.size wr Q\/True:= .inr trivial;have d1:Q.cell? ⟨g,o+j * 2,none⟩=some (.string ap):=by
          have h1:=(d' aD).rest g (by omega) (by
           rintro⟨q,M,_,_,I⟩;simp at M;rcases M with rfl|rfl
           ·have:=bG g I;omega
           ·have I:g=F:=I;omega)
          exact(z39 h1).trans d2
         clear bi;go_simp;exact⟨_,rfl,Far.refl _ _,rfl⟩
        ·go_simp;exact⟨_,rfl,Far.refl _ _,rfl⟩
        ·go_simp;exact⟨_,rfl,C' ((z11 _ _).alloc (z13 _) _),_,rfl,bh,z19 Q _⟩
        ·have bJ:=(d' cb).far (d' aD) (by
          rintro g J ⟨q,M,g1,g2,I⟩;simp at M;rcases M with rfl|rfl
          ·exact g1 rfl
          ·have I:g=F:=I;exact aP (by rw[J,I]))
         obtain⟨cg,ch,cM,ci⟩:=Z.2;rw[d' bI]at bJ;refine cK' rfl (.tmp 62) (.tmp 75) 119 rfl 242 _ 2 24 underlying119 tG' rfl (.slice aN j aO) j (aK' X) bJ (by simp[Act.eval,Z]) ⟨cg,0,none⟩ 1 1 [.string ap, .int .i64 0] (by simp[Act.eval,ch]) rfl ?_ (by intro u hu;simp at hu;rcases hu with rfl|rfl <;> rfl) (by omega) (by omega) (by omega) ?_
         ·intro k u hk;rw[dG',y' ci,z44];simpa using hk
         ·intro v' w' k1 k2;rw[<-fB']at k1;have bj:=k2.grown;rw[<-d' bI]at bj k2;exact⟨v',rfl,an' (.head _) (ba' bj),k1,dy' bh k2,z26 bh bj.size⟩
        iterate 4
         ·go_simp;exact⟨_,rfl,Far.refl _ _,rfl⟩
        ·have bk:Far (fun k=>(ah s).ownBlock=some k) wr Q:=(d' aD).mono (by
          rintro k _ ⟨q,M,g1,g2,I⟩;simp at M;rcases M with rfl|rfl
          ·exact I
          ·exact absurd rfl g1)
         have d0:=bk.blk (d' aQ) aP;have f1:Q.frozen? ⟨F,5+s * 3+1,none⟩=false:=H' (i:=5+s * 3+1) d0;have d1:Q.cell? ⟨F,5+s * 3+1,none⟩=some (.slice aN j aO):=(by rw[y' d0,<-y' (d' aQ)];exact bf);obtain⟨cN,bl⟩:=Z;obtain⟨cj,ck,cl,_⟩:=bl.1.shape;have bK:=m' bl;have cm:=m' bk;clear bl d0 bk;rw[cl]at bK;go_simp;refine⟨an' (.tail _ (.head _)) (Q' Q F _ _),?_⟩;obtain⟨ab,O,_⟩:=d' bK;obtain⟨aX,bL⟩:=d' cc;have bM:=((d' bg).keptStep s G (x:=X++[(ap,0)]) (d' cm) (v':= .slice cj (j+1) ck) (fun g J=>by
          rcases O with h|h|⟨g',h,cO⟩
          ·rw[h]at J;cases J
          ·rw[h]at J;exact .inl J
          ·rw[h]at J;injection J with J;exact .inr (by omega)) (by rw[z35,bL];exact ab) (by rw[z35,bL];simp;omega)).2
         rw[aX,xr' y s j (d' cd)]at bM;exact bM
       ·intro f3 z3 cn V;have bN:=V.2.2.2.2.2.2.2.2.2.2.2.2.2.2.2.2.2.2.2.2.2.2.2.2.2.2.2.1;have cp:=m' bN;clear bN V cn;simp only[O'];go_wp2;go_roundw
        case rel=>
         obtain⟨cq,cr,aq,cs,cu⟩:=d' cp;refine⟨j+1,cq,cr,by have:=d' aT;omega,by go_num,aq,(d' aR).trans (cs.below bH (fun k hk h=>by have:=(d' aS) k h;omega)),fun k hk=>?_⟩;rcases cu k hk with h|h
         ·exact(d' aS) k h
         ·omega
        case measure=>have:=d' aT;simp[intOf];omega
      ·have cv:j=ao:=(by omega);have bg:=m' O;have aR:=m' ak;have aS:=m' av;have aT:=m' ai;clear O ak av ax aL ai;have cf:¬ (j:Int) < ao:=(by omega);go_wp2;go_roundw
       case rel=>have e:=d' aT;have aq:=d' bg;rw[cv,e,yA' y G]at aq;exact⟨s+1,by omega,by go_num,ah,bD,aq,d' aR,d' aS⟩
       case measure=>simp[intOf];omega
   ·have aH:s=3:=(by omega);subst aH;have cw:=m' ab;have cx:=m' aa;have cy:=m' aI;clear ab aa aI;go_wp2;go_ret;have aq:=d' cw;rw[vn']at aq;exact⟨F,aY,aZ,rfl,aq,d' cx,d' cy⟩
end Go.Proofs.YtamafdcnbcoegaaGreat
