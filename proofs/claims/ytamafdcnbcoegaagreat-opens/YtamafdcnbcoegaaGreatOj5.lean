/- Part 5. -/
import Derived.Laws.CopyOwn
import Derived.DeepKeys
import Derived.Laws.StructEq
import Derived.Test.YtamafdcnbcoegaaGreatOj4
set_option maxRecDepth 100000
set_option maxHeartbeats 40000000
namespace Go.Proofs.YtamafdcnbcoegaaGreat
attribute [local simp, local go_sem] Ev Ep Ei Eb Et
abbrev z93:= @Option.getD_some
abbrev iH':= @Go.wp_store_row
abbrev uB':= @List.map_drop
abbrev yb':= @List.getElem?_toArray
abbrev yc':= @List.map_congr_left
abbrev yd':= @Nat.lt_succ_self
abbrev z194:= @and_true
abbrev z201:= @List.cons.injEq
abbrev zz':= @List.drop_replicate
abbrev ye':= @Go.run_part_plain
abbrev zA':= @Go.run_equalIn_array
abbrev zB':= @Go.IntKind.wrap_u32
abbrev zC':= @List.take_append
open Go.RowKit Go.Proofs.Tryz
def aP' (a:Mq.Ag) (i:Int):List z10:=if 0<=i/\i < 3 then a.Zx i.toNat else []
variable{p:World}{w:Nat}{y:Mq.Ag}{H:ah'}{b z:Nat -> Value}
theorem mu' (R:Qk p w y H b z) (hd:H.dead=false) (i:Int):
  Calls prog 122 #[.pointer (some ⟨w,0,none⟩), .int .i64 i] p fun e w'=>∃v,e= .returned v/\w'.ownsRow p.heap.size 9 1 v (aP' y i).length (ao' (aP' y i))/\Below p.heap.size p w':=by
 unfold aP';by_cases h:0<=i/\i < 3
 ·rw[if_pos h];obtain⟨n,rfl⟩:=z73 h.1;exact pJ' R hd n (by omega)
 ·rw[if_neg h];have c4:=y' (i:=4) R.blk;simp[ai',hd]at c4;clear R hd;by_cases h0:i < 0
  ·go_enter func122,ntmps122;go_wp2;go_ret;exact⟨_,rfl,z27 _ _ _ _,z11 _ _⟩
  ·have h3:3<=i:=(by omega);go_enter func122,ntmps122;go_wp2;go_ret;exact⟨_,rfl,z27 _ _ _ _,z11 _ _⟩
def bu' (a:Mq.Ag) (l:List UInt8):Int×Mq.Ag:=
 if Qb.reads l=true then(0,a.Qx (Qb.Jr l) (Qb.Jm l) (Qb.Qu l) (Qb.Xt l) (Qb.Ju l))else(1,a)
def bg' (a:Mq.Ag) (i:Int) (s:z10):Mq.Ag:=if a.Jy i s.size=0 then a.Xi i.toNat s else a
structure aW' (top:Nat) where
 At:World->Nat->Mq.Ag->(Nat->Prop)->Prop
 lt:∀ {w v a U},At w v a U->∀k,U k->k < w.heap.size
 far:∀ {w w' v a U E},At w v a U->Far E w w'->(∀k,U k->¬E k)->At w' v a U
 Xi:∀ {w v a U N} (i:Int) (s:z10),At w v a U->Jn N a->N < top->Calls prog 21 #[D' v, .int .i64 i, .string s] w fun r w'=>
  ∃U',r= .returned (.int .i64 (a.Jy i s.size))/\At w' v (bg' a i s) U'/\Far U w w'/\∀k,U' k->U k\/w.heap.size<=k
 Qx:∀ {w v a U N} (bs:Value) (l:List UInt8),At w v a U->Jn N a->N < top->Qn w bs l->Calls prog 28 #[D' v,bs] w fun r w'=>
  ∃U',r= .returned (.int .i64 (bu' a l).1)/\At w' v (bu' a l).2 U'/\Far U w w'/\∀k,U' k->U k\/w.heap.size<=k
 tick:∀ {w v a U N},At w v a U->Jn N a->N < top->Calls prog 24 #[D' v] w fun r w'=>
  ∃lv fs U',r= .returned lv/\Qh w.heap.size w' lv fs (a.tick.2.map fun l=>⟨l.toArray⟩) U'/\At w' v a.tick.1 U'/\Far U w w'/\∀k,U' k->U k\/w.heap.size<=k
 Qa:∀ {w v a U},At w v a U->Calls prog 39 #[D' v] w fun r w'=>r= .returned (.int .i64 a.Qa)/\Below w.heap.size w w'
 Zx:∀ {w v a U} (i:Int),At w v a U->Calls prog 26 #[D' v, .int .i64 i] w fun r w'=>
  ∃lv,r= .returned lv/\w'.ownsRow w.heap.size 9 1 lv (aP' a i).length (ao' (aP' a i))/\Below w.heap.size w w'
 opened:∀ {w} (bs:Value),Qn w bs (List.replicate 1664 0)->Calls prog 37 #[bs] w fun r w'=>
  ∃v U,r= .returned (.tuple #[D' v, .int .i64 0])/\At w' v {Qa:=1,Qf:=0,Qd:=false,fenced:=false,fl:=fun _=>{base:=0,kept:=[],held:=[]}} U/\Below w.heap.size w w'/\∀k,U k->w.heap.size<=k
structure Jf {top:Nat} (C:aW' top) (N:Nat) (x:World) (q sv rp:Nat) (a:Mq.Ag) (r:ah') (kv hk:Nat->Value) (U:Nat->Prop) (left:Int):Prop where
 blk:x.heap[q]? =some (.cells #[D' sv,D' rp, .bool false, .int .i64 left] 128 (0,0))
 Xb:C.At x sv a U
 ref:Qk x rp a r kv hk
 dead:r.dead=false
 Vw:Jn N a
 qU:¬U q
 qR:¬aO' rp kv hk q
 UR:∀k,U k->¬aO' rp kv hk k
def ac' (q rp:Nat) (z hk:Nat->Value) (U:Nat->Prop) (k:Nat):Prop:=k=q\/aO' rp z hk k\/U k
section
variable {top N:Nat} {C:aW' top} {w x:World} {q sv rp:Nat} {a:Mq.Ag} {r:ah'} {kv hk:Nat->Value} {U:Nat->Prop} {left:Int} {E:Nat->Prop}
theorem Jf.far (h:Jf C N w q sv rp a r kv hk U left) (z:Far E w x) (F:∀k,ac' q rp kv hk U k->¬E k):Jf C N x q sv rp a r kv hk U left:=
 ⟨z.blk h.blk (F q (.inl rfl)),C.far h.Xb z (fun k G=>F k (.inr (.inr G))),h.ref.far z (fun k G=>F k (.inr (.inl G))),h.dead,h.Vw,h.qU,h.qR,h.UR⟩
theorem Jf.lt (h:Jf C N w q sv rp a r kv hk U left):∀k,ac' q rp kv hk U k->k < w.heap.size:=by
 rintro k (rfl|z|z)
 ·exact z14 h.blk
 ·exact h.ref.lt k z
 ·exact C.lt h.Xb k z
end
theorem jA' (w:World) (q sv rp:Nat) (left:Int) (h:w.heap[q]? =some (.cells #[D' sv,D' rp, .bool false, .int .i64 left] 128 (0,0))):
  Calls prog 171 #[.pointer (some ⟨q,2,none⟩)] w fun r w'=>r= .returned (.bool true)/\∃z,w'=w.setCell ⟨q,3,none⟩ (.int .i64 z):=by
 have c2:w.cell? ⟨q,2,none⟩=some (.bool false):=y' (i:=2) h;have c3:w.cell? ⟨q,3,none⟩=some (.int .i64 left):=y' (i:=3) h;have f3:=H' (i:=3) h;have c4:∀v,(w.setCell ⟨q,3,none⟩ v).cell? ⟨q,2,none⟩=some (.bool false):=fun v=>by have:=y' (i:=2) (aa' (j:=3) (v:=v) h);simpa using this
 clear h;go_enter func171,ntmps171;go_wp2;go_ret;exact⟨rfl,_,rfl⟩
structure AM {top:Nat} (C:aW' top) (w x:World) (q sv rp:Nat) (ar ap:Mq.Ag) (r:ah') (kv kvc hk hkc:Nat->Value) (U U':Nat->Prop) (left:Int) (f:Nat) (i:Int) (s:z10):Prop where
 far:Far (ac' q rp kv hk U) w x
 blk:x.heap[q]? =some (.cells #[D' sv,D' rp, .bool false, .int .i64 left] 128 (0,0))
 Xb:C.At x sv ap U'
 ref:Qk x rp ar r kvc hkc
 Wf:∀k,U' k->U k\/w.heap.size<=k
 Yi:∀k,aO' rp kvc hkc k->aO' rp kv hk k\/w.heap.size<=k
 qU:¬U' q
 qR:¬aO' rp kvc hkc q
 UR:∀k,U' k->¬aO' rp kvc hkc k
 b2:x.cell? ⟨f,2,none⟩=some (.int .i64 i)
 b3:x.cell? ⟨f,3,none⟩=some (.string s)
 fl:f < x.heap.size
 fw:¬ac' q rp kvc hkc U' f
section
variable {top N:Nat} {C:aW' top} {w x y:World} {q sv rp f:Nat} {a ar ap:Mq.Ag} {r:ah'} {kv kvc hk hkc:Nat->Value} {U U':Nat->Prop} {left:Int} {i:Int} {s:z10}
theorem AM.start (P:Jf C N w q sv rp a r kv hk U left) (hb:Below w.heap.size w x) (Q:w.heap.size<=f) (H:f < x.heap.size) (h2:x.cell? ⟨f,2,none⟩=some (.int .i64 i)) (h3:x.cell? ⟨f,3,none⟩=some (.string s))
  (O:C.At y sv ap U') (hF:Far U x y) (F:∀k,U' k->U k\/x.heap.size<=k):AM C w y q sv rp a ap r kv kv hk hk U U' left f i s:=by
 have G:=P.far (C' (E:=fun _=>False) hb) (fun _ _ h=>h);have z:=P.lt;have V:=hb.size;have I:¬U f:=fun h=>by have:=z f (.inr (.inr h));omega
 have J:=hF.rest f H I;refine⟨(C' (E:=ac' q rp kv hk U) hb).trans hF (fun k _ h=> .inr (.inr h)),hF.blk G.blk G.qU,O,G.ref.far hF (fun k hk hu=>G.UR k hu hk),fun k h=>(F k h).imp id (by omega),fun k h=> .inl h,?_,P.qR,?_,(z39 J).trans h2,(z39 J).trans h3,z20 H hF.size,?_⟩
 ·intro h;rcases F q h with h|h
  ·exact P.qU h
  ·have:=z q (.inl rfl);omega
 ·intro k h M;rcases F k h with h|h
  ·exact P.UR k h M
  ·have:=z k (.inr (.inl M));omega
 ·rintro(e|e|e)
  ·have:=z f (.inl e);omega
  ·have:=z f (.inr (.inl e));omega
  ·rcases F f e with h|h
   ·exact I h
   ·omega
theorem AM.below (T:AM C w x q sv rp ar ap r kv kvc hk hkc U U' left f i s) (hb:Below x.heap.size x y):AM C w y q sv rp ar ap r kv kvc hk hkc U U' left f i s:=by
 have z:Far (fun _=>False) x y:=C' hb;exact⟨T.far.trans z (fun _ _ h=>h.elim),z.blk T.blk (fun h=>h),C.far T.Xb z (fun _ _ h=>h),T.ref.far z (fun _ _ h=>h),T.Wf,T.Yi,T.qU,T.qR,T.UR,(hb.cell (p:=⟨f,2,none⟩) T.fl).trans T.b2,(hb.cell (p:=⟨f,3,none⟩) T.fl).trans T.b3,z20 T.fl hb.size,T.fw⟩
theorem AM.wrote (T:AM C w x q sv rp ar ap r kv kvc hk hkc U U' left f i s) (F:Int):AM C w (x.setCell ⟨q,3,none⟩ (.int .i64 F)) q sv rp ar ap r kv kvc hk hkc U U' F f i s:=by
 have z:=Q' x q 3 (.int .i64 F);have G:=z.rest f T.fl (fun e=>T.fw (.inl e));refine⟨T.far.trans z (fun k _ e=> .inl e),?_,C.far T.Xb z (fun k h e=>T.qU (e ▸ h)),T.ref.far z (fun k h e=>T.qR (e ▸ h)),T.Wf,T.Yi,T.qU,T.qR,T.UR,(z39 G).trans T.b2,(z39 G).trans T.b3,z20 T.fl z.size,T.fw⟩;have:=aa' (j:=3) (v:= .int .i64 F) T.blk;simpa using this
theorem AM.stepAt {J:Mq.Ag} {G H:Nat->Value} (T:AM C w x q sv rp ar ap r kv kvc hk hkc U U' left f i s) (O:Qk y rp J r G H) (z:Far (aO' rp kvc hkc) x y) (F:∀k,aO' rp G H k->aO' rp kvc hkc k\/x.heap.size<=k):AM C w y q sv rp J ap r kv G hk H U U' left f i s:=by
 have Q:=C.lt T.Xb;have Y:=z14 T.blk;have Z:=T.fl;have aa:=T.far.size;have M:=z.rest f T.fl (fun e=>T.fw (.inr (.inl e)));refine⟨T.far.trans z (fun k hk h=>(T.Yi k h).elim (fun h=> .inr (.inl h)) (fun h=>by omega)),z.blk T.blk T.qR,C.far T.Xb z T.UR,O,T.Wf,fun k h=>(F k h).elim (T.Yi k) (fun I=> .inr (by omega)),T.qU,fun h=>(F q h).elim T.qR (fun I=>by omega),fun k h V=>(F k V).elim (T.UR k h) (fun I=>by have:=Q k h;omega),
  (z39 M).trans T.b2,(z39 M).trans T.b3,z20 T.fl z.size,?_⟩
 rintro(e|e|e)
 ·exact T.fw (.inl e)
 ·exact(F f e).elim (fun h=>T.fw (.inr (.inl h))) (fun I=>by omega)
 ·exact T.fw (.inr (.inr e))
theorem AM.step {G:Mq.Ag} (T:AM C w x q sv rp ar ap r kv kvc hk hkc U U' left f i s) (H:aU' x y rp G r kvc hkc):∃z F,AM C w y q sv rp G ap r kv z hk F U U' left f i s:=by
 obtain⟨z,F,I,J,M⟩:=H;exact⟨z,F,T.stepAt I J M⟩
end
structure kQ' {top:Nat} (C:aW' top) (N:Nat) (w y:World) (q sv rp:Nat) (a':Mq.Ag) (r:ah') (kv hk:Nat->Value) (U:Nat->Prop):Prop where
 all:∃ (kvd hkd:Nat->Value) (U':Nat->Prop) (left:Int),Jf C N y q sv rp a' r kvd hkd U' left/\Far (ac' q rp kv hk U) w y/\∀k,ac' q rp kvd hkd U' k->ac' q rp kv hk U k\/w.heap.size<=k
variable{u:World}{a q r C:Nat}{cA fA:Nat -> Value}{D aH:Nat -> Prop}{M:Int}{o:z10}
theorem AM.done {N:Nat} {F:aW' w} {left:Int} (T:AM F p u a q r y y H b z cA fA D aH left C M o) (hd:H.dead=false) (G:Jn N y):kQ' F N p u a q r y H b cA D:=
 ⟨z,fA,aH,left,⟨T.blk,T.Xb,T.ref,hd,G,T.qU,T.qR,T.UR⟩,T.far,fun k h=>by
  rcases h with h|h|h
  ·exact .inl (.inl h)
  ·exact(T.Yi k h).imp (fun h=> .inr (.inl h)) id
  ·exact(T.Wf k h).imp (fun h=> .inr (.inr h)) id⟩
theorem oo' (a:Mq.Ag) (i:Int) (n:Nat):a.Jy i n=0\/a.Jy i n=5\/a.Jy i n=6\/a.Jy i n=7:=by
 unfold Mq.Ag.Jy;repeat' split
 all_goals simp
theorem np' (h:y.Jy M w=0):(0<=M/\M < 3)/\w<=20/\y.room < 24:=by
 unfold Mq.Ag.Jy at h;split at h
 ·simp at h
 ·split at h
  ·simp at h
  ·split at h
   ·simp at h
   ·omega
theorem mw' (C:aW' w) (z:World) (ab ac i:Int) (s:z10) (kp ad ah ai aj:Int) (ak:z10) (q sv rp:Nat) (F:Mq.Ag) (r:ah') (Z hk:Nat->Value) (U:Nat->Prop) (left:Int)
  (P:Jf C a z q sv rp F r Z hk U left) (aN:a < w):
  Calls prog 118 #[D' q,ap' ab ac i s kp ad ah ai aj ak] z fun x w'=>x= .returned (.bool true)/\kQ' C (a+1) z w' q sv rp (bg' F i s) r Z hk U:=by
 have ao:=m' P;have I:=z14 P.blk;have ap:=y' (i:=0) P.blk;obtain⟨rv,aq⟩:=exq (F.Jy i s.size);have aA:=fun(x:World) (hb:Below z.heap.size z x)=>by have:=C.Xi i s (P.far (C' (E:=fun _=>False) hb) (fun _ _ h=>h)).Xb P.Vw aN;rw[<-aq]at this;exact m' this
 have V:=m' aq;clear aq;have hd:=m' P.dead;clear P;simp at ap;unfold D' ap' at *;go_enter func118,ntmps118;go_upto_region 1 with fail;have au:=m' ((z11 z.heap.size z).alloc (z13 _) (.cells #[.int .i64 ab, .int .i64 ac, .int .i64 i, .string s, .int .u64 kp, .int .i64 ad, .int .i64 ah, .int .i64 ai, .int .i64 aj, .string ak] 86));refine bK'
  [Ep q 0,Ep q 0,Ep q 0,Ep sv 0,Ep z.heap.size 2,Ei i,Ep z.heap.size 3,Ev (.string s),Et,Et]
  [[0],[1008],[2009],[3010],[3],[5012],[3],[7014],[4011,6013,8015],[9016]]
  [9,10,11,12,13,14,15,16,17,6]
  [5,1,2,9,999]
  8 _ rfl ?_ ?_ ?_
 ·refine⟨?_,?_,?_,?_,?_,?_,?_,?_,trivial⟩;all_goals
   intro b x hb Y;have aB:=(d' au).trans (hb.mono (by simp));have bc:=(aB.cell (p:=⟨q,0,none⟩) I).trans ap;have b2:=bE' hb 2;have b3:=bE' hb 3;clear hb aB;simp at b2 b3;simp[I']at Y;try go_simp
   try exact z11 _ _
  all_goals first|exact⟨rfl,z11 _ _⟩|skip
 ·intro f x G;rfl
 ·intro f aO hb G;simp only[ag',List.take]at G;obtain⟨_,_,_,aP,_,aQ,_,aR,_⟩:=G;have av:=m' ((d' au).trans (hb.mono (by simp)));have b2:=bE' hb 2;have b3:=bE' hb 3;have aC:=z20 (show z.heap.size < (z.alloc (.cells #[.int .i64 ab, .int .i64 ac, .int .i64 i, .string s, .int .u64 kp, .int .i64 ad, .int .i64 ah, .int .i64 ai, .int .i64 aj, .string ak] 86)).heap.size by simp) hb.size;simp at b2 b3;clear hb;simp only[O',aP,aQ,aR];go_simp;refine(d' (aA aO (d' av))).mono ?_;rintro bd aD ⟨U',rfl,aE,hF,aF⟩;have J:=m' (AM.start (d' ao) (d' av) (z13 _) aC b2 b3 aE hF aF);clear aE hF aF b2 b3 aC aA av au ap I;intro aG be;obtain⟨m,rfl⟩:∃m,aG=m+1:=⟨aG - 1,by omega⟩;refine aY' (i:=9) (by kernel_rfl) rfl rfl ?_;go_simp;refine cu' (by kernel_rfl) ?_;go_upto_region 2 with fail;have aH:=fun(x:World) (hb:Below aD.heap.size aD x)=>by have:=pG' ((d' J).below hb).ref i s (d' hd);rw[<-d' V]at this;exact m' this
  have M:=y' (i:=1) (d' J).blk;have I:=z14 (d' J).blk;have O:=(d' J).fl;have b2:=(d' J).b2;have b3:=(d' J).b3;simp[D']at M;refine ae'
   [Ep q 0,Ep q 0,Ep q 1,Ep rp 0,Ep z.heap.size 2,Ei i,Ep z.heap.size 3,Ev (.string s),Ei rv,Ei rv]
   [[0],[1017],[2018],[3019],[3],[5021],[3],[7023],[4020,6022,8024],[9025]]
   [18,19,20,21,22,23,24,25,26,7]
   [6,1,10,9,999] ?_ ?_
  ·refine⟨?_,?_,?_,?_,?_,?_,?_,?_,?_,?_,trivial⟩;all_goals
    intro b x hb Y;have z0:=(hb.cell (p:=⟨q,1,none⟩) I).trans M;have aS:=(hb.cell (p:=⟨z.heap.size,2,none⟩) O).trans b2;have z3:=(hb.cell (p:=⟨z.heap.size,3,none⟩) O).trans b3;have aT:=aH x hb;clear hb;simp[I']at Y;try go_simp
    try exact z11 _ _
   all_goals first
    |exact⟨rfl,z11 _ _⟩
    |(refine(d' aT).mono ?_;rintro e bf ⟨rfl,k,rfl⟩;exact⟨rfl,z41 (z11 _ _) _⟩)
    |skip
  ·intro f2 aU aI G;simp only[ag']at G;have aV:=G.2.2.2.2.2.2.2.2.2.1;have H:=m' ((d' J).below aI);clear G aI J aH M I O b2 b3;simp only[O',aV];have aJ:=oo' F i s.size;rw[<-d' V]at aJ;rcases aJ with rfl|rfl|rfl|rfl
   ·have M:=y' (i:=1) (d' H).blk;have I:=z14 (d' H).blk;have O:=(d' H).fl;have b2:=(d' H).b2;have b3:=(d' H).b3;simp[D']at M;have aa:=m' (np' (d' V).symm);go_upto_region 8 with fail;refine ab'
     [Ep q 0,Ep q 0,Ep q 1,Ep rp 0,Ep z.heap.size 2,Ei i,Ep z.heap.size 3,Ev (.string s),Et]
     [[0],[1051],[2052],[3053],[3],[5055],[3],[7057],[4054,6056,8058]]
     [52,53,54,55,56,57,58,59,60]
     [51,9,999]
     8 _ rfl rfl ?_ ?_
    ·refine⟨?_,?_,?_,?_,?_,?_,?_,?_,trivial⟩;all_goals
      intro b x hb Y;have z0:=(hb.cell (p:=⟨q,1,none⟩) I).trans M;have aS:=(hb.cell (p:=⟨z.heap.size,2,none⟩) O).trans b2;have z3:=(hb.cell (p:=⟨z.heap.size,3,none⟩) O).trans b3;clear hb;simp[I']at Y;try go_simp
      try exact z11 _ _
     all_goals first|exact⟨rfl,z11 _ _⟩|skip
    ·intro f8 bg aK G;simp only[ag',List.take]at G;obtain⟨_,_,_,aW,_,aX,_,aY,_⟩:=G;have ax:=m' ((d' H).below aK);clear aK H M I O b2 b3;simp only[O',aW,aX,aY];go_simp;obtain⟨sn,rfl⟩:=z73 (d' aa).1.1;have aL:(F.fl sn).kept.length < 24:=by have h:=d' aa;have h2:=h.2.2;unfold Mq.Ag.room at h2;have h3:sn=0\/sn=1\/sn=2:=(by omega);rcases h3 with rfl|rfl|rfl;all_goals omega
     refine(mk' (d' ax).ref sn (by have:=(d' aa).1.2;omega) s aL).mono ?_;rintro bh aZ ⟨rfl,hst⟩;obtain⟨bi,bj,ay⟩:=(d' ax).step hst;have ba:=m' ay;have aM:=ay.blk;clear hst ax aL ay;have Q:bg' F (sn:Int) s=F.Xi sn s:=(by unfold bg';rw[<-d' V];rfl);have az:=m' Q;clear Q;have bk:=z14 aM;go_simp;go_wp2_with (go_at_call 171;refine(jA' aZ q sv rp left aM).mono ?_;rintro bl bm ⟨rfl,bb,rfl⟩);go_ret;refine⟨rfl,?_⟩;have D:=((d' ba).wrote bb);rw[d' az]at D ⊢;exact D.done (d' hd) (mt' (d' ao).Vw sn s (d' aa).2.1)
   all_goals
    have Q:bg' F i s=F:=(by unfold bg';rw[<-d' V];rfl);have D:=m' ((show AM C z aU q sv rp F F r Z Z hk hk U U' left z.heap.size i s from by have:=d' H;rw[Q]at this;exact this).done (N:=a+1) (d' hd) ((d' ao).Vw.mono (Nat.le_succ _)));have az:=m' Q;clear Q H;go_wp2;go_ret;exact⟨rfl,by rw[d' az];exact d' D⟩
theorem da' (k e s q:Int) (b:List UInt8):(Qb.bytes k e s q b).length=15+b.length:=Qb.Vm k e s q b
theorem sw' (n:Nat):(cX' n).data.toList.length=15:=by
 unfold cX';simp[da']
theorem we' (a:Mq.Sk) (e:Nat):(pN' a e).data.toList.length=27:=by
 unfold pN';simp[da',wa',bh']
theorem wf' (a:Mq.Sk) (k e:Int) (s qn:Nat) (b:z10):(jx' a k e s qn b).data.toList.length=16:=by
 unfold jx';simp[da',Jj]
theorem mx' (a:Mq.Sk) (k e:Int) (s q:Nat) (b:z10):(bt' a k e s q b).2.length<=1/\∀x∈ (bt' a k e s q b).2,x.data.toList.length<=27:=by
 have h1:∀c:z10,c.data.toList.length<=27->([c]:List z10).length<=1/\∀x∈ ([c]:List z10),x.data.toList.length<=27:=fun c h=>⟨by simp,fun x z=>by rw[z51]at z;rw[z];exact h⟩;unfold bt';repeat' split
 all_goals first
  |exact h1 _ (by rw[sw'];omega)
  |exact h1 _ (by rw[we'];omega)
  |exact h1 _ (by rw[wf'];omega)
  |exact⟨by simp,fun x z=>by cases z⟩
theorem op' (a:Mq.Sk) (l:List UInt8):(aH' a l).2.2.length<=1/\∀x∈ (aH' a l).2.2,x.data.toList.length<=27:=by
 unfold aH';split
 ·exact mx' _ _ _ _ _ _
 ·simp
theorem Qh.keep {B:Nat} {w x:World} {lv:Value} {z:List Value} {H:List z10} {U:Nat->Prop} (h:Qh B w lv z H U) (hk:∀k,(lv.ownBlock=some k\/Zc z z.length k)->x.heap[k]? =w.heap[k]?):Qh B x lv z H U:=
 ⟨h.len,L' h.row (fun k F=>hk k (.inl F)),fun j v G=>L' (h.each j v G) (fun k F=>hk k (.inr ⟨j,(z28.1 G).1,v,G,F⟩)),h.apart,h.clear⟩
theorem Qh.lt {B:Nat} {w:World} {lv:Value} {z:List Value} {F:List z10} {U:Nat->Prop} (h:Qh B w lv z F U):∀k,(lv.ownBlock=some k\/Zc z z.length k)->B<=k/\k < w.heap.size:=by
 rintro k (h1|⟨j,_,v,h1,h2⟩)
 ·exact z15 h.row k h1
 ·exact z15 (h.each j v h1) k h2
structure TL (C:cB') (w x:World) (q sv rp:Nat) (a a':Mq.Sk) (r:am') (lv:Nat->Value) (hk:Value) (U U':Nat->Prop) (left:Int) (s:z10) (g n8 B:Nat) (fv:Value) (fs:List Value) (Fl:List z10):Prop where
 far:Far (aM' q rp lv hk U) w x
 lg:w.heap.size < g
 gB:g < B
 bx:B<=x.heap.size
 s3:x.cell? ⟨w.heap.size,3,none⟩=some (.string s)
 own:x.ownsRow 0 5 1 (.slice (some ⟨g,0,none⟩) n8 n8) n8 (bv (bO' s))
 blk:x.heap[q]? =some (.cells #[D' sv,D' rp, .bool false, .int .i64 left] 134 (0,0))
 Xb:C.At x sv a' U'
 ref:Jp x rp a r lv hk
 out:Qh B x fv fs Fl U'
 new:∀k,U' k->U k\/B<=k
theorem TL.below {C:cB'} {w x y:World} {q sv rp:Nat} {a a':Mq.Sk} {r:am'} {lv:Nat->Value} {hk:Value} {U U':Nat->Prop} {left:Int} {s:z10} {g F B:Nat} {fv:Value} {G:List Value} {H:List z10}
  (h:TL C w x q sv rp a a' r lv hk U U' left s g F B fv G H) (hb:Below x.heap.size x y):TL C w y q sv rp a a' r lv hk U U' left s g F B fv G H:=by
 have hl:=h.lg;have I:=h.gB;have J:=h.bx;have z:Far (fun _=>False) x y:=C' hb;exact⟨h.far.trans z (fun _ _ h=>h.elim),hl,I,z26 J hb.size,(hb.cell (p:=⟨w.heap.size,3,none⟩) (by show w.heap.size < _;omega)).trans h.s3,z.own h.own (fun _ _ h=>h),z.blk h.blk (fun h=>h),C.far h.Xb z (fun _ _ h=>h),h.ref.far z (fun _ _ h=>h),
  h.out.keep (fun k hk=>hb.block k (h.out.lt k hk).2),h.new⟩
theorem TL.start {C:cB'} {w x y:World} {q sv rp:Nat} {a a':Mq.Sk} {r:am'} {lv:Nat->Value} {hk:Value} {U U':Nat->Prop} {left:Int} {s:z10} {g F:Nat} {fv:Value} {G:List Value} {H:List z10}
  (P:Zh C w q sv rp a r lv hk U left) (L:Lay w x s g F) (M:Qh x.heap.size y fv G H U') (O:C.At y sv a' U') (hF:Far U x y) (Q:∀k,U' k->U k\/x.heap.size<=k):TL C w y q sv rp a a' r lv hk U U' left s g F x.heap.size fv G H:=by
 have hl:=L.lt;have V:=L.glt;have Y:=C.lt P.Xb;have I:Far (fun _=>False) w x:=C' L.bel;have z:=P.far I (fun _ _ h=>h);have J:∀k,w.heap.size<=k->¬U k:=fun k h hu=>by have:=Y k hu;omega
 exact⟨(I.mono (fun _ _ h=>h.elim)).trans hF (fun k _ h=> .inr (.inr h)),hl,V,hF.size,(z39 (hF.rest w.heap.size (by omega) (J _ (z13 _)))).trans L.s3,
  hF.own L.own (fun k hk=>by cases hk;exact J g (by omega)),hF.blk z.blk z.qU,O,z.ref.far hF (fun k hk hu=>z.UR k hu hk),M,Q⟩
theorem gA' (h:(Value.slice (some ⟨w,0,none⟩) a q).ownBlock=some r):w=r:=by injection h
theorem Qj.far {A:Nat->Nat->Prop} {E:Nat->Prop} {w x:World} {z:Nat} {H I F:Value} {hs:List Nat} (h:Qj A w z H I F hs) (G:Far E w x) (J:∀k,Us z F k->¬E k) (M:∀b o,A b o->b < w.heap.size/\¬E b):Qj A x z H I F hs:=
 ⟨G.blk h.blk (J z (.inl rfl)),G.own h.row (fun g O=>J g (.inr O)),fun p Q=>(h.all p Q).keep (fun b o hb=>z39 (G.rest b (M b o hb).1 (M b o hb).2))⟩
variable{c f G:Value}{k:List Nat}
theorem Qj.Vt {A:Nat->Nat->Prop} (h:Qj A p w c f G k):∀z,Us w G z->z < p.heap.size:=by
 rintro z (rfl|hk)
 ·exact z14 h.blk
 ·exact(z15 h.row z hk).2
def hQ' (fv:Value) (z:List Value) (k:Nat):Prop:=fv.ownBlock=some k\/Zc z z.length k
structure TM (C:cB') (A A2:Nat->Nat->Prop) (w x:World) (wb q sv rp:Nat) (as_ ss hv hv2:Value) (hs2:List Nat) (ar ap:Mq.Sk) (r:am') (lv lvc:Nat->Value) (hk hkc:Value) (U U':Nat->Prop) (left:Int) (B f:Nat) (k1 e1 s1 q1:Int) (b1:z10) (fv:Value) (fs:List Value) (Fl:List z10):Prop where
 far:Far (fun k=>aM' q rp lv hk U k\/Us wb hv k) w x
 wB:w.heap.size<=B
 wat:Qj A2 x wb as_ ss hv2 hs2
 a2:∀b o,A2 b o->b < x.heap.size/\¬Us wb hv2 b/\¬aM' q rp lvc hkc U' b/\¬hQ' fv fs b
 sub:∀b o,A2 b o->A b o\/w.heap.size<=b
 loc:Loc w hv hv2
 us:∀k,(aM' q rp lvc hkc U' k\/hQ' fv fs k)->¬Us wb hv2 k
 blk:x.heap[q]? =some (.cells #[D' sv,D' rp, .bool false, .int .i64 left] 134 (0,0))
 Xb:C.At x sv ap U'
 ref:Jp x rp ar r lvc hkc
 out:Qh B x fv fs Fl U'
 Wf:∀k,U' k->U k\/w.heap.size<=k
 Yi:∀k,SkU rp lvc hkc k->SkU rp lv hk k\/w.heap.size<=k
 qU:¬U' q
 qR:¬SkU rp lvc hkc q
 UR:∀k,U' k->¬SkU rp lvc hkc k
 outs:∀k,hQ' fv fs k->¬aM' q rp lvc hkc U' k
 box:Xx x f k1 e1 s1 q1 b1
 fl:f < x.heap.size
 fw:¬aM' q rp lvc hkc U' f
variable{aW:cB'}{x bH:Mq.Sk}{J:am'}{aB:Nat}{t:List Value}{T:List z10}
theorem TL.bat {left:Int}
  (h:TL aW p u w a q x bH J b c D aH left o r C aB f t T) (hn:o.size+8=C):BAt (fun _ _=>True) u (.slice (some ⟨r,0,none⟩) C C) (bO' o):=
 bo' (by have:=h.own;rw[Z',aN',hn];exact this) (fun _ _ _ _=>trivial)
variable{W Y:Value}{aS:Nat}
theorem TL.world {A:Nat->Nat->Prop} {left:Int}
  (h:TL aW p u a q r x bH J b W D aH left o C aB aS Y t T) (O:Qj A p w c f G k) (I:∀z F,A z F->z < p.heap.size/\¬Us w G z/\¬aM' a r b W D z) (Q:∀H,aM' a r b W D H->¬Us w G H) (M:Obj):Qj A (u.alloc M) w c f G k:=
 O.far (h.far.trans (C' (E:=fun _=>False) ((z11 _ _).alloc (z13 _) M)) (fun _ _ h=>h.elim)) (fun H hu V=>Q H V hu) (fun z F hb=>⟨(I z F hb).1,(I z F hb).2.2⟩)
theorem TL.keepA {A:Nat->Nat->Prop} {left:Int}
  (h:TL aW p u a q r x bH J b f D aH left o C aB aS G t T) (H:∀z F,A z F->z < p.heap.size/\¬Us w c z/\¬aM' a r b f D z) (I:Obj):∀z F,A z F->z < (u.alloc I).heap.size/\¬ew' u.heap.size w c (.slice none 0 0) (.slice (some ⟨C,0,none⟩) aB aB) (.slice none 0 0) z:=by
 intro z F hb;have h1:=H z F hb;have h2:=h.lg;have h3:=h.gB;have h4:=h.bx;refine⟨by simp;omega,?_⟩;rintro(e|(e|e|e)|e)
 ·omega
 ·cases e
 ·have:=gA' e;have:=h1.1;omega
 ·cases e
 ·exact h1.2.1 e
theorem TM.start {C:cB'} {A:Nat->Nat->Prop} {w x y:World} {z q sv rp:Nat} {ad ah F M:Value} {hs aq:List Nat} {a a':Mq.Sk} {r:am'} {lv:Nat->Value} {hk:Value} {U U':Nat->Prop} {left:Int} {s:z10} {g G B f:Nat} {fv:Value} {O:List Value} {au:List z10} {k1 av s1 ax:Int} {ay:z10} {H:Obj}
  (P:Zh C w q sv rp a r lv hk U left) (T:TL C w x q sv rp a a' r lv hk U U' left s g G B fv O au) (aG:Qj A w z ad ah F hs) (ai:∀b o,A b o->b < w.heap.size/\¬Us z F b/\¬aM' q rp lv hk U b) (aH:∀k,aM' q rp lv hk U k->¬Us z F k)
  (aI:Xx x f k1 av s1 ax ay) (aj:f < x.heap.size) (aU:w.heap.size<=f) (aJ:f≠g) (aK:¬U' f)
  (aL:Qj (fun b o=>(b < y.heap.size/\¬Us z M b)/\(A b o\/b=x.heap.size\/((Value.slice none 0 0).ownBlock=some b\/(Value.slice (some ⟨g,0,none⟩) G G).ownBlock=some b\/(Value.slice none 0 0).ownBlock=some b)\/(x.alloc H).heap.size<=b)) y z ad ah M aq)
  (hF:Far (ew' x.heap.size z F (.slice none 0 0) (.slice (some ⟨g,0,none⟩) G G) (.slice none 0 0)) (x.alloc H) y) (az:Loc (x.alloc H) F M):
  TM C A (fun b o=>(b < y.heap.size/\¬Us z M b)/\(A b o\/b=x.heap.size\/((Value.slice none 0 0).ownBlock=some b\/(Value.slice (some ⟨g,0,none⟩) G G).ownBlock=some b\/(Value.slice none 0 0).ownBlock=some b)\/(x.alloc H).heap.size<=b)) w y z q sv rp ad ah F M aq a a' r lv lv hk hk U U' left B f k1 av s1 ax ay fv O au:=by
 have h2:=T.lg;have h3:=T.gB;have h4:=T.bx;have aV:(x.alloc H).heap.size=x.heap.size+1:=by simp
 have ak:=aG.Vt;have I:=P.lt;have aM:=C.lt T.Xb;have ao:∀k,hQ' fv O k->B<=k/\k < x.heap.size:=T.out.lt;have Y:∀k,U' k->U k\/B<=k:=T.new;have aN:Far (fun _=>False) x (x.alloc H):=C' ((z11 _ _).alloc (z13 _) H);have aO:∀k,ew' x.heap.size z F (.slice none 0 0) (.slice (some ⟨g,0,none⟩) G G) (.slice none 0 0) k->k=x.heap.size\/k=g\/Us z F k:=by
  rintro k (e|(e|e|e)|e)
  ·exact .inl e
  ·cases e
  ·exact .inr (.inl (gA' e).symm)
  ·cases e
  ·exact .inr (.inr e)
 have J:Far (fun k=>k=x.heap.size\/k=g\/Us z F k) x y:=(aN.mono (fun _ _ h=>h.elim)).trans (hF.mono (fun k _ h=>aO k h)) (fun _ _ h=>h);have aA:∀k,aM' q rp lv hk U' k->aM' q rp lv hk U k\/(U' k/\B<=k):=by
  rintro k (e|e|e)
  ·exact .inl (.inl e)
  ·exact .inl (.inr (.inl e))
  ·exact(Y k e).elim (fun h=> .inl (.inr (.inr h))) (fun h=> .inr ⟨e,h⟩)
 have Q:∀k,aM' q rp lv hk U' k->k < x.heap.size/\k≠g/\¬Us z F k:=by
  intro k aB;rcases aA k aB with h|⟨h,aP⟩
  ·have:=I k h;exact⟨by omega,by omega,aH k h⟩
  ·have:=aM k h;exact⟨this,by omega,fun hu=>by have:=ak k hu;omega⟩
 have aQ:aM' q rp lv hk U' q:= .inl rfl;have Z:∀k,hQ' fv O k->k < x.heap.size/\k≠g/\¬Us z F k:=fun k h=>by have:=ao k h;exact⟨this.2,by omega,fun hu=>by have:=ak k hu;omega⟩
 have aR:∀k,hQ' fv O k->¬aM' q rp lv hk U' k:=fun k h aa=>by
  have h5:=ao k h;rcases aa with e|e|e
  ·have:=I k (.inl e);omega
  ·have:=I k (.inr (.inl e));omega
  ·exact T.out.clear k h e
 have V:∀k,k < x.heap.size/\k≠g/\¬Us z F k->¬ (k=x.heap.size\/k=g\/Us z F k):=by
  rintro k ⟨h1,h5,ab⟩ (e|e|e)
  ·omega
  ·exact h5 e
  ·exact ab e
 have aC:∀k,k < x.heap.size/\k≠g/\¬Us z F k->¬Us z M k:=by
  rintro k ⟨h1,h5,ab⟩ (e|e)
  ·exact ab (.inl e)
  ·rcases az with h|h|⟨g',h,aW⟩
   ·rw[h]at e;cases e
   ·exact ab (.inr (h ▸ e))
   ·rw[h]at e;cases e;omega
 refine⟨?_,by omega,aL,?_,?_,?_,?_,J.blk T.blk (V q (Q q aQ)),C.far T.Xb J (fun k h=>V k (Q k (.inr (.inr h)))),T.ref.far J (fun k h=>V k (Q k (.inr (.inl h)))),T.out.keep (fun k h=>J.rest k (Z k h).1 (V k (Z k h))),
  fun k h=>(Y k h).imp id (by omega),fun k h=> .inl h,?_,P.qR,?_,aR,?_,z20 aj J.size,?_⟩
 ·refine(T.far.mono (E':=fun k=>aM' q rp lv hk U k\/Us z F k) (fun _ _ h=> .inl h)).trans J ?_;rintro k aB (e|e|e)
  ·omega
  ·omega
  ·exact .inr e
 ·rintro b o ⟨⟨aS,aT⟩,ac⟩;refine⟨aS,aT,fun aa=>?_,fun aD=>?_⟩
  ·have ap:=Q b aa;rcases ac with h|h|(h|h|h)|h
   ·rcases aA b aa with aE|⟨aE,aP⟩
    ·exact(ai b o h).2.2 aE
    ·have:=(ai b o h).1;omega
   ·omega
   ·cases h
   ·exact ap.2.1 (gA' h).symm
   ·cases h
   ·omega
  ·have ap:=Z b aD;rcases ac with h|h|(h|h|h)|h
   ·have:=(ai b o h).1;have:=ao b aD;omega
   ·omega
   ·cases h
   ·exact ap.2.1 (gA' h).symm
   ·cases h
   ·omega
 ·rintro b o ⟨_,ac⟩;rcases ac with h|h|(h|h|h)|h
  ·exact .inl h
  ·exact .inr (by omega)
  ·cases h
  ·have:=gA' h;exact .inr (by omega)
  ·cases h
  ·exact .inr (by omega)
 ·exact az.mono (by omega)
 ·rintro k (h|h)
  ·exact aC k (Q k h)
  ·exact aC k (Z k h)
 ·intro h;rcases Y q h with h|h
  ·exact P.qU h
  ·have:=I q (.inl rfl);omega
 ·intro k h aF;rcases Y k h with h|h
  ·exact P.UR k h aF
  ·have:=I k (.inr (.inl aF));omega
 ·refine aI.kept (J.rest f aj (V f ⟨aj,aJ,fun hu=>by have:=ak f hu;omega⟩))
 ·rintro(e|e|e)
  ·have:=I f (.inl e);omega
  ·have:=I f (.inr (.inl e));omega
  ·exact aK e
section
variable {C:cB'} {A A2:Nat->Nat->Prop} {w x y:World} {wb q sv rp:Nat} {as_ ss hv hv2:Value} {hs2:List Nat} {ar ap:Mq.Sk} {r:am'} {lv lvc:Nat->Value} {hk hkc:Value} {U U':Nat->Prop} {left:Int} {B f:Nat} {k1 e1 s1 q1:Int} {b1:z10} {fv:Value} {fs:List Value} {Fl:List z10}
theorem TM.prlt (T:TM C A A2 w x wb q sv rp as_ ss hv hv2 hs2 ar ap r lv lvc hk hkc U U' left B f k1 e1 s1 q1 b1 fv fs Fl):∀k,aM' q rp lvc hkc U' k->k < x.heap.size:=by
 rintro k (rfl|h|h)
 ·exact z14 T.blk
 ·exact T.ref.lt k h
 ·exact C.lt T.Xb k h
theorem TM.any {E:Nat->Prop} (T:TM C A A2 w x wb q sv rp as_ ss hv hv2 hs2 ar ap r lv lvc hk hkc U U' left B f k1 e1 s1 q1 b1 fv fs Fl) (F:Far E x y) (G:∀k,E k->w.heap.size<=k/\¬aM' q rp lvc hkc U' k/\¬Us wb hv2 k/\¬hQ' fv fs k/\(∀o,¬A2 k o)/\k≠f):
  TM C A A2 w y wb q sv rp as_ ss hv hv2 hs2 ar ap r lv lvc hk hkc U U' left B f k1 e1 s1 q1 b1 fv fs Fl:=
 ⟨T.far.trans F (fun k hk z=>by have:=(G k z).1;omega),T.wB,T.wat.far F (fun k hu z=>(G k z).2.2.1 hu) (fun b o h=>⟨(T.a2 b o h).1,fun z=>(G b z).2.2.2.2.1 o h⟩),fun b o h=>⟨z20 (T.a2 b o h).1 F.size,(T.a2 b o h).2⟩,T.sub,T.loc,T.us,
  F.blk T.blk (fun z=>(G q z).2.1 (.inl rfl)),C.far T.Xb F (fun k h z=>(G k z).2.1 (.inr (.inr h))),T.ref.far F (fun k h z=>(G k z).2.1 (.inr (.inl h))),T.out.keep (fun k h=>F.rest k (T.out.lt k h).2 (fun z=>(G k z).2.2.2.1 h)),T.Wf,T.Yi,T.qU,T.qR,T.UR,T.outs,
  T.box.kept (F.rest f T.fl (fun z=>(G f z).2.2.2.2.2 rfl)),z20 T.fl F.size,T.fw⟩
theorem TM.below (T:TM C A A2 w x wb q sv rp as_ ss hv hv2 hs2 ar ap r lv lvc hk hkc U U' left B f k1 e1 s1 q1 b1 fv fs Fl) (hb:Below x.heap.size x y):TM C A A2 w y wb q sv rp as_ ss hv hv2 hs2 ar ap r lv lvc hk hkc U U' left B f k1 e1 s1 q1 b1 fv fs Fl:=
 T.any (E:=fun _=>False) (C' hb) (fun _ h=>h.elim)
theorem TM.wrote (T:TM C A A2 w x wb q sv rp as_ ss hv hv2 hs2 ar ap r lv lvc hk hkc U U' left B f k1 e1 s1 q1 b1 fv fs Fl) (H:f≠q) (F:Int):
  TM C A A2 w (x.setCell ⟨q,3,none⟩ (.int .i64 F)) wb q sv rp as_ ss hv hv2 hs2 ar ap r lv lvc hk hkc U U' F B f k1 e1 s1 q1 b1 fv fs Fl:=by
 have z:=Q' x q 3 (.int .i64 F);have G:aM' q rp lvc hkc U' q:= .inl rfl;have I:aM' q rp lv hk U q:= .inl rfl;refine⟨T.far.trans z (fun k _ e=> .inl (e ▸ I)),T.wB,T.wat.far z (fun k hu e=>T.us q (.inl G) (e ▸ hu)) (fun b o h=>⟨(T.a2 b o h).1,fun e=>(T.a2 b o h).2.2.1 (e ▸ G)⟩),fun b o h=>⟨z20 (T.a2 b o h).1 z.size,(T.a2 b o h).2⟩,T.sub,T.loc,T.us,
  ?_,C.far T.Xb z (fun k h e=>T.qU (e ▸ h)),T.ref.far z (fun k h e=>T.qR (e ▸ h)),T.out.keep (fun k h=>z.rest k (T.out.lt k h).2 (fun e=>T.outs k h (e ▸ G))),T.Wf,T.Yi,T.qU,T.qR,T.UR,T.outs,T.box.kept (z.rest f T.fl H),z20 T.fl z.size,T.fw⟩
 have:=aa' (j:=3) (v:= .int .i64 F) T.blk;simpa using this
theorem TM.step {O:Mq.Sk} (T:TM C A A2 w x wb q sv rp as_ ss hv hv2 hs2 ar ap r lv lvc hk hkc U U' left B f k1 e1 s1 q1 b1 fv fs Fl) (Q:do' x y rp O r lvc hkc):
  ∃H I,TM C A A2 w y wb q sv rp as_ ss hv hv2 hs2 O ap r lv H hk I U U' left B f k1 e1 s1 q1 b1 fv fs Fl:=by
 obtain⟨H,I,V,z,J⟩:=Q;have Y:=C.lt T.Xb;have M:∀k,aM' q rp H I U' k->aM' q rp lvc hkc U' k\/x.heap.size<=k:=by
  rintro k (h|h|h)
  ·exact .inl (.inl h)
  ·exact(J k h).imp (fun h=> .inr (.inl h)) id
  ·exact .inl (.inr (.inr h))
 have aa:=z14 T.blk;refine⟨H,I,T.far.trans z (fun k hk h=> .inl ((T.Yi k h).elim (fun h=> .inr (.inl h)) (fun h=>by omega))),T.wB,T.wat.far z (fun k hu h=>T.us k (.inl (.inr (.inl h))) hu) (fun b o h=>⟨(T.a2 b o h).1,fun e=>(T.a2 b o h).2.2.1 (.inr (.inl e))⟩),fun b o h=>⟨z20 (T.a2 b o h).1 z.size,(T.a2 b o h).2.1,fun F=>(M b F).elim (T.a2 b o h).2.2.1 (fun G=>by have:=(T.a2 b o h).1;omega),(T.a2 b o h).2.2.2⟩,T.sub,T.loc,?_,
  z.blk T.blk T.qR,C.far T.Xb z T.UR,V,T.out.keep (fun k h=>z.rest k (T.out.lt k h).2 (fun e=>T.outs k h (.inr (.inl e)))),T.Wf,fun k h=>(J k h).elim (T.Yi k) (fun G=> .inr (by have:=T.far.size;omega)),T.qU,fun h=>(J q h).elim T.qR (fun G=>by omega),fun k h Z=>(J k Z).elim (T.UR k h) (fun G=>by have:=Y k h;omega),fun k h F=>(M k F).elim (T.outs k h) (fun G=>by have:=(T.out.lt k h).2;omega),
  T.box.kept (z.rest f T.fl (fun e=>T.fw (.inr (.inl e)))),z20 T.fl z.size,fun F=>(M f F).elim T.fw (fun G=>by have:=T.fl;omega)⟩
 rintro k (h|h)
 ·rcases M k h with h|h
  ·exact T.us k (.inl h)
  ·intro hu;have:=T.wat.Vt k hu;omega
 ·exact T.us k (.inr h)
structure Zq (C:cB') (A:Nat->Nat->Prop) (w y:World) (wb q sv rp:Nat) (as_ ss hv:Value) (a':Mq.Sk) (r:am') (lv:Nat->Value) (hk:Value) (U:Nat->Prop) (N:Nat):Prop where
 all:∃ (hv3:Value) (hs3:List Nat) (lvd:Nat->Value) (hkd:Value) (U':Nat->Prop) (left:Int),hs3.length<=N/\
  Qj (fun b o=>b < y.heap.size/\¬Us wb hv3 b/\¬aM' q rp lvd hkd U' b/\(A b o\/w.heap.size<=b)) y wb as_ ss hv3 hs3/\Zh C y q sv rp a' r lvd hkd U' left/\
  (∀k,aM' q rp lvd hkd U' k->aM' q rp lv hk U k\/w.heap.size<=k)/\(∀k,aM' q rp lvd hkd U' k->¬Us wb hv3 k)/\Far (fun k=>aM' q rp lv hk U k\/Us wb hv k) w y/\Loc w hv hv3
theorem TM.done {N:Nat} (T:TM C A A2 w x wb q sv rp as_ ss hv hv2 hs2 ap ap r lv lvc hk hkc U U' left B f k1 e1 s1 q1 b1 fv fs Fl) (hd:r.dead=false) (O:Jh ap)
  (W:Qj (fun b o=>(b < y.heap.size/\¬Us wb c b)/\(A2 b o\/(fv.ownBlock=some b\/Zc fs fs.length b)\/x.heap.size<=b)) y wb as_ ss c k) (G:Far (fun z=>(fv.ownBlock=some z\/Zc fs fs.length z)\/Us wb hv2 z) x y) (L:Loc x hv2 c) (Q:k.length<=N) (V:w.heap.size<=x.heap.size)
  (Y:∀z,Us wb hv2 z->z < w.heap.size->Us wb hv z):Zq C A w y wb q sv rp as_ ss hv ap r lv hk U N:=by
 have J:=T.prlt;have H:∀z,aM' q rp lvc hkc U' z->¬ ((fv.ownBlock=some z\/Zc fs fs.length z)\/Us wb hv2 z):=by
  rintro z h (e|e)
  ·exact T.outs z e h
  ·exact T.us z (.inl h) e
 have Z:∀z,aM' q rp lvc hkc U' z->¬Us wb c z:=by
  rintro z h (e|e)
  ·exact T.us z (.inl h) (.inl e)
  ·rcases L with F|F|⟨g',F,aa⟩
   ·rw[F]at e;cases e
   ·exact T.us z (.inl h) (.inr (F ▸ e))
   ·rw[F]at e;injection e with e;have:=J z h;omega
 have M:=T.out.lt;refine⟨c,k,lvc,hkc,U',left,Q,W.mono ?_,?_,?_,Z,?_,cg' T.loc L V⟩
 ·rintro b o ⟨⟨h1,h2⟩,h3⟩;refine⟨h1,h2,fun I=>?_,?_⟩
  ·rcases h3 with h|h|h
   ·exact(T.a2 b o h).2.2.1 I
   ·exact T.outs b h I
   ·have:=J b I;omega
  ·rcases h3 with h|h|h
   ·exact T.sub b o h
   ·exact .inr (by have:=(M b h).1;have:=T.wB;omega)
   ·exact .inr (by omega)
 ·exact⟨G.blk T.blk (H q (.inl rfl)),C.far T.Xb G (fun z h=>H z (.inr (.inr h))),T.ref.far G (fun z h=>H z (.inr (.inl h))),hd,O,T.qU,T.qR,T.UR⟩
 ·rintro z (h|h|h)
  ·exact .inl (.inl h)
  ·exact(T.Yi z h).imp (fun h=> .inr (.inl h)) id
  ·exact(T.Wf z h).imp (fun h=> .inr (.inr h)) id
 ·refine T.far.trans G (fun z hk h=>?_);rcases h with h|h
  ·have:=(M z h).1;have:=T.wB;omega
  ·exact .inr (Y z h hk)
theorem eh' {B:Nat} {w:World} {e:TypeId} {size n:Nat} {v:Value} {xs:List Value} (h:w.ownsRow B e size v n xs):w.ownsRow 0 e size v n xs:=by
 obtain⟨h1,h2⟩:=h;refine⟨h1,?_⟩;rcases h2 with h2|⟨g,cap,z,h3,_,h4⟩
 ·exact .inl h2
 ·exact .inr ⟨g,cap,z,h3,z54 _,h4⟩
theorem uC' (Fl:List z10):er' (Fl.map fun b=>b.data.toList)=ao' Fl:=by
 unfold er' ao';rw[rX'];apply yc';intro b _;simp
theorem TM.same {z:Nat} (T:TM C A A2 w x wb q sv rp as_ ss hv hv2 hs2 ap ap r lv lvc hk hkc U U' left B f k1 e1 s1 q1 b1 fv fs Fl) (hd:r.dead=false) (H:Jh ap) (F:Value) (I:kN' x F (ao' Fl)) (G:Fl.length<=1/\∀b∈Fl,b.data.toList.length<=27) (hn:hs2.length=z+4) (O:z+12<=17592186044416):
  Calls prog 120 #[D' wb,fv,F] x fun e w'=>e= .returned (.bool true)/\Zq C A w w' wb q sv rp as_ ss hv ap r lv hk U (z+12):=by
 have hl:=T.out.len;have h1:=G.1;have J:∀j,((Fl.map fun b=>b.data.toList).getD j []).length<=1000:=by
  intro j;rw[z17];rcases tZ' j Fl.length with h|h
  ·have:=G.2 Fl[j] (z81 h);rw[z70,z18 h];simp at this ⊢;omega
  ·rw[z76 (by simpa using h)];simp
 refine(pX' A2 x wb as_ ss hv2 fv F hs2 fs (Fl.map fun b=>b.data.toList) T.wat (by simpa using hl) (eh' T.out.row) (by rw[uC'];exact I) (fun j v h=>eh' (T.out.each j v h)) T.out.apart ?_ (by omega) (by omega) J).mono ?_
 ·intro b o h;have h2:=T.a2 b o h;refine⟨h2.1,?_⟩;rintro(e|e|e)
  ·exact h2.2.2.2 (.inl e)
  ·exact h2.2.2.2 (.inr e)
  ·exact h2.2.1 e
 ·rintro e w' ⟨rfl,Q,V,Y,W,M,L⟩;refine⟨rfl,T.done hd H W M L (by omega) T.far.size ?_⟩;rintro k (e|e) Z
  ·exact .inl e
  ·rcases T.loc with h|h|⟨g',h,aa⟩
   ·rw[h]at e;cases e
   ·exact .inr (h ▸ e)
   ·rw[h]at e;injection e with e;omega
end
variable{bX fB:Prop}
theorem An' (h:bX->fB) (k:bX):fB:=h k
theorem uD' (C:cB') (A:Nat->Nat->Prop) (w:World) (aa:Nat) (aH aI I:Value) (hs:List Nat) (ci cj i:Int) (s:z10) (kp ck cl cm cn:Int) (cp:z10) (q sv rp:Nat) (a:Mq.Sk) (r:am') (lv:Nat->Value) (hk:Value) (U:Nat->Prop) (left:Int)
  (bq:Qj A w aa aH aI I hs) (P:Zh C w q sv rp a r lv hk U left) (az:∀b o,A b o->b < w.heap.size/\¬Us aa I b/\¬aM' q rp lv hk U b) (br:∀k,aM' q rp lv hk U k->¬Us aa I k) (bt:s.size<=140737488353980) (bu:hs.length+12<=17592186044416):
  Calls prog 125 #[D' aa,D' q,ap' ci cj i s kp ck cl cm cn cp] w fun x w'=>x= .returned (.bool true)/\Zq C A w w' aa q sv rp aH aI I (aH' a s.data.toList).2.1 r lv hk U (hs.length+12):=by
 obtain⟨z,hn⟩:∃z:Nat,s.size+8=z:=⟨_,rfl⟩;have bw:=fun w cq e h=>m' (pF' s w cq e z hn bt h);have aq:=m' P;have aJ:=m' bq;have aU:=m' hn;have cH:¬z=0:=by omega
 have cI:s.size<=z:=by omega
 have cJ:(s.size:Int)<=z:=by omega
 have bz:∀x:World,Below w.heap.size w x->x.cell? ⟨q,0,none⟩=some (D' sv):=fun x hb=>by rw[hb.cell (p:=⟨q,0,none⟩) (z14 P.blk)];exact y' (i:=0) P.blk
 have bA:=fun x (cr:Below w.heap.size w x) (bs:Value) (hb:Qn x bs s.data.toList)=>m' (C.Qx bs s.data.toList (P.far (C' (E:=fun _=>False) cr) (fun _ _ h=>h)).Xb P.Vw hb);have bB:=m' bz;have aA:=m' az;have aK:=m' br;obtain⟨k1,F,s1,aL,M,aV⟩:=gx' s.data.toList;have aW:=fun w'=>m' (jm' s w' (by omega));rw[aV]at aW;have bC:=m' aV;clear P bq hn bz az br aV;unfold D' at *;unfold ap';go_enter func125,ntmps125;go_upto_region 1 with fail;go_upto_region 2 with (go_at_call 77;refine(d' (bw _ _ _ (by simp))).mono ?_;rintro cK w1 ⟨g,rfl,bD⟩;have Z:=m' bD;clear bD);refine bK'
  [Ep q 0,Ep q 0,Ep q 0,Ep sv 0,Ev (.slice (some ⟨g,0,none⟩) z z),Ep w.heap.size 3,Ev (.string s),Ei s.size,Ev (.slice (some ⟨g,0,none⟩) s.size z),Et,Et,Et,Et,Et,Et]
  [[1],[1022],[2023],[3024],[7],[5],[6027],[7028],[5026,8029],[4025,9030],[10031],[11021],[11021],[12032],[13033]]
  [23,24,25,26,27,28,29,30,31,32,22,33,34,9,10]
  [8,2,11,13,999]
  9 _ rfl ?_ ?_ ?_
 ·refine⟨?_,?_,?_,?_,?_,?_,?_,?_,?_,trivial⟩;all_goals
   intro b x hb ab;have cL:=(d' bB) x ((d' Z).bel.trans (hb.mono (d' Z).bel.size));have bE:=(hb.cell (p:=⟨w.heap.size,3,none⟩) (by have:=(d' Z).lt;have:=(d' Z).glt;show w.heap.size < _;omega)).trans (d' Z).s3;clear hb;simp[I']at ab;try go_simp
   try exact z11 _ _
  all_goals first|exact⟨rfl,z11 _ _⟩|skip
 ·intro f x Q;rfl
 ·intro f aB hb Q;simp only[ag',List.take]at Q;obtain⟨_,_,_,cs,_,_,_,_,cu,_⟩:=Q;simp only[O',cs,cu];go_simp;have aX:=m' ((d' Z).below hb);have au:=m' ((d' Z).bel.trans (hb.mono (d' Z).bel.size));clear hb;refine(d' (bA aB (d' au) _ ((d' aX).at (d' aU) bt))).mono ?_;rintro cM cN ⟨fv,aM,U',rfl,bF,az,hF,bG⟩;intro aC cv;obtain⟨n,rfl⟩:∃n,aC=n+5:=⟨aC - 5,by omega⟩;apply An'
  ·intro aY;refine aY' (i:=10) (by kernel_rfl) rfl rfl ?_;go_simp;refine ng' (i:=11) (j:=12) (by kernel_rfl) rfl rfl rfl rfl ?_ ?_
   ·go_simp;refine ng' (i:=12) (j:=13) (by kernel_rfl) rfl rfl rfl rfl ?_ ?_
    ·go_simp;refine aY' (i:=13) (by kernel_rfl) rfl rfl ?_;go_simp;refine aY' (i:=14) (by kernel_rfl) rfl rfl ?_;go_simp;refine cu' (by kernel_rfl) ?_;exact aY
    ·go_simp;refine aY' (i:=12) (by kernel_rfl) rfl rfl ?_;go_simp;refine aY' (i:=14) (by kernel_rfl) rfl rfl ?_;go_simp;refine cu' (by kernel_rfl) ?_;exact aY
   ·go_simp;refine aY' (i:=11) (by kernel_rfl) rfl rfl ?_;go_simp;refine aY' (i:=13) (by kernel_rfl) rfl rfl ?_;go_simp;refine aY' (i:=14) (by kernel_rfl) rfl rfl ?_;go_simp;refine cu' (by kernel_rfl) ?_;exact aY
  ·have bH:=m' (TL.start (d' aq) (d' aX) bF az hF bG);have cO:=m' hF.size;clear bF az hF bG aX Z bw bA au bB;obtain⟨cP,aZ⟩:=exq ((aH' a s.data.toList).1);rw[<-aZ];have av:=m' aZ;clear aZ;go_upto_region 3 with fail;refine G' (fun x=>TL C w x q sv rp a (aH' a s.data.toList).2.1 r lv hk U U' left s g z aB.heap.size fv aM (aH' a s.data.toList).2.2) (d' bH) ?_;clear bH;intro cQ ba;have s3:=ba.s3;have bI:=m' ba;clear ba;go_upto_region 4 with (go_at_call 117;refine(d' (aW _)).mono ?_;rintro cR ac ⟨rfl,bJ⟩;have ad:=m' ((d' bI).below bJ);clear bJ);have ax:Hid (w.heap.size<=ac.heap.size/\ac.heap.size≠g/\¬U' ac.heap.size/\ac.heap.size≠q):=
    ⟨(d' ad).far.size,by have:=(d' ad).gB;have:=(d' ad).bx;omega,fun h=>by have:=C.lt (d' ad).Xb _ h;omega,by have:=z14 (d' ad).blk;omega⟩
   refine G' (fun x=>TL C w x q sv rp a (aH' a s.data.toList).2.1 r lv hk U U' left s g z aB.heap.size fv aM (aH' a s.data.toList).2.2/\Xx x ac.heap.size k1 F s1 aL M/\ac.heap.size < x.heap.size)
    ⟨(d' ad).below ((z11 _ _).alloc (z13 _) _),dX' _ _ _ _ _ _ _,by simp⟩ ?_
   clear ad bI s3 aW;generalize ac.heap.size=f at ax ⊢;rintro bK ⟨aN,bL,bM⟩;have s3:=aN.s3;have bN:=m' (aN.bat (d' aU));have bO:=m' aN;have bP:=m' bL;have bb:=m' bM;clear aN bL bM;go_upto_region 5 with (go_at_call 79;refine(gf' _ _ s bK (d' bN) (by omega)).mono ?_;rintro cS cT ⟨rfl,nq,rfl⟩);refine G' (fun x=>TL C w x q sv rp a (aH' a s.data.toList).2.1 r lv hk U U' left s g z aB.heap.size fv aM (aH' a s.data.toList).2.2/\Xx x f k1 F s1 aL M/\f < x.heap.size)
    ⟨(d' bO).below (z41 (z11 _ _) _),(d' bP).below (C:=bK.heap.size) (z41 (z11 _ _) _) (d' bb),d' bb⟩ ?_
   clear bO bP bb bN s3;rintro aO ⟨aD,bQ,bR⟩;have bS:=m' aD;have bT:=m' bQ;have bU:=m' bR;have bc:=m' (cQ' A (aO.alloc (.cells #[.slice none 0 0, .slice (some ⟨g,0,none⟩) z z, .slice none 0 0, .int .i64 0, .string ⟨#[]⟩, .string ⟨#[]⟩] 110)) aa aO.heap.size aH aI I (.slice none 0 0) (.slice (some ⟨g,0,none⟩) z z) (.slice none 0 0) hs [] [] (bO' s)
    (aD.world (d' aJ) (d' aA) (d' aK) _) (z19 aO _) (z27 _ _ _ _) (by rw[aN',d' aU];exact aD.own.alloc _) (z27 _ _ _ _) (aD.keepA (d' aA) _) (by omega) (by rw[aN'];omega) (by simp) (by simp))
   unfold D' at bc;clear aD bQ bR;go_upto_region 6 with (go_at_call 76;refine(d' bc).mono ?_;rintro cU bd ⟨rfl,bV,cw,bW,bX,bY,bZ⟩;have J:=m' (TM.start (d' aq) (d' bS) (d' aJ) (d' aA) (d' aK) (d' bT) (d' bU) (d' ax).1 (d' ax).2.1 (d' ax).2.2.1 bX bY bZ);have ca:=m' bW;clear bX bY bZ bW);clear bc bS bT bU;generalize hA2:(fun b o=>(b < bd.heap.size/\¬Us aa bV b)/\(A b o\/b=aO.heap.size\/((Value.slice none 0 0).ownBlock=some b\/(Value.slice (some ⟨g,0,none⟩) z z).ownBlock=some b\/(Value.slice none 0 0).ownBlock=some b)\/ _))=cx at J;clear hA2;have hd:=m' (d' aq).dead;have c1:=y' (i:=1) (d' J).blk;have d1:=y' (i:=1) (d' J).ref.blk;have d0:=y' (i:=0) (d' J).ref.blk;simp[az']at c1 d1 d0;rw[d' hd]at d1;have aP:=m' (d' aq).Vw;have aE:=m' (op' a s.data.toList);cases aF:Qb.reads s.data.toList
   ·have ah:aH' a s.data.toList=(1,a,[]):=(by unfold aH';rw[aF];rfl);rw[ah]at J av aE;have be:=m' ah;have aG:=d' av;simp only at aG;subst aG;clear ah av;have aQ:=m' ((d' J).same (d' hd) (d' aP) (.slice none 0 0) (bc' (B:=0) (z27 _ _ 9 _)) (d' aE) (d' ca) bu);clear J aq aJ aA aK aP aE;unfold D' at *;go_upto_region 22 with fail;go_wp2_with (go_at_call 120;refine(d' aQ).mono ?_;rintro cV cb ⟨rfl,bf⟩);go_ret;rw[d' be];exact⟨rfl,bf⟩
   ·have I:=d' bC;rw[jl' aF]at I;unfold jh' at I;simp only[Value.agg.injEq,Array.mk.injEq,List.cons.injEq,Value.int.injEq,Value.string.injEq,true_and,and_true]at I;obtain⟨Y,bg,bh,bi,bj⟩:=I;have aR:=aF;unfold Qb.reads at aR;rw[z58]at aR;have bk:=cr' aR.2;rw[Y,bg,bh,bi,bj]at bk;clear aR;obtain⟨sn,rfl⟩:∃sn:Nat,s1=sn:=⟨s1.toNat,by omega⟩;obtain⟨qn,rfl⟩:∃qn:Nat,aL=qn:=⟨aL.toNat,by omega⟩;have ah:aH' a s.data.toList=(0,bt' a k1 F sn qn M):=(by unfold aH';rw[aF,Y,bg,bh,bi,bj];rfl);rw[ah]at J av aE;have be:=m' ah;have aG:=d' av;simp only at aG;subst aG;have ai:=m' bk;clear ah av Y bg bh bi bj bC aF bk aq aJ aA aK;have cy:=m' (hJ' (d' aP) k1 F sn qn M (by have:=(d' ai).2.2.1;omega) (d' ai).2.1.2);have aj:=z14 (d' J).blk;have G:=(d' J).fl;obtain⟨ak,ao,b2,b3,ap⟩:=(d' J).box;unfold D' at *;obtain⟨O,cc⟩:=exq ((a.Qp k1 F sn qn M).length);have cd:∀x,Below bd.heap.size bd x->Hid (Calls prog 178 #[.pointer (some ⟨rp,0,none⟩), .agg #[.int .i64 k1, .int .i64 F, .int .i64 sn, .int .i64 qn, .string M]] x fun e bl=>(∃v,e= .returned v/\∃V cap,v= .slice V O cap)/\Below x.heap.size x bl):=fun x hb=>(by refine m' ((js' ((d' J).below hb).ref k1 F sn qn M (by have:=(d' ai).2.2.1;omega)).mono ?_);rintro e bl ⟨v,n,rfl,h,au⟩;obtain⟨V,cap,I,_⟩:=bc' h;rw[bF',<-cc]at I;exact⟨⟨v,rfl,V,cap,I⟩,au⟩);clear cc;go_upto_region 8 with fail;refine ae'
     [Ep q 0,Ep q 0,Ep q 1,Ep rp 0,Ev (.agg #[.int .i64 k1, .int .i64 F, .int .i64 sn, .int .i64 qn, .string M]),fun v _=>∃V cap,v= .slice V O cap,fun v _=>∃V cap,v= .slice V O cap]
     [[1],[1049],[2050],[3051],[10],[4052,5053],[6054]]
     [50,51,52,53,54,55,16]
     [15,1,33,6,999] ?_ ?_ (hst:=by repeat' (first|exact V' _|exact aj'|exact(fun _ _ _ h _=>h)|exact trivial|apply z12))
    ·refine⟨?_,?_,?_,?_,?_,?_,?_,trivial⟩;all_goals
      intro b x hb ab;have bE:=(hb.cell (p:=⟨q,1,none⟩) aj).trans c1;have z0:=(hb.cell (p:=⟨f,0,none⟩) G).trans ak;have cz:=(hb.cell (p:=⟨f,1,none⟩) G).trans ao;have cA:=(hb.cell (p:=⟨f,2,none⟩) G).trans b2;have z3:=(hb.cell (p:=⟨f,3,none⟩) G).trans b3;have z4:=(hb.cell (p:=⟨f,4,none⟩) G).trans ap;have cB:=cd x hb;clear hb;simp[I']at ab;try (obtain⟨cW,cX,ab⟩:∃V cap,_=Value.slice V O cap:=ab)
      try go_simp
      try exact z11 _ _
     all_goals first
      |exact⟨_,rfl,z11 _ _,_,_,rfl⟩
      |exact⟨rfl,z11 _ _⟩
      |(refine(d' cB).mono ?_;rintro e bl ⟨⟨v,rfl,V,cap,rfl⟩,au⟩;exact⟨_,rfl,au,V,cap,rfl⟩)
      |skip
    ·intro f8 cb hb Q;simp only[ag']at Q;have bm:=Q.2.2.2.2.2.2.1;have H:=m' ((d' J).below hb);clear Q hb J cd c1 d1 d0 ak ao b2 b3 ap aj G;have aj:=z14 (d' H).blk;have G:=(d' H).fl;have c1:=y' (i:=1) (d' H).blk;have d1:=y' (i:=1) (d' H).ref.blk;have d0:=y' (i:=0) (d' H).ref.blk;simp[az',D']at c1 d1 d0;obtain⟨ak,ao,b2,b3,ap⟩:=(d' H).box;obtain⟨cY,cZ,bm⟩:=bm;simp only[O',bm];go_simp;rcases(by omega:0 < O\/¬0 < O/\k1=1/\(a.Qa:Int) < F\/¬0 < O/\k1=1/\¬ (a.Qa:Int) < F\/¬0 < O/\¬k1=1)with bn|⟨bn,Y,ce⟩|⟨bn,Y,ce⟩|⟨bn,Y⟩
     case' inl=>have aS:(0:Int) < O:=(by omega);go_upto_region 9 with fail;go_quiet (fail);go_upto_region 11 with (go_at_call 171;refine(no' _ q sv rp left (by first|exact(d' H).blk|simpa using (d' H).blk)).mono ?_;rintro cC cD ⟨rfl,aT,rfl⟩)
     case' inr.inl=>have aS:¬ (0:Int) < O:=(by omega);have bo:(k1==1)=true:=(by simp[Y]);go_upto_region 9 with fail;go_quiet (fail);go_upto_region 11 with (go_at_call 171;refine(no' _ q sv rp left (by first|exact(d' H).blk|simpa using (d' H).blk)).mono ?_;rintro cC cD ⟨rfl,aT,rfl⟩)
     case' inr.inr.inl=>have aS:¬ (0:Int) < O:=(by omega);have bo:(k1==1)=true:=(by simp[Y]);go_upto_region 9 with fail;go_quiet (fail)
     case' inr.inr.inr=>have aS:¬ (0:Int) < O:=(by omega);have bo:(k1==1)=false:=(by simp[Y]);go_upto_region 9 with fail;go_quiet (fail)
     all_goals
      go_upto_region 12 with fail
      refine G' (fun x=>∃aT,TM C A cx w x aa q sv rp aH aI I bV cw a (bt' a k1 F sn qn M).1 r lv lv hk hk U U' aT aB.heap.size f k1 F sn qn M fv aM (bt' a k1 F sn qn M).2) (by first|exact⟨_,(d' H).wrote (d' ax).2.2.2 _⟩|exact⟨_,(TM.below (d' H) (z41 (z11 _ _) _)).wrote (d' ax).2.2.2 _⟩|exact⟨_,TM.below (d' H) (z41 (z11 _ _) _)⟩|exact⟨_,d' H⟩) ?_;clear H c1 d1 d0 ak ao b2 b3 ap aj G;try clear ce
      try clear bo
      try clear Y
      try clear aS
      rintro da ⟨aT,ay⟩;have aj:=z14 ay.blk;have G:=ay.fl;have c1:=y' (i:=1) ay.blk;simp[D']at c1;obtain⟨ak,ao,b2,b3,ap⟩:=ay.box;have cf:=m' ay;clear ay;refine bK'
       [Ep q 0,Ep q 0,Ep q 1,Ep rp 0,Ev (.agg #[.int .i64 k1, .int .i64 F, .int .i64 sn, .int .i64 qn, .string M]),Et,Et]
       [[1],[1083],[2084],[3085],[10],[4086,5087],[6088]]
       [84,85,86,87,88,89,14]
       [13,1,69,6,999]
       5 _ rfl ?_ ?_ ?_
      ·refine⟨?_,?_,?_,?_,?_,trivial⟩;all_goals
        intro b x hb ab;have bE:=(hb.cell (p:=⟨q,1,none⟩) aj).trans c1;have z0:=(hb.cell (p:=⟨f,0,none⟩) G).trans ak;have cz:=(hb.cell (p:=⟨f,1,none⟩) G).trans ao;have cA:=(hb.cell (p:=⟨f,2,none⟩) G).trans b2;have z3:=(hb.cell (p:=⟨f,3,none⟩) G).trans b3;have z4:=(hb.cell (p:=⟨f,4,none⟩) G).trans ap;clear hb;simp[I']at ab;try go_simp
        try exact z11 _ _
       all_goals first|exact⟨rfl,z11 _ _⟩|skip
      ·intro f9 cb Q;rfl
      ·intro f9 db hb Q;simp only[ag',List.take]at Q;obtain⟨_,_,_,cE,cF,_⟩:=Q;have bp:=m' (TM.below (d' cf) hb);clear hb cf c1 ak ao b2 b3 ap aj G;simp only[O',cE,cF];go_simp;refine(mo' (d' bp).ref (d' aP) k1 F sn qn M (d' ai).2.1.1 (d' ai).2.1.2 (by have:=(d' ai).2.2.1;omega) (by have:=(d' ai).2.2.2.1;omega)).mono ?_;rintro dc dd ⟨cG,rfl,cg,hst⟩;obtain⟨de,df,ch⟩:=(d' bp).step hst;have aQ:=m' (ch.same (d' hd) (d' cy) cG (bc' cg) (d' aE) (d' ca) bu);clear bp cg hst ch;intro aC cv;obtain⟨m,rfl⟩:∃m,aC=m+1:=⟨aC - 1,by omega⟩;refine aY' (i:=6) (by kernel_rfl) rfl rfl ?_;go_simp;refine cu' (by kernel_rfl) ?_;unfold D' at aQ;go_upto_region 22 with fail;go_wp2_with (go_at_call 120;refine(d' aQ).mono ?_;rintro dg dh ⟨rfl,bf⟩);go_ret;rw[d' be];exact⟨rfl,bf⟩
def db' (a:Mq.Sk) (i:Int):List z10:=if 0<=i/\i < 3 then a.Qc i.toNat else []
def gK' (lv:Nat->Value) (i:Int):Value:=if 0<=i/\i < 3 then lv i.toNat else .slice none 0 0
theorem wg' (R:Jp p w x J b c) (hd:J.dead=false) (i:Int) (hi:¬ (0<=i/\i < 3)):
  Calls prog 126 #[.pointer (some ⟨w,0,none⟩), .int .i64 i] p fun e w'=>e= .returned (.slice none 0 0)/\w'=p:=by
 have c1:=y' (i:=1) R.blk;simp[az',hd]at c1;clear R hd;by_cases h0:i < 0
 ·go_enter func126,ntmps126;go_wp2;go_ret;exact⟨rfl,rfl⟩
 ·have h3:3<=i:=by omega
  go_enter func126,ntmps126;go_wp2;go_ret;exact⟨rfl,rfl⟩
theorem sx' (R:Jp p w x J b c) (hd:J.dead=false) (i:Int):
  Calls prog 126 #[.pointer (some ⟨w,0,none⟩), .int .i64 i] p fun e w'=>e= .returned (gK' b i)/\w'=p:=by
 unfold gK';by_cases h:0<=i/\i < 3
 ·rw[if_pos h];obtain⟨n,rfl⟩:=z73 h.1;exact uw' R hd n (by omega)
 ·rw[if_neg h];exact wg' R hd i h
theorem sy' (R:Jp p w x J b c) (i:Int):kN' p (gK' b i) (ao' (db' x i)):=by
 unfold gK' db';by_cases h:0<=i/\i < 3
 ·rw[if_pos h,if_pos h];have z:=R.Qc i.toNat (by omega);have hl:=z.lt;obtain⟨F,cap,e,h1,h2,h3⟩:=z.shape;refine⟨F,cap,by rw[bF'];exact e,by rw[bF'];exact h1,h2,fun h0=>?_⟩;rw[bF']at h0 ⊢;obtain⟨g,o,rfl,G⟩:=h3 h0;exact⟨g,o,rfl,hl g (by rw[e];rfl),fun j hj=>G j (by omega)⟩
 ·rw[if_neg h,if_neg h];exact bc' (B:=0) (z27 _ _ 9 _)
theorem sz' {a:Mq.Sk} (z:Jh a) (i:Int):(db' a i).length<=120:=by
 unfold db';split
 ·have:=gh' (a:=a) (s:=i.toNat) (by omega);have:=z.room;omega
 ·simp
theorem bZ' (B:Nat) (e:TypeId) (n:Nat) (xs:List Value):bm' (fun v w=>w.ownsRow B e 1 v n xs):=fun _ _ _ h hb=>L' h (fun g z=>hb.block g (z15 h g z).2)
theorem wh' (i:Int) (h:aW.At p w x D) (z:Jh x):Calls prog 32 #[D' w, .int .i64 i] p fun r w'=>
  ∃lv,r= .returned lv/\w'.ownsRow p.heap.size 9 1 lv (db' x i).length (ao' (db' x i))/\Below p.heap.size p w':=aW.log i h z
variable{j:TypeId}
theorem bz' (h:p.ownsRow w j q c r t) (hb:a<=w):p.ownsRow a j q c r t:=by
 obtain⟨h1,h2⟩:=h;refine⟨h1,?_⟩;rcases h2 with h2|⟨g,cap,z,h3,h4,h5⟩
 ·exact .inl h2
 ·exact .inr ⟨g,cap,z,h3,z26 hb h4,h5⟩
variable{O:World}{aK:Value}
theorem Zq.told {A:Nat->Nat->Prop} {N:Nat} {left:Int}
  (P:Zh aW p a q r x J b aK D left) (aa:∀F o,A F o->F < p.heap.size/\¬Us w G F/\¬aM' a r b aK D F) (Q:∀z,aM' a r b aK D z->¬Us w G z) (hb:Below p.heap.size p u) (I:∀g,Y.ownBlock=some g->p.heap.size<=g)
  (ab:Qj (fun F o=>(F < O.heap.size/\¬Us w W F)/\(A F o\/Y.ownBlock=some F\/u.heap.size<=F)) O w c f W k) (Z:Far (fun z=>Y.ownBlock=some z\/Us w G z) u O) (L:Loc u G W) (ac:k.length<=N):Zq aW A p O w a q r c f G x J b aK D N:=by
 have M:=P.lt;have ad:=hb.size;have ah:∀z,aM' a r b aK D z->¬ (Y.ownBlock=some z\/Us w G z):=by
  rintro z h (e|e)
  ·have:=I z e;have:=M z h;omega
  ·exact Q z h e
 refine⟨W,k,b,aK,D,left,ac,ab.mono ?_,(P.far (C' (E:=fun _=>False) hb) (fun _ _ h=>h)).far Z ah,fun z h=> .inl h,?_,?_,L.mono ad⟩
 ·rintro F o ⟨⟨h1,h2⟩,h3⟩;refine⟨h1,h2,fun V=>?_,?_⟩
  ·rcases h3 with h|h|h
   ·exact(aa F o h).2.2 V
   ·have:=I F h;have:=M F V;omega
   ·have:=M F V;omega
  ·rcases h3 with h|h|h
   ·exact .inl h
   ·exact .inr (I F h)
   ·exact .inr (by omega)
 ·rintro z h (e|e)
  ·exact Q z h (.inl e)
  ·rcases L with H|H|⟨g',H,ai⟩
   ·rw[H]at e;cases e
   ·exact Q z h (.inr (H ▸ e))
   ·rw[H]at e;injection e with e;have:=M z h;omega
 ·refine(C' (E:=fun z=>aM' a r b aK D z\/Us w G z) hb).trans Z ?_;rintro z aj (e|e)
  ·have:=I z e;omega
  ·exact .inr e
theorem sA' (C:cB') (A:Nat->Nat->Prop) (w:World) (G:Nat) (ac ad M:Value) (hs:List Nat) (az i:Int) (s:z10) (kp aA aB aC aD:Int) (aE:z10) (q sv rp:Nat) (a:Mq.Sk) (r:am') (lv:Nat->Value) (hk:Value) (U:Nat->Prop) (left:Int)
  (aF:Qj A w G ac ad M hs) (P:Zh C w q sv rp a r lv hk U left) (aG:∀b o,A b o->b < w.heap.size/\¬Us G M b/\¬aM' q rp lv hk U b) (aH:∀k,aM' q rp lv hk U k->¬Us G M k) (bt:hs.length+12<=17592186044416):
  Calls prog 82 #[D' G,D' q,ap' 10 az i s kp aA aB aC aD aE] w fun x w'=>x= .returned (.bool true)/\Zq C A w w' G q sv rp ac ad M a r lv hk U (hs.length+12):=by
 have ah:=m' P;have aI:=m' aF;have H:=m' aG;have aJ:=m' aH;have z:=fun(x:World) (hb:Below w.heap.size w x)=>m' (P.far (C' (E:=fun _=>False) hb) (fun _ _ h=>h));have bd:=z14 P.blk;have ai:∀x:World,Below w.heap.size w x->x.cell? ⟨q,0,none⟩=some (D' sv):=fun x hb=>y' (i:=0) (d' (z x hb)).blk;have aK:∀x:World,Below w.heap.size w x->x.cell? ⟨q,1,none⟩=some (D' rp):=fun x hb=>y' (i:=1) (d' (z x hb)).blk;have O:=m' ((z11 w.heap.size w).alloc (z13 _) (.cells #[.int .i64 10, .int .i64 az, .int .i64 i, .string s, .int .u64 kp, .int .i64 aA, .int .i64 aB, .int .i64 aC, .int .i64 aD, .string aE] 86));have aL:=m' ai;have aM:=m' aK;have z0:=ai _ (d' O);have aN:=fun x (hb:Below w.heap.size w x)=>m' (C.Qa (d' (z x hb)).Xb);have aO:=fun x (hb:Below w.heap.size w x)=>m' (wh' i (d' (z x hb)).Xb P.Vw);have aP:=fun x (hb:Below w.heap.size w x)=>m' (sx' (d' (z x hb)).ref P.dead i);clear P aF aG aH ai aK;unfold D' at *;unfold ap';go_enter func82,ntmps82;go_upto_region 5 with fail;go_upto_region 6 with (go_at_call 42;refine(d' (aN _ (by first|exact d' O|exact z41 (d' O) _))).mono ?_;rintro bu bw ⟨rfl,Z⟩);have aQ:=bE' Z 2;refine G' (fun x=>Below w.heap.size w x/\w.heap.size < x.heap.size/\x.cell? ⟨w.heap.size,2,none⟩=some (.int .i64 i)) ⟨(d' O).trans (Z.mono (by simp)),z20 (by simp) Z.size,aQ⟩ ?_;clear aQ Z z0 O;rintro aR ⟨aa,ab,c2⟩;have I:=m' aa;have aj:q < aR.heap.size:=z20 bd aa.size;have aS:=(d' aL) aR aa;clear aa;refine ae'
  [Ep q 0,Ep q 0,Ep q 0,Ep sv 0,Ep w.heap.size 2,Ei i,fun v w'=>w'.ownsRow w.heap.size 9 1 v (db' a i).length (ao' (db' a i)),fun v w'=>w'.ownsRow w.heap.size 9 1 v (db' a i).length (ao' (db' a i))]
  [[1],[1026],[2027],[3028],[5],[5030],[4029,6031],[7032]]
  [27,28,29,30,31,32,33,9]
  [8,1,17,7,999] ?_ ?_ (hst:=by repeat' (first|exact V' _|exact bZ' _ _ _ _|exact trivial|apply z12))
 ·refine⟨?_,?_,?_,?_,?_,?_,?_,?_,trivial⟩;all_goals
   intro b x hb Q;have z0:=(hb.cell (p:=⟨q,0,none⟩) aj).trans aS;have be:=(hb.cell (p:=⟨w.heap.size,2,none⟩) ab).trans c2;have ak:=aO x ((d' I).trans (hb.mono (d' I).size));have bf:=z26 (d' I).size hb.size;clear hb;simp only[I',List.getD_cons_zero,List.getD_cons_succ,Array.getD_eq_getD_getElem?]at Q;try simp only[and_true,Nat.reduceLT,Nat.reduceDiv,Nat.reduceMod,Nat.reduceSub,if_true,if_false,List.getD_cons_zero]at Q
   try go_simp
   try exact z11 _ _
  all_goals first
   |exact⟨rfl,z11 _ _⟩
   |(refine(d' ak).mono ?_;rintro e bg ⟨v,rfl,bh,bi⟩;exact⟨_,rfl,bi,bz' bh bf⟩)
   |exact⟨_,rfl,z11 _ _,Q⟩
   |skip
 ·intro f bj V F;simp only[ag']at F;have ao:=F.2.2.2.2.2.2.2.1;obtain⟨aT,ap⟩:=exq (f 8);rw[<-ap]at ao;have aU:=m' ao;have J:=m' ((d' I).trans (V.mono (d' I).size));have aV:=z20 ab V.size;have c3:=(V.cell (p:=⟨w.heap.size,2,none⟩) ab).trans c2;have aW:=z20 aj V.size;have aX:=(d' aM) bj (d' J);clear F ao V c2 aS ab aj I;simp only[O',<-ap];clear ap;go_upto_region 7 with fail;refine ae'
   [Ep q 0,Ep q 0,Ep q 1,Ep rp 0,Ep w.heap.size 2,Ei i,Ev (gK' lv i),Ev (gK' lv i)]
   [[1],[1033],[2034],[3035],[5],[5037],[4036,6038],[7039]]
   [34,35,36,37,38,39,40,10]
   [9,1,23,7,999] ?_ ?_
  ·refine⟨?_,?_,?_,?_,?_,?_,?_,?_,trivial⟩;all_goals
    intro b x hb Q;have z0:=(hb.cell (p:=⟨q,1,none⟩) aW).trans aX;have be:=(hb.cell (p:=⟨w.heap.size,2,none⟩) aV).trans c3;have ak:=aP x ((d' J).trans (hb.mono (d' J).size));clear hb;simp[I']at Q;try go_simp
    try exact z11 _ _
   all_goals first
    |exact⟨rfl,z11 _ _⟩
    |(refine(d' ak).mono ?_;rintro e bg ⟨rfl,rfl⟩;exact⟨rfl,z11 _ _⟩)
    |skip
  ·intro f2 aY aq F;simp only[ag']at F;have bk:=F.2.2.2.2.2.2.2.1;have Y:=m' ((d' J).trans (aq.mono (d' J).size));have au:=m' (bZ' _ _ _ _ _ _ _ (d' aU) aq);clear F aq c3 aX aV aW J aU;simp only[O',bk];have aZ:=(d' aI).far (C' (E:=fun _=>False) (d' Y)) (fun _ _ h=>h) (fun b o h=>⟨((d' H) b o h).1,fun h=>h⟩);have av:=fun g (bl:aT.ownBlock=some g)=>(z15 (d' au) g bl).1;have ax:=m' (pW' A aY G ac ad M aT (gK' lv i) hs (db' a i) aZ (eh' (d' au)) (sy' (d' (z aY (d' Y))).ref i)
    (fun b o h=>⟨z20 ((d' H) b o h).1 (d' Y).size,fun e=>e.elim (fun e=>by have:=av b e;have:=((d' H) b o h).1;omega) ((d' H) b o h).2.1⟩) (by omega) (by have:=sz' (d' ah).Vw i;omega))
   have ba:=m' av;clear aZ av au aO aP aN aL aM z;unfold D' at ax;go_upto_region 8 with fail;go_upto_region 9 with (go_at_call 123;refine(d' ax).mono ?_;rintro bz bA ⟨rfl,bB,bC,bm,W,bb,L⟩;have bc:=m' (Zq.told (N:=hs.length+12) (d' ah) (d' H) (d' aJ) (d' Y) (d' ba) W bb L (by omega));clear W bb L bm);obtain⟨bD,bE,bF,bG,U',bH,bn,bo,ay,bp,u3,bq,br⟩:=(d' bc).all;have c1:=y' (i:=1) ay.blk;have d0:=y' (i:=0) ay.ref.blk;simp[az',D']at c1 d0;clear bn bo ay bp u3 bq br ax ah aI H aJ Y ba;go_wp2;go_ret;exact⟨rfl,d' bc⟩
theorem qb' (C:cB') (A:Nat->Nat->Prop) (w:World) (z:Nat) (I J F:Value) (hs:List Nat) (M i:Int) (s:z10) (kp O Q V Y:Int) (Z:z10) (q sv rp:Nat) (a:Mq.Sk) (r:am') (lv:Nat->Value) (hk:Value) (U:Nat->Prop) (left:Int)
  (aa:Qj A w z I J F hs) (P:Zh C w q sv rp a r lv hk U left) (H:∀b o,A b o->b < w.heap.size/\¬Us z F b/\¬aM' q rp lv hk U b) (ac:∀k,aM' q rp lv hk U k->¬Us z F k) (ai:s.size<=140737488353980) (aj:hs.length+12<=17592186044416):
  Calls prog 82 #[D' z,D' q,ap' 9 M i s kp O Q V Y Z] w fun x w'=>x= .returned (.bool true)/\Zq C A w w' z q sv rp I J F (aH' a s.data.toList).2.1 r lv hk U (hs.length+12):=by
 have G:=m' ((z11 w.heap.size w).alloc (z13 _) (.cells #[.int .i64 9, .int .i64 M, .int .i64 i, .string s, .int .u64 kp, .int .i64 O, .int .i64 Q, .int .i64 V, .int .i64 Y, .string Z] 86));have ad:=P.far (C' (E:=fun _=>False) (d' G)) (fun _ _ h=>h);have ah:=aa.far (C' (E:=fun _=>False) (d' G)) (fun _ _ h=>h) (fun b o h=>⟨(H b o h).1,fun h=>h⟩);have ak:=m' (uD' C A _ z I J F hs 9 M i s kp O Q V Y Z q sv rp a r lv hk U left ah ad (fun b o h=>⟨z20 (H b o h).1 (d' G).size,(H b o h).2⟩) ac ai aj);have aE:=m' P.lt;have aF:=m' aa.Vt;clear ad ah P aa H ac;unfold D' ap' at *;go_enter func82,ntmps82;go_wp2_with (go_at_call 125;refine(d' ak).mono ?_;rintro aG aH ⟨rfl,ao⟩);go_ret;refine⟨rfl,?_⟩;obtain⟨ap,aq,au,av,U',ax,ay,az,aA,aB,u3,aC,aD⟩:=ao.all;have ab:=(d' G).size;exact⟨ap,aq,au,av,U',ax,ay,az.mono (fun b o h=>⟨h.1,h.2.1,h.2.2.1,h.2.2.2.imp id (fun h=>z26 ab h)⟩),aA,fun k h=>(aB k h).imp id (fun h=>z26 ab h),u3,(C' (E:=fun k=>aM' q rp lv hk U k\/Us z F k) (d' G)).trans aC (fun _ _ h=>h),aD.mono ab⟩
structure Xg {top:Nat} (C:aW' top) (M:Nat) (A:Nat->Nat->Prop) (w y:World) (wb q sv rp:Nat) (as_ ss hv:Value) (a':Mq.Ag) (r:ah') (kv hk:Nat->Value) (U:Nat->Prop) (N:Nat):Prop where
 all:∃ (hv3:Value) (hs3:List Nat) (kvd hkd:Nat->Value) (U':Nat->Prop) (left:Int),hs3.length<=N/\
  Qj (fun b o=>b < y.heap.size/\¬Us wb hv3 b/\¬ac' q rp kvd hkd U' b/\(A b o\/w.heap.size<=b)) y wb as_ ss hv3 hs3/\Jf C M y q sv rp a' r kvd hkd U' left/\
  (∀k,ac' q rp kvd hkd U' k->ac' q rp kv hk U k\/w.heap.size<=k)/\(∀k,ac' q rp kvd hkd U' k->¬Us wb hv3 k)/\Far (fun k=>ac' q rp kv hk U k\/Us wb hv k) w y/\Loc w hv hv3
theorem Xg.told {aa:aW' w} {A:Nat->Nat->Prop} {N:Nat} {left:Int}
  (P:Jf aa a p r C aB y H b z D left) (ac:∀I o,A I o->I < p.heap.size/\¬Us q G I/\¬ac' r aB b z D I) (V:∀F,ac' r aB b z D F->¬Us q G F) (hb:Below p.heap.size p u) (M:∀g,Y.ownBlock=some g->p.heap.size<=g)
  (ad:Qj (fun I o=>(I < O.heap.size/\¬Us q W I)/\(A I o\/Y.ownBlock=some I\/u.heap.size<=I)) O q c f W k) (ab:Far (fun F=>Y.ownBlock=some F\/Us q G F) u O) (L:Loc u G W) (ah:k.length<=N):Xg aa a A p O q r C aB c f G y H b z D N:=by
 have Q:=P.lt;have ai:=hb.size;have aj:∀F,ac' r aB b z D F->¬ (Y.ownBlock=some F\/Us q G F):=by
  rintro F h (e|e)
  ·have:=M F e;have:=Q F h;omega
  ·exact V F h e
 refine⟨W,k,b,z,D,left,ah,ad.mono ?_,(P.far (C' (E:=fun _=>False) hb) (fun _ _ h=>h)).far ab aj,fun F h=> .inl h,?_,?_,L.mono ai⟩
 ·rintro I o ⟨⟨h1,h2⟩,h3⟩;refine⟨h1,h2,fun Z=>?_,?_⟩
  ·rcases h3 with h|h|h
   ·exact(ac I o h).2.2 Z
   ·have:=M I h;have:=Q I Z;omega
   ·have:=Q I Z;omega
  ·rcases h3 with h|h|h
   ·exact .inl h
   ·exact .inr (M I h)
   ·exact .inr (by omega)
 ·rintro F h (e|e)
  ·exact V F h (.inl e)
  ·rcases L with J|J|⟨g',J,ak⟩
   ·rw[J]at e;cases e
   ·exact V F h (.inr (J ▸ e))
   ·rw[J]at e;injection e with e;have:=Q F h;omega
 ·refine(C' (E:=fun F=>ac' r aB b z D F\/Us q G F) hb).trans ab ?_;rintro F ao (e|e)
  ·have:=M F e;omega
  ·exact .inr e
theorem my' (C:aW' w) (A:Nat->Nat->Prop) (z:World) (J:Nat) (ah ai V:Value) (hs:List Nat) (aF i:Int) (s:z10) (kp aG aH aI aJ:Int) (aK:z10) (q sv rp:Nat) (F:Mq.Ag) (r:ah') (lv hk:Nat->Value) (U:Nat->Prop) (left:Int)
  (aL:Qj A z J ah ai V hs) (P:Jf C a z q sv rp F r lv hk U left) (aM:∀b o,A b o->b < z.heap.size/\¬Us J V b/\¬ac' q rp lv hk U b) (aN:∀k,ac' q rp lv hk U k->¬Us J V k) (bC:hs.length+12<=17592186044416):
  Calls prog 80 #[D' J,D' q,ap' 7 aF i s kp aG aH aI aJ aK] z fun x w'=>x= .returned (.bool true)/\Xg C a A z w' J q sv rp ah ai V F r lv hk U (hs.length+12):=by
 have aO:=m' P;have bj:(aP' F i).length<=24:=by
  unfold aP';split
  ·have:=P.ref.kl i.toNat (by omega);simpa[Mq.Ag.Zx]using this
  ·simp
 have aP:=m' aL;have M:=m' aM;have aQ:=m' aN;have O:=fun(x:World) (hb:Below z.heap.size z x)=>m' (P.far (C' (E:=fun _=>False) hb) (fun _ _ h=>h));have bk:=z14 P.blk;have aj:∀x:World,Below z.heap.size z x->x.cell? ⟨q,0,none⟩=some (D' sv):=fun x hb=>y' (i:=0) (d' (O x hb)).blk;have aR:∀x:World,Below z.heap.size z x->x.cell? ⟨q,1,none⟩=some (D' rp):=fun x hb=>y' (i:=1) (d' (O x hb)).blk;have Y:=m' ((z11 z.heap.size z).alloc (z13 _) (.cells #[.int .i64 7, .int .i64 aF, .int .i64 i, .string s, .int .u64 kp, .int .i64 aG, .int .i64 aH, .int .i64 aI, .int .i64 aJ, .string aK] 86));have aS:=m' aj;have aT:=m' aR;have z0:=aj _ (d' Y);have aU:=fun x (hb:Below z.heap.size z x)=>m' (C.Qa (d' (O x hb)).Xb);have aV:=fun x (hb:Below z.heap.size z x)=>m' (C.Zx i (d' (O x hb)).Xb);have aW:=fun x (hb:Below z.heap.size z x)=>m' (mu' (d' (O x hb)).ref P.dead i);clear P aL aM aN aj aR;unfold D' at *;unfold ap';go_enter func80,ntmps80;go_upto_region 11 with fail;go_upto_region 12 with (go_at_call 39;refine(d' (aU _ (by first|exact d' Y|exact z41 (d' Y) _))).mono ?_;rintro bD bE ⟨rfl,aa⟩);have aX:=bE' aa 2;refine G' (fun x=>Below z.heap.size z x/\z.heap.size < x.heap.size/\x.cell? ⟨z.heap.size,2,none⟩=some (.int .i64 i)) ⟨(d' Y).trans (aa.mono (by simp)),z20 (by simp) aa.size,aX⟩ ?_;clear aX aa z0 Y;rintro aY ⟨ab,ac,c2⟩;have Q:=m' ab;have ak:q < aY.heap.size:=z20 bk ab.size;have aZ:=(d' aS) aY ab;clear ab;refine ae'
  [Ep q 0,Ep q 0,Ep q 0,Ep sv 0,Ep z.heap.size 2,Ei i,fun v w'=>w'.ownsRow z.heap.size 9 1 v (aP' F i).length (ao' (aP' F i)),fun v w'=>w'.ownsRow z.heap.size 9 1 v (aP' F i).length (ao' (aP' F i))]
  [[1],[1049],[2050],[3051],[5],[5053],[4052,6054],[7055]]
  [50,51,52,53,54,55,56,11]
  [10,1,38,7,999] ?_ ?_ (hst:=by repeat' (first|exact V' _|exact bZ' _ _ _ _|exact trivial|apply z12))
 ·refine⟨?_,?_,?_,?_,?_,?_,?_,?_,trivial⟩;all_goals
   intro b x hb G;have z0:=(hb.cell (p:=⟨q,0,none⟩) ak).trans aZ;have bl:=(hb.cell (p:=⟨z.heap.size,2,none⟩) ac).trans c2;have ao:=aV x ((d' Q).trans (hb.mono (d' Q).size));have ap:=z26 (d' Q).size hb.size;clear hb;simp only[I',List.getD_cons_zero,List.getD_cons_succ,Array.getD_eq_getD_getElem?]at G;try simp only[and_true,Nat.reduceLT,Nat.reduceDiv,Nat.reduceMod,Nat.reduceSub,if_true,if_false,List.getD_cons_zero]at G
   try go_simp
   try exact z11 _ _
  all_goals first
   |exact⟨rfl,z11 _ _⟩
   |(refine(d' ao).mono ?_;rintro e bm ⟨v,rfl,aq,au⟩;exact⟨_,rfl,au,bz' aq ap⟩)
   |exact⟨_,rfl,z11 _ _,G⟩
   |skip
 ·intro f bn Z H;simp only[ag']at H;have av:=H.2.2.2.2.2.2.2.1;obtain⟨ba,ax⟩:=exq (f 10);rw[<-ax]at av;have bb:=m' av;have I:=m' ((d' Q).trans (Z.mono (d' Q).size));have bc:=z20 ac Z.size;have c3:=(Z.cell (p:=⟨z.heap.size,2,none⟩) ac).trans c2;have bd:=z20 ak Z.size;have be:=(d' aT) bn (d' I);clear H av Z c2 aZ ac ak Q;simp only[O',<-ax];clear ax;go_upto_region 13 with fail;refine ae'
   [Ep q 0,Ep q 0,Ep q 1,Ep rp 0,Ep z.heap.size 2,Ei i,fun v w'=>w'.ownsRow z.heap.size 9 1 v (aP' F i).length (ao' (aP' F i)),fun v w'=>w'.ownsRow z.heap.size 9 1 v (aP' F i).length (ao' (aP' F i))]
   [[1],[1056],[2057],[3058],[5],[5060],[4059,6061],[7062]]
   [57,58,59,60,61,62,63,12]
   [11,1,44,7,999] ?_ ?_ (hst:=by repeat' (first|exact V' _|exact bZ' _ _ _ _|exact trivial|apply z12))
  ·refine⟨?_,?_,?_,?_,?_,?_,?_,?_,trivial⟩;all_goals
    intro b x hb G;have z0:=(hb.cell (p:=⟨q,1,none⟩) bd).trans be;have bl:=(hb.cell (p:=⟨z.heap.size,2,none⟩) bc).trans c3;have ao:=aW x ((d' I).trans (hb.mono (d' I).size));have ap:=z26 (d' I).size hb.size;clear hb;simp only[I',List.getD_cons_zero,List.getD_cons_succ,Array.getD_eq_getD_getElem?]at G;try simp only[and_true,Nat.reduceLT,Nat.reduceDiv,Nat.reduceMod,Nat.reduceSub,if_true,if_false,List.getD_cons_zero]at G
    try go_simp
    try exact z11 _ _
   all_goals first
    |exact⟨rfl,z11 _ _⟩
    |(refine(d' ao).mono ?_;rintro e bm ⟨v,rfl,aq,au⟩;exact⟨_,rfl,au,bz' aq ap⟩)
    |exact⟨_,rfl,z11 _ _,G⟩
    |skip
  ·intro f2 bo ay H;simp only[ag']at H;obtain⟨bp,az⟩:=exq (f2 11);have aA:=H.2.2.2.2.2.2.2.1;rw[<-az]at aA;have bq:=m' aA;have ad:=m' ((d' I).trans (ay.mono (d' I).size));have aB:=m' (bZ' _ _ _ _ _ _ _ (d' bb) ay);clear H ay c3 be bc bd I bb aA;simp only[O',<-az];clear az;have bf:=(d' aP).far (C' (E:=fun _=>False) (d' ad)) (fun _ _ h=>h) (fun b o h=>⟨((d' M) b o h).1,fun h=>h⟩);have aC:=fun g (br:ba.ownBlock=some g)=>(z15 (d' aB) g br).1;have aD:=m' (pW' A bo J ah ai V ba bp hs (aP' F i) bf (eh' (d' aB)) (bc' (d' bq))
    (fun b o h=>⟨z20 ((d' M) b o h).1 (d' ad).size,fun e=>e.elim (fun e=>by have:=aC b e;have:=((d' M) b o h).1;omega) ((d' M) b o h).2.1⟩) (by omega) (by have:=bj;omega))
   have bg:=m' aC;clear bf aC aB aV aW aU aS aT O;unfold D' at aD;go_upto_region 14 with fail;go_upto_region 15 with (go_at_call 123;refine(d' aD).mono ?_;rintro bF bG ⟨rfl,bH,bI,bt,W,bh,L⟩;have bi:=m' (Xg.told (N:=hs.length+12) (d' aO) (d' M) (d' aQ) (d' ad) (d' bg) W bh L (by omega));clear W bh L bt);obtain⟨bJ,bK,bL,bM,U',bN,bu,bw,aE,bz,u3,bA,bB⟩:=(d' bi).all;have c1:=y' (i:=1) aE.blk;have d0:=y' (i:=0) aE.ref.blk;simp[ai',D']at c1 d0;clear bu bw aE bz u3 bA bB aD aO aP M aQ ad bg;go_wp2;go_ret;exact⟨rfl,d' bi⟩
theorem hR' (e s:Nat) (f:Mq.Jl) (t:Nat) (hb:∀x∈f.kept,x.1.size<=20):∀i,(Mq.sendTo e s f t i).2.length<=i/\∀l∈ (Mq.sendTo e s f t i).2,l.length<=35
 |0=>⟨z13 _,fun l hl=>by cases hl⟩
 |i+1=>by
  obtain⟨h1,h2⟩:=hR' e s f t hb i;rw[Mq.sendTo];split
  ·exact⟨by omega,h2⟩
  ·rename_i x z;split
   ·refine⟨by simp;omega,fun l hl=>?_⟩;rw[z61,z51]at hl;rcases hl with hl|rfl
    ·exact h2 l hl
    ·have:=hb x (z72 z);rw[Qb.Vm];simp;omega
   ·exact⟨by omega,h2⟩
theorem sB' (z:Jn w y):y.tick.2.length<=12/\∀l∈y.tick.2,l.length<=35:=by
 unfold Mq.Ag.tick;split
 ·exact⟨by simp,fun l hl=>by cases hl⟩
 ·split
  ·refine⟨by simp,fun l hl=>?_⟩;rw[z51]at hl;rw[hl,Qb.Vm];simp
  ·have h:=fun s (hs:s < 3)=>hR' y.Qa s (y.fl s) (y.Qf+1) (fun x F=>(z.bod s hs x F).1) 4;have h0:=h 0 (by omega);have h1:=h 1 (by omega);have h2:=h 2 (by omega);simp only[Mq.Zl,List.nil_append];refine⟨by simp only[List.length_append];omega,fun l hl=>?_⟩;rw[z61,z61]at hl;rcases hl with (hl|hl)|hl
   ·exact h0.2 l hl
   ·exact h1.2 l hl
   ·exact h2.2 l hl
theorem wi' (L:List (List UInt8)):((L.map fun l=>(⟨l.toArray⟩:z10)).map fun b=>b.data.toList)=L:=by
 rw[rX'];conv=>rhs;rw[<-List.map_id L]
 apply yc';intro l _;simp
variable{bB dI:Nat}{cN:List (List UInt8)}{aX:Mq.Ag}{X:Int}
theorem uE' {ac:aW' w} {A:Nat->Nat->Prop} {left:Int}
  (ap:Qj A p C c f G k) (P:Jf ac a p aB aS bB y H b z D left) (Z:∀I Q,A I Q->I < p.heap.size/\¬Us C G I/\¬ac' aB bB b z D I) (aq:∀F,ac' aB bB b z D F->¬Us C G F)
  (T:AM ac p u aB aS bB y aX H b b z z D aH M dI X o) (ad:Qh q u W t (cN.map fun l=>⟨l.toArray⟩) aH) (aU:p.heap.size<=q) (aE:aU' u O bB aX H b z) (aF:O.ownsRow u.heap.size 9 1 Y r (er' cN)) (hd:H.dead=false) (aG:Jn (a+1) aX) (aI:cN.length<=12/\∀l∈cN,l.length<=35) (aV:k.length+52<=17592186044416):
  Calls prog 120 #[D' C,W,Y] O fun e au=>e= .returned (.bool true)/\Xg ac (a+1) A p au C aB aS bB c f G aX H b z D (k.length+52):=by
 have av:=P.lt;have aJ:=ap.Vt;have aa:∀F,(W.ownBlock=some F\/Zc t t.length F)->q<=F/\F < u.heap.size:=ad.lt;obtain⟨ah,ai,aK,ax,ay⟩:=aE;have J:=T.stepAt aK ax ay;have aW:=T.far.size;have az:∀F,(W.ownBlock=some F\/Zc t t.length F)->¬aO' bB b z F:=fun F h aL=>by have:=aa F h;have:=av F (.inr (.inl aL));omega
 have ak:=ad.keep (x:=O) (fun F h=>ax.rest F (aa F h).2 (az F h));have aM:t.length=cN.length:=by have:=ad.len;simpa using this
 have aN:=ap.far J.far (fun F hu V=>aq F V hu) (fun I Q h=>⟨(Z I Q h).1,(Z I Q h).2.2⟩);have aO:=J.far.size;have aP:∀j,(cN.getD j []).length<=1000:=by
  intro j;rw[z17];rcases tZ' j cN.length with h|h
  ·have:=aI.2 cN[j] (z81 h);rw[z18 h];simp only[Option.getD_some];omega
  ·rw[z76 h];simp
 have ao:∀F,ac' aB bB ah ai aH F->ac' aB bB b z D F\/p.heap.size<=F:=by
  rintro F (h|h|h)
  ·exact .inl (.inl h)
  ·exact(J.Yi F h).imp (fun h=> .inr (.inl h)) id
  ·exact(J.Wf F h).imp (fun h=> .inr (.inr h)) id
 have aA:∀F,ac' aB bB ah ai aH F->F < O.heap.size:=by
  rintro F (rfl|h|h)
  ·exact z14 J.blk
  ·exact J.ref.lt F h
  ·exact ac.lt J.Xb F h
 have ab:∀F,ac' aB bB ah ai aH F->¬ ((W.ownBlock=some F\/Zc t t.length F)\/Us C G F):=by
  intro F V;rintro(e|e)
  ·have h1:=aa F e;rcases V with h|h|h
   ·have:=av F (.inl h);omega
   ·rcases ay F h with h|h
    ·exact az F e h
    ·omega
   ·exact ad.clear F e h
  ·rcases ao F V with h|h
   ·exact aq F h e
   ·have:=aJ F e;omega
 refine(pX' A O C c f G W Y k t cN aN aM (eh' ak.row) (by have:=bc' aF;exact this) (fun j v h=>by have:=eh' (ak.each j v h);rw[wi']at this;exact this) ak.apart ?_ (by omega) (by omega) aP).mono ?_
 ·intro I Q h;refine⟨by have:=(Z I Q h).1;omega,?_⟩;rintro(e|e|e)
  ·have:=aa I (.inl e);have:=(Z I Q h).1;omega
  ·have:=aa I (.inr e);have:=(Z I Q h).1;omega
  ·exact(Z I Q h).2.1 e
 ·rintro e au ⟨rfl,aQ,aR,aY,aT,aj,aC⟩;refine⟨rfl,aQ,aR,ah,ai,aH,M,by omega,aT.mono ?_,?_,?_,?_,?_,aC.mono aO⟩
  ·rintro I Q ⟨⟨h1,h2⟩,h3⟩;refine⟨h1,h2,fun V=>?_,?_⟩
   ·rcases h3 with h|h|h
    ·rcases ao I V with aD|aD
     ·exact(Z I Q h).2.2 aD
     ·have:=(Z I Q h).1;omega
    ·exact ab I V (.inl h)
    ·have:=aA I V;omega
   ·rcases h3 with h|h|h
    ·exact .inl h
    ·exact .inr (by have:=aa I h;omega)
    ·exact .inr (by omega)
  ·exact⟨aj.blk J.blk (ab aB (.inl rfl)),ac.far J.Xb aj (fun F h=>ab F (.inr (.inr h))),J.ref.far aj (fun F h=>ab F (.inr (.inl h))),hd,aG,J.qU,J.qR,J.UR⟩
  ·exact ao
  ·rintro F V (e|e)
   ·exact ab F V (.inr (.inl e))
   ·rcases aC with h|h|⟨g',h,aZ⟩
    ·rw[h]at e;cases e
    ·exact ab F V (.inr (.inr (h ▸ e)))
    ·rw[h]at e;injection e with e;have:=aA F V;omega
  ·refine(J.far.mono (E':=fun F=>ac' aB bB b z D F\/Us C G F) (fun _ _ h=> .inl h)).trans aj ?_;rintro F ba (e|e)
   ·have:=aa F e;omega
   ·exact .inr e
theorem oq' (C:aW' w) (A:Nat->Nat->Prop) (z:World) (F:Nat) (Q V H:Value) (hs:List Nat) (Y i:Int) (s:z10) (kp Z aa ab ac:Int) (ad:z10) (q sv rp:Nat) (ah:Mq.Ag) (r:ah') (I hk:Nat->Value) (U:Nat->Prop) (left:Int)
  (ai:Qj A z F Q V H hs) (P:Jf C a z q sv rp ah r I hk U left) (aH:a < w) (aI:a+1<=2147483647) (aj:∀b o,A b o->b < z.heap.size/\¬Us F H b/\¬ac' q rp I hk U b) (ak:∀k,ac' q rp I hk U k->¬Us F H k) (aJ:hs.length+52<=17592186044416):
  Calls prog 80 #[D' F,D' q,ap' 5 Y i s kp Z aa ab ac ad] z fun x w'=>x= .returned (.bool true)/\Xg C (a+1) A z w' F q sv rp Q V H ah.tick.1 r I hk U (hs.length+52):=by
 have G:=m' P;have ao:=m' ai;have ap:=m' aj;have aq:=m' ak;have hd:=m' P.dead;have au:=m' (sB' P.Vw);have O:=m' ((z11 z.heap.size z).alloc (z13 _) (.cells #[.int .i64 5, .int .i64 Y, .int .i64 i, .string s, .int .u64 kp, .int .i64 Z, .int .i64 aa, .int .i64 ab, .int .i64 ac, .string ad] 86));have J:=P.far (C' (E:=fun _=>False) (d' O)) (fun _ _ h=>h);have av:=y' (i:=0) J.blk;have ax:=m' (C.tick J.Xb J.Vw aH);clear P ai aj ak J;simp at av;unfold D' ap' at *;go_enter func80,ntmps80;go_upto_region 6 with (go_at_call 24;refine(d' ax).mono ?_;rintro aL aM ⟨aN,aO,U',rfl,ay,az,hF,aA⟩;have M:=m' (AM.start (f:=z.heap.size) (i:=i) (s:=s) (d' G) (d' O) (z13 _) (by simp) (by simp) (by simp) az hF aA);have aB:=m' ay;clear ay az hF aA);have aK:=y' (i:=1) (d' M).blk;simp[D']at aK;have aC:=m' (qa' (d' M).ref (d' hd) (d' G).Vw aI);clear ax av;go_upto_region 7 with (go_at_call 119;refine(d' aC).mono ?_;rintro aP aQ ⟨aR,n,rfl,aD,hst⟩;have aE:=m' aD;have aF:=m' hst;clear aD hst);have aG:=m' (uE' (d' ao) (d' G) (d' ap) (d' aq) (d' M) (d' aB) (d' O).size (d' aF) (d' aE) (d' hd) (pY' (d' G).Vw) (d' au) aJ);clear M aB aF aE aC au G ao ap aq;unfold D' at aG;go_wp2_with (go_at_call 120;refine(d' aG).mono ?_;rintro aS aT ⟨rfl,D⟩);go_ret;exact⟨rfl,D⟩
theorem kQ'.taken {Z:aW' w} {A:Nat->Nat->Prop}
  (aa:Qj A p r c f G k) (Q:∀F o,A F o->F < p.heap.size/\¬Us r G F/\¬ac' C aS b z D F) (ab:∀I,ac' C aS b z D I->¬Us r G I) (hb:Below p.heap.size p u) (ac:kQ' Z a u O C aB aS y H b z D) (ad:k.length<=q):Xg Z a A p O r C aB aS c f G y H b z D q:=by
 obtain⟨ah,ai,U',left,P,aj,V⟩:=ac.all;have ao:=hb.size;have Y:=(C' (E:=ac' C aS b z D) hb).trans aj (fun _ _ h=>h);have ak:=aa.Vt;refine⟨G,k,ah,ai,U',left,ad,(aa.far Y (fun I hu J=>ab I J hu) (fun F o h=>⟨(Q F o h).1,(Q F o h).2.2⟩)).mono ?_,P,fun I h=>(V I h).imp id (by omega),?_,Y.mono (fun _ _ h=> .inl h), .inr (.inl rfl)⟩
 ·intro F o h;have h1:=Q F o h;refine⟨by have:=Y.size;omega,h1.2.1,fun J=>?_, .inl h⟩;rcases V F J with M|M
  ·exact h1.2.2 M
  ·omega
 ·intro I J hu;rcases V I J with M|M
  ·exact ab I M hu
  ·have:=ak I hu;omega
theorem kR' (C:aW' w) (A:Nat->Nat->Prop) (z:World) (F:Nat) (Z aa H:Value) (hs:List Nat) (I i:Int) (s:z10) (kp J M O Q:Int) (V:z10) (q sv rp:Nat) (Y:Mq.Ag) (r:ah') (G hk:Nat->Value) (U:Nat->Prop) (left:Int)
  (ab:Qj A z F Z aa H hs) (P:Jf C a z q sv rp Y r G hk U left) (ai:a < w) (ac:∀b o,A b o->b < z.heap.size/\¬Us F H b/\¬ac' q rp G hk U b) (ad:∀k,ac' q rp G hk U k->¬Us F H k):
  Calls prog 80 #[D' F,D' q,ap' 4 I i s kp J M O Q V] z fun x w'=>x= .returned (.bool true)/\Xg C (a+1) A z w' F q sv rp Z aa H (bg' Y i s) r G hk U hs.length:=by
 have ah:=m' ((z11 z.heap.size z).alloc (z13 _) (.cells #[.int .i64 4, .int .i64 I, .int .i64 i, .string s, .int .u64 kp, .int .i64 J, .int .i64 M, .int .i64 O, .int .i64 Q, .string V] 86));have aj:=m' (mw' C _ 4 I i s kp J M O Q V q sv rp Y r G hk U left (P.far (C' (E:=fun _=>False) (d' ah)) (fun _ _ h=>h)) ai);have ak:=m' ab;have ao:=m' ac;have ap:=m' ad;clear ab P ac ad;unfold D' ap' at *;go_enter func80,ntmps80;go_wp2_with (go_at_call 118;refine(d' aj).mono ?_;rintro aq au ⟨rfl,D⟩);go_ret;exact⟨rfl,kQ'.taken (d' ak) (d' ao) (d' ap) (d' ah) D (z13 _)⟩
structure ATL {top:Nat} (C:aW' top) (w x:World) (q sv rp:Nat) (a a':Mq.Ag) (r:ah') (lv hk:Nat->Value) (U U':Nat->Prop) (left:Int) (s:z10) (g n8 B:Nat) (fv:Value) (fs:List Value) (Fl:List z10):Prop where
 far:Far (ac' q rp lv hk U) w x
 lg:w.heap.size < g
 gB:g < B
 bx:B<=x.heap.size
 s3:x.cell? ⟨w.heap.size,3,none⟩=some (.string s)
 own:x.ownsRow 0 5 1 (.slice (some ⟨g,0,none⟩) n8 n8) n8 (bv (bO' s))
 blk:x.heap[q]? =some (.cells #[D' sv,D' rp, .bool false, .int .i64 left] 128 (0,0))
 Xb:C.At x sv a' U'
 ref:Qk x rp a r lv hk
 out:Qh B x fv fs Fl U'
 new:∀k,U' k->U k\/B<=k
theorem ATL.below {I:Nat} {C:aW' I} {w x y:World} {q sv rp:Nat} {a a':Mq.Ag} {r:ah'} {lv hk:Nat->Value} {U U':Nat->Prop} {left:Int} {s:z10} {g F B:Nat} {fv:Value} {G:List Value} {H:List z10}
  (h:ATL C w x q sv rp a a' r lv hk U U' left s g F B fv G H) (hb:Below x.heap.size x y):ATL C w y q sv rp a a' r lv hk U U' left s g F B fv G H:=by
 have hl:=h.lg;have J:=h.gB;have M:=h.bx;have z:Far (fun _=>False) x y:=C' hb;exact⟨h.far.trans z (fun _ _ h=>h.elim),hl,J,z26 M hb.size,(hb.cell (p:=⟨w.heap.size,3,none⟩) (by show w.heap.size < _;omega)).trans h.s3,z.own h.own (fun _ _ h=>h),z.blk h.blk (fun h=>h),C.far h.Xb z (fun _ _ h=>h),h.ref.far z (fun _ _ h=>h),
  h.out.keep (fun k hk=>hb.block k (h.out.lt k hk).2),h.new⟩
theorem ATL.start {F:aW' w} {left:Int} {s:z10}
  (P:Jf F a p q r C y H b z D left) (L:Lay p u s aB aS) (M:Qh u.heap.size O c t T aH) (Q:F.At O r aX aH) (hF:Far D u O) (V:∀k,aH k->D k\/u.heap.size<=k):ATL F p O q r C y aX H b z D aH left s aB aS u.heap.size c t T:=by
 have hl:=L.lt;have Y:=L.glt;have Z:=F.lt P.Xb;have I:Far (fun _=>False) p u:=C' L.bel;have G:=P.far I (fun _ _ h=>h);have J:∀k,p.heap.size<=k->¬D k:=fun k h hu=>by have:=Z k hu;omega
 exact⟨(I.mono (fun _ _ h=>h.elim)).trans hF (fun k _ h=> .inr (.inr h)),hl,Y,hF.size,(z39 (hF.rest p.heap.size (by omega) (J _ (z13 _)))).trans L.s3,
  hF.own L.own (fun k z=>by cases z;exact J aB (by omega)),hF.blk G.blk G.qU,Q,G.ref.far hF (fun k z hu=>G.UR k hu z),M,V⟩
structure ATM {top:Nat} (C:aW' top) (A A2:Nat->Nat->Prop) (w x:World) (wb q sv rp:Nat) (as_ ss hv hv2:Value) (hs2:List Nat) (ar ap:Mq.Ag) (r:ah') (lv lvc hk hkc:Nat->Value) (U U':Nat->Prop) (left:Int) (B f:Nat) (k1 e1 s1 q1:Int) (b1:z10) (fv:Value) (fs:List Value) (Fl:List z10):Prop where
 far:Far (fun k=>ac' q rp lv hk U k\/Us wb hv k) w x
 wB:w.heap.size<=B
 wat:Qj A2 x wb as_ ss hv2 hs2
 a2:∀b o,A2 b o->b < x.heap.size/\¬Us wb hv2 b/\¬ac' q rp lvc hkc U' b/\¬hQ' fv fs b
 sub:∀b o,A2 b o->A b o\/w.heap.size<=b
 loc:Loc w hv hv2
 us:∀k,(ac' q rp lvc hkc U' k\/hQ' fv fs k)->¬Us wb hv2 k
 blk:x.heap[q]? =some (.cells #[D' sv,D' rp, .bool false, .int .i64 left] 128 (0,0))
 Xb:C.At x sv ap U'
 ref:Qk x rp ar r lvc hkc
 out:Qh B x fv fs Fl U'
 Wf:∀k,U' k->U k\/w.heap.size<=k
 Yi:∀k,aO' rp lvc hkc k->aO' rp lv hk k\/w.heap.size<=k
 qU:¬U' q
 qR:¬aO' rp lvc hkc q
 UR:∀k,U' k->¬aO' rp lvc hkc k
 outs:∀k,hQ' fv fs k->¬ac' q rp lvc hkc U' k
 box:Xx x f k1 e1 s1 q1 b1
 fl:f < x.heap.size
 fw:¬ac' q rp lvc hkc U' f
theorem ATL.bat {F:aW' w} {left:Int}
  (h:ATL F p u a q r y aX H b z D aH left o C aB aS c t T) (hn:o.size+8=aB):BAt (fun _ _=>True) u (.slice (some ⟨C,0,none⟩) aB aB) (bO' o):=
 bo' (by have:=h.own;rw[Z',aN',hn];exact this) (fun _ _ _ _=>trivial)
theorem ATL.world {Q:aW' w} {A:Nat->Nat->Prop} {left:Int}
  (h:ATL Q p u q r C y aX H b z D aH left o aB aS bB W t T) (V:Qj A p a c f G k) (M:∀F I,A F I->F < p.heap.size/\¬Us a G F/\¬ac' q C b z D F) (Y:∀J,ac' q C b z D J->¬Us a G J) (O:Obj):Qj A (u.alloc O) a c f G k:=
 V.far (h.far.trans (C' (E:=fun _=>False) ((z11 _ _).alloc (z13 _) O)) (fun _ _ h=>h.elim)) (fun J hu Z=>Y J Z hu) (fun F I hb=>⟨(M F I hb).1,(M F I hb).2.2⟩)
theorem ATL.keepA {I:aW' w} {A:Nat->Nat->Prop} {left:Int}
  (h:ATL I p u q r C y aX H b z D aH left o aB aS bB f t T) (J:∀F G,A F G->F < p.heap.size/\¬Us a c F/\¬ac' q C b z D F) (M:Obj):∀F G,A F G->F < (u.alloc M).heap.size/\¬ew' u.heap.size a c (.slice none 0 0) (.slice (some ⟨aB,0,none⟩) aS aS) (.slice none 0 0) F:=by
 intro F G hb;have h1:=J F G hb;have h2:=h.lg;have h3:=h.gB;have h4:=h.bx;refine⟨by simp;omega,?_⟩;rintro(e|(e|e|e)|e)
 ·omega
 ·cases e
 ·have:=gA' e;have:=h1.1;omega
 ·cases e
 ·exact h1.2.1 e
theorem ATM.start {aG N:Nat} {C:aW' aG} {A:Nat->Nat->Prop} {w x y:World} {z q sv rp:Nat} {ad ah F M:Value} {hs aq:List Nat} {a a':Mq.Ag} {r:ah'} {lv hk:Nat->Value} {U U':Nat->Prop} {left:Int} {s:z10} {g G B f:Nat} {fv:Value} {O:List Value} {au:List z10} {k1 av s1 ax:Int} {ay:z10} {H:Obj}
  (P:Jf C N w q sv rp a r lv hk U left) (T:ATL C w x q sv rp a a' r lv hk U U' left s g G B fv O au) (aH:Qj A w z ad ah F hs) (ai:∀b o,A b o->b < w.heap.size/\¬Us z F b/\¬ac' q rp lv hk U b) (aI:∀k,ac' q rp lv hk U k->¬Us z F k)
  (aJ:Xx x f k1 av s1 ax ay) (aj:f < x.heap.size) (aV:w.heap.size<=f) (aK:f≠g) (aL:¬U' f)
  (aM:Qj (fun b o=>(b < y.heap.size/\¬Us z M b)/\(A b o\/b=x.heap.size\/((Value.slice none 0 0).ownBlock=some b\/(Value.slice (some ⟨g,0,none⟩) G G).ownBlock=some b\/(Value.slice none 0 0).ownBlock=some b)\/(x.alloc H).heap.size<=b)) y z ad ah M aq)
  (hF:Far (ew' x.heap.size z F (.slice none 0 0) (.slice (some ⟨g,0,none⟩) G G) (.slice none 0 0)) (x.alloc H) y) (az:Loc (x.alloc H) F M):
  ATM C A (fun b o=>(b < y.heap.size/\¬Us z M b)/\(A b o\/b=x.heap.size\/((Value.slice none 0 0).ownBlock=some b\/(Value.slice (some ⟨g,0,none⟩) G G).ownBlock=some b\/(Value.slice none 0 0).ownBlock=some b)\/(x.alloc H).heap.size<=b)) w y z q sv rp ad ah F M aq a a' r lv lv hk hk U U' left B f k1 av s1 ax ay fv O au:=by
 have h2:=T.lg;have h3:=T.gB;have h4:=T.bx;have aW:(x.alloc H).heap.size=x.heap.size+1:=by simp
 have ak:=aH.Vt;have I:=P.lt;have aN:=C.lt T.Xb;have ao:∀k,hQ' fv O k->B<=k/\k < x.heap.size:=T.out.lt;have Y:∀k,U' k->U k\/B<=k:=T.new;have aO:Far (fun _=>False) x (x.alloc H):=C' ((z11 _ _).alloc (z13 _) H);have aP:∀k,ew' x.heap.size z F (.slice none 0 0) (.slice (some ⟨g,0,none⟩) G G) (.slice none 0 0) k->k=x.heap.size\/k=g\/Us z F k:=by
  rintro k (e|(e|e|e)|e)
  ·exact .inl e
  ·cases e
  ·exact .inr (.inl (gA' e).symm)
  ·cases e
  ·exact .inr (.inr e)
 have J:Far (fun k=>k=x.heap.size\/k=g\/Us z F k) x y:=(aO.mono (fun _ _ h=>h.elim)).trans (hF.mono (fun k _ h=>aP k h)) (fun _ _ h=>h);have aA:∀k,ac' q rp lv hk U' k->ac' q rp lv hk U k\/(U' k/\B<=k):=by
  rintro k (e|e|e)
  ·exact .inl (.inl e)
  ·exact .inl (.inr (.inl e))
  ·exact(Y k e).elim (fun h=> .inl (.inr (.inr h))) (fun h=> .inr ⟨e,h⟩)
 have Q:∀k,ac' q rp lv hk U' k->k < x.heap.size/\k≠g/\¬Us z F k:=by
  intro k aB;rcases aA k aB with h|⟨h,aQ⟩
  ·have:=I k h;exact⟨by omega,by omega,aI k h⟩
  ·have:=aN k h;exact⟨this,by omega,fun hu=>by have:=ak k hu;omega⟩
 have aR:ac' q rp lv hk U' q:= .inl rfl;have Z:∀k,hQ' fv O k->k < x.heap.size/\k≠g/\¬Us z F k:=fun k h=>by have:=ao k h;exact⟨this.2,by omega,fun hu=>by have:=ak k hu;omega⟩
 have aS:∀k,hQ' fv O k->¬ac' q rp lv hk U' k:=fun k h aa=>by
  have h5:=ao k h;rcases aa with e|e|e
  ·have:=I k (.inl e);omega
  ·have:=I k (.inr (.inl e));omega
  ·exact T.out.clear k h e
 have V:∀k,k < x.heap.size/\k≠g/\¬Us z F k->¬ (k=x.heap.size\/k=g\/Us z F k):=by
  rintro k ⟨h1,h5,ab⟩ (e|e|e)
  ·omega
  ·exact h5 e
  ·exact ab e
 have aC:∀k,k < x.heap.size/\k≠g/\¬Us z F k->¬Us z M k:=by
  rintro k ⟨h1,h5,ab⟩ (e|e)
  ·exact ab (.inl e)
  ·rcases az with h|h|⟨g',h,aX⟩
   ·rw[h]at e;cases e
   ·exact ab (.inr (h ▸ e))
   ·rw[h]at e;cases e;omega
 refine⟨?_,by omega,aM,?_,?_,?_,?_,J.blk T.blk (V q (Q q aR)),C.far T.Xb J (fun k h=>V k (Q k (.inr (.inr h)))),T.ref.far J (fun k h=>V k (Q k (.inr (.inl h)))),T.out.keep (fun k h=>J.rest k (Z k h).1 (V k (Z k h))),
  fun k h=>(Y k h).imp id (by omega),fun k h=> .inl h,?_,P.qR,?_,aS,?_,z20 aj J.size,?_⟩
 ·refine(T.far.mono (E':=fun k=>ac' q rp lv hk U k\/Us z F k) (fun _ _ h=> .inl h)).trans J ?_;rintro k aB (e|e|e)
  ·omega
  ·omega
  ·exact .inr e
 ·rintro b o ⟨⟨aT,aU⟩,ac⟩;refine⟨aT,aU,fun aa=>?_,fun aD=>?_⟩
  ·have ap:=Q b aa;rcases ac with h|h|(h|h|h)|h
   ·rcases aA b aa with aE|⟨aE,aQ⟩
    ·exact(ai b o h).2.2 aE
    ·have:=(ai b o h).1;omega
   ·omega
   ·cases h
   ·exact ap.2.1 (gA' h).symm
   ·cases h
   ·omega
  ·have ap:=Z b aD;rcases ac with h|h|(h|h|h)|h
   ·have:=(ai b o h).1;have:=ao b aD;omega
   ·omega
   ·cases h
   ·exact ap.2.1 (gA' h).symm
   ·cases h
   ·omega
 ·rintro b o ⟨_,ac⟩;rcases ac with h|h|(h|h|h)|h
  ·exact .inl h
  ·exact .inr (by omega)
  ·cases h
  ·have:=gA' h;exact .inr (by omega)
  ·cases h
  ·exact .inr (by omega)
 ·exact az.mono (by omega)
 ·rintro k (h|h)
  ·exact aC k (Q k h)
  ·exact aC k (Z k h)
 ·intro h;rcases Y q h with h|h
  ·exact P.qU h
  ·have:=I q (.inl rfl);omega
 ·intro k h aF;rcases Y k h with h|h
  ·exact P.UR k h aF
  ·have:=I k (.inr (.inl aF));omega
 ·refine aJ.kept (J.rest f aj (V f ⟨aj,aK,fun hu=>by have:=ak f hu;omega⟩))
 ·rintro(e|e|e)
  ·have:=I f (.inl e);omega
  ·have:=I f (.inr (.inl e));omega
  ·exact aL e
section
variable {top N:Nat} {C:aW' top} {A A2:Nat->Nat->Prop} {w x y:World} {wb q sv rp:Nat} {as_ ss hv hv2:Value} {hs2:List Nat} {ar ap:Mq.Ag} {r:ah'} {lv lvc hk hkc:Nat->Value} {U U':Nat->Prop} {left:Int} {B f:Nat} {k1 e1 s1 q1:Int} {b1:z10} {fv:Value} {fs:List Value} {Fl:List z10}
theorem ATM.prlt (T:ATM C A A2 w x wb q sv rp as_ ss hv hv2 hs2 ar ap r lv lvc hk hkc U U' left B f k1 e1 s1 q1 b1 fv fs Fl):∀k,ac' q rp lvc hkc U' k->k < x.heap.size:=by
 rintro k (rfl|h|h)
 ·exact z14 T.blk
 ·exact T.ref.lt k h
 ·exact C.lt T.Xb k h
theorem ATM.any {E:Nat->Prop} (T:ATM C A A2 w x wb q sv rp as_ ss hv hv2 hs2 ar ap r lv lvc hk hkc U U' left B f k1 e1 s1 q1 b1 fv fs Fl) (F:Far E x y) (G:∀k,E k->w.heap.size<=k/\¬ac' q rp lvc hkc U' k/\¬Us wb hv2 k/\¬hQ' fv fs k/\(∀o,¬A2 k o)/\k≠f):
  ATM C A A2 w y wb q sv rp as_ ss hv hv2 hs2 ar ap r lv lvc hk hkc U U' left B f k1 e1 s1 q1 b1 fv fs Fl:=
 ⟨T.far.trans F (fun k hk z=>by have:=(G k z).1;omega),T.wB,T.wat.far F (fun k hu z=>(G k z).2.2.1 hu) (fun b o h=>⟨(T.a2 b o h).1,fun z=>(G b z).2.2.2.2.1 o h⟩),fun b o h=>⟨z20 (T.a2 b o h).1 F.size,(T.a2 b o h).2⟩,T.sub,T.loc,T.us,
  F.blk T.blk (fun z=>(G q z).2.1 (.inl rfl)),C.far T.Xb F (fun k h z=>(G k z).2.1 (.inr (.inr h))),T.ref.far F (fun k h z=>(G k z).2.1 (.inr (.inl h))),T.out.keep (fun k h=>F.rest k (T.out.lt k h).2 (fun z=>(G k z).2.2.2.1 h)),T.Wf,T.Yi,T.qU,T.qR,T.UR,T.outs,
  T.box.kept (F.rest f T.fl (fun z=>(G f z).2.2.2.2.2 rfl)),z20 T.fl F.size,T.fw⟩
theorem ATM.below (T:ATM C A A2 w x wb q sv rp as_ ss hv hv2 hs2 ar ap r lv lvc hk hkc U U' left B f k1 e1 s1 q1 b1 fv fs Fl) (hb:Below x.heap.size x y):ATM C A A2 w y wb q sv rp as_ ss hv hv2 hs2 ar ap r lv lvc hk hkc U U' left B f k1 e1 s1 q1 b1 fv fs Fl:=
 T.any (E:=fun _=>False) (C' hb) (fun _ h=>h.elim)
theorem ATM.wrote (T:ATM C A A2 w x wb q sv rp as_ ss hv hv2 hs2 ar ap r lv lvc hk hkc U U' left B f k1 e1 s1 q1 b1 fv fs Fl) (H:f≠q) (F:Int):
  ATM C A A2 w (x.setCell ⟨q,3,none⟩ (.int .i64 F)) wb q sv rp as_ ss hv hv2 hs2 ar ap r lv lvc hk hkc U U' F B f k1 e1 s1 q1 b1 fv fs Fl:=by
 have z:=Q' x q 3 (.int .i64 F);have G:ac' q rp lvc hkc U' q:= .inl rfl;have I:ac' q rp lv hk U q:= .inl rfl;refine⟨T.far.trans z (fun k _ e=> .inl (e ▸ I)),T.wB,T.wat.far z (fun k hu e=>T.us q (.inl G) (e ▸ hu)) (fun b o h=>⟨(T.a2 b o h).1,fun e=>(T.a2 b o h).2.2.1 (e ▸ G)⟩),fun b o h=>⟨z20 (T.a2 b o h).1 z.size,(T.a2 b o h).2⟩,T.sub,T.loc,T.us,
  ?_,C.far T.Xb z (fun k h e=>T.qU (e ▸ h)),T.ref.far z (fun k h e=>T.qR (e ▸ h)),T.out.keep (fun k h=>z.rest k (T.out.lt k h).2 (fun e=>T.outs k h (e ▸ G))),T.Wf,T.Yi,T.qU,T.qR,T.UR,T.outs,T.box.kept (z.rest f T.fl H),z20 T.fl z.size,T.fw⟩
 have:=aa' (j:=3) (v:= .int .i64 F) T.blk;simpa using this
theorem ATM.step {O:Mq.Ag} (T:ATM C A A2 w x wb q sv rp as_ ss hv hv2 hs2 ar ap r lv lvc hk hkc U U' left B f k1 e1 s1 q1 b1 fv fs Fl) (Q:aU' x y rp O r lvc hkc):
  ∃H I,ATM C A A2 w y wb q sv rp as_ ss hv hv2 hs2 O ap r lv H hk I U U' left B f k1 e1 s1 q1 b1 fv fs Fl:=by
 obtain⟨H,I,V,z,J⟩:=Q;have Y:=C.lt T.Xb;have M:∀k,ac' q rp H I U' k->ac' q rp lvc hkc U' k\/x.heap.size<=k:=by
  rintro k (h|h|h)
  ·exact .inl (.inl h)
  ·exact(J k h).imp (fun h=> .inr (.inl h)) id
  ·exact .inl (.inr (.inr h))
 have aa:=z14 T.blk;refine⟨H,I,T.far.trans z (fun k hk h=> .inl ((T.Yi k h).elim (fun h=> .inr (.inl h)) (fun h=>by omega))),T.wB,T.wat.far z (fun k hu h=>T.us k (.inl (.inr (.inl h))) hu) (fun b o h=>⟨(T.a2 b o h).1,fun e=>(T.a2 b o h).2.2.1 (.inr (.inl e))⟩),fun b o h=>⟨z20 (T.a2 b o h).1 z.size,(T.a2 b o h).2.1,fun F=>(M b F).elim (T.a2 b o h).2.2.1 (fun G=>by have:=(T.a2 b o h).1;omega),(T.a2 b o h).2.2.2⟩,T.sub,T.loc,?_,
  z.blk T.blk T.qR,C.far T.Xb z T.UR,V,T.out.keep (fun k h=>z.rest k (T.out.lt k h).2 (fun e=>T.outs k h (.inr (.inl e)))),T.Wf,fun k h=>(J k h).elim (T.Yi k) (fun G=> .inr (by have:=T.far.size;omega)),T.qU,fun h=>(J q h).elim T.qR (fun G=>by omega),fun k h Z=>(J k Z).elim (T.UR k h) (fun G=>by have:=Y k h;omega),fun k h F=>(M k F).elim (T.outs k h) (fun G=>by have:=(T.out.lt k h).2;omega),
  T.box.kept (z.rest f T.fl (fun e=>T.fw (.inr (.inl e)))),z20 T.fl z.size,fun F=>(M f F).elim T.fw (fun G=>by have:=T.fl;omega)⟩
 rintro k (h|h)
 ·rcases M k h with h|h
  ·exact T.us k (.inl h)
  ·intro hu;have:=T.wat.Vt k hu;omega
 ·exact T.us k (.inr h)
theorem ATM.done {z:Value} {H:List Nat} {M:Nat} (T:ATM C A A2 w x wb q sv rp as_ ss hv hv2 hs2 ap ap r lv lvc hk hkc U U' left B f k1 e1 s1 q1 b1 fv fs Fl) (hd:r.dead=false) (V:Jn N ap)
  (W:Qj (fun b o=>(b < y.heap.size/\¬Us wb z b)/\(A2 b o\/(fv.ownBlock=some b\/Zc fs fs.length b)\/x.heap.size<=b)) y wb as_ ss z H) (G:Far (fun k=>(fv.ownBlock=some k\/Zc fs fs.length k)\/Us wb hv2 k) x y) (L:Loc x hv2 z) (Y:H.length<=M) (Z:w.heap.size<=x.heap.size)
  (aa:∀k,Us wb hv2 k->k < w.heap.size->Us wb hv k):Xg C N A w y wb q sv rp as_ ss hv ap r lv hk U M:=by
 have O:=T.prlt;have I:∀k,ac' q rp lvc hkc U' k->¬ ((fv.ownBlock=some k\/Zc fs fs.length k)\/Us wb hv2 k):=by
  rintro k h (e|e)
  ·exact T.outs k e h
  ·exact T.us k (.inl h) e
 have ab:∀k,ac' q rp lvc hkc U' k->¬Us wb z k:=by
  rintro k h (e|e)
  ·exact T.us k (.inl h) (.inl e)
  ·rcases L with F|F|⟨g',F,ac⟩
   ·rw[F]at e;cases e
   ·exact T.us k (.inl h) (.inr (F ▸ e))
   ·rw[F]at e;injection e with e;have:=O k h;omega
 have Q:=T.out.lt;refine⟨z,H,lvc,hkc,U',left,Y,W.mono ?_,?_,?_,ab,?_,cg' T.loc L Z⟩
 ·rintro b o ⟨⟨h1,h2⟩,h3⟩;refine⟨h1,h2,fun J=>?_,?_⟩
  ·rcases h3 with h|h|h
   ·exact(T.a2 b o h).2.2.1 J
   ·exact T.outs b h J
   ·have:=O b J;omega
  ·rcases h3 with h|h|h
   ·exact T.sub b o h
   ·exact .inr (by have:=(Q b h).1;have:=T.wB;omega)
   ·exact .inr (by omega)
 ·exact⟨G.blk T.blk (I q (.inl rfl)),C.far T.Xb G (fun k h=>I k (.inr (.inr h))),T.ref.far G (fun k h=>I k (.inr (.inl h))),hd,V,T.qU,T.qR,T.UR⟩
 ·rintro k (h|h|h)
  ·exact .inl (.inl h)
  ·exact(T.Yi k h).imp (fun h=> .inr (.inl h)) id
  ·exact(T.Wf k h).imp (fun h=> .inr (.inr h)) id
 ·refine T.far.trans G (fun k hk h=>?_);rcases h with h|h
  ·have:=(Q k h).1;have:=T.wB;omega
  ·exact .inr (aa k h hk)
end
end Go.Proofs.YtamafdcnbcoegaaGreat
namespace Go.Proofs.YtamafdcnbcoegaaGreat
attribute [local simp, local go_sem] Ev Ep Ei Eb Et
namespace Mq
def Jd (o c:Nat):List UInt8:=Qb.le4 (o:Int)++Qb.le4 ((c % 4294967296:Nat):Int)++Qb.le4 ((c / 4294967296:Nat):Int)
theorem Qq (o c:Nat):(Jd o c).length=12:=rfl
def Xc (o c:Nat) (inside:List UInt8):List UInt8:=Jd o c++(inside++List.replicate (40 - inside.length) 0)++Jd o c
theorem Jw (o c:Nat) {inside:List UInt8} (h:inside.length<=40):(Xc o c inside).length=64:=by
 simp[Xc,Qq];omega
def Jq (a b c:Nat):List UInt8:=Qb.le4 (a:Int)++Qb.le4 (b:Int)++Qb.le4 (c:Int)
theorem Jo (a b c:Nat):(Jq a b c).length=12:=rfl
def Za (st q:Nat) (b:List UInt8):List UInt8:=[UInt8.ofNat (st % 256),UInt8.ofNat (b.length % 256)]++Qb.le4 (q:Int)++b
theorem Zv (st q:Nat) (b:List UInt8):(Za st q b).length=6+b.length:=by simp[Za,Qb.Qw];omega
def Xa (l:List UInt8) (k:Nat) (s:List UInt8):List UInt8:=l.take (64 * k)++s++l.drop (64 * k+64)
variable{m:List UInt8}
theorem Jv {l:List UInt8} {k:Nat} (hs:m.length=64) (hk:64 * k+64<=l.length):(Xa l k m).length=l.length:=by
 simp[Xa,hs];omega
structure Dk where
 bytes:List UInt8
 Zo:Nat
 dead:Bool
def Dk.put (d:Dk) (k:Nat) (s:List UInt8):Int×Dk:=
 if d.dead=true then(3,d)else if d.Zo=1 then(4,{d with dead:=true})else(0,{bytes:=Xa d.bytes k s,Zo:=d.Zo - 1,dead:=false})
structure Stv where
 Qe:Nat
 count:Nat
 head:Nat
 dk:Dk
def Stv.next (s:Stv):Nat:=(s.count+1) % 18446744073709551616
def Stv.Qr (s:Stv) (a b c:Nat):Int×Stv:=
 ((s.dk.put (1 - s.head) (Xc s.Qe s.next (Jq a b c))).1,{s with head:=1 - s.head,count:=s.next,dk:=(s.dk.put (1 - s.head) (Xc s.Qe s.next (Jq a b c))).2})
def Stv.Qz (s:Stv) (z st q:Nat) (b:List UInt8):Int×Stv:=
 ((s.dk.put (2+z) (Xc s.Qe s.next (Za st q b))).1,{s with count:=s.next,dk:=(s.dk.put (2+z) (Xc s.Qe s.next (Za st q b))).2})
end Mq
end Go.Proofs.YtamafdcnbcoegaaGreat
namespace Go.Proofs.YtamafdcnbcoegaaGreat
attribute [local simp, local go_sem] Ev Ep Ei Eb Et
open Go.RowKit Go.Proofs.Tryz
def lay (L:List UInt8) (off:Nat) (l:List UInt8):List UInt8:=L.take off++(l++L.drop (off+l.length))
variable{m aU:List UInt8}{w:Nat}
theorem gL' (h:w+aU.length<=m.length):(lay m w aU).length=m.length:=by
 simp[lay];omega
theorem wj' (L:List UInt8) (off:Nat) (l:List UInt8):bv (lay L off l)=(bv L).take off++(bv l++(bv L).drop (off+(bv l).length)):=by
 simp[lay,bv,List.map_take,List.map_drop]
theorem tH':(prog.info? 5).map (·.size)=some 1:=by kernel_rfl
theorem iI':(prog.info? 207).map (·.size)=some 64:=by kernel_rfl
theorem dG' (b o j:Nat):(⟨b,o,none⟩:Addr).add j=⟨b,o+j,none⟩:=by
 unfold Addr.add;split
 ·rename_i h;subst h;rfl
 ·rfl
variable{N:Oper}{I:Act}{p:World}{Z:Exit -> Act -> World -> Prop}
theorem dH' {K:Act->World->Prop} (d s:Operand)
  (G:N.op= .call {callee:= .builtin .copy,args:= #[d,s],argTypes:= #[44,44]}) (g off n cap:Nat) (L l:List UInt8) (t:TypeId) (v:Value)
  (z:p.heap[g]? =some (.cells (bv L).toArray t (0,0))) (hd:I.eval d= .slice (some ⟨g,off,none⟩) n cap) (M:Qn p v l) (hs:I.eval s=v) (hl:l.length<=n) (aa:off+n<=L.length)
  (h:∀w',w'.heap[g]? =some (.cells (bv (lay L off l)).toArray t (0,0))->Far (fun k=>k=g) p w'->K (I.put N.dst (.int .i64 l.length)) w'):N.wp prog I p K Z:=by
 obtain⟨O,H,rfl,ab,ac,Q⟩:=M;by_cases h0:l.length=0
 ·obtain rfl:l=[]:=z68 h0;have F:=run_copy_none (P:=prog) p 44 44 N.type 5 (some ⟨g,off,none⟩) O n cap 0 H underlying44 tH' (by simp);unfold Oper.wp;simp[execOp,G,resolve,invoke,builtin,hd,hs,F,Result.andThen];exact h p (by rw[wj'];simpa[bv]using z) (Far.refl _ _)
 ·obtain⟨b,V,rfl,Y⟩:=Q (by omega);have F:=run_copy_row (P:=prog) p 44 44 N.type 5 g off n cap ⟨b,V,none⟩ l.length H (bv L).toArray t (bv l) underlying44 tH' z (by rw[Z'];exact(xS' hl).symm) (by
   intro j u hj;have J:j < l.length:=by have:=(z28.1 hj).1;rw[Z']at this;exact this
   rw[eb' J]at hj;cases hj;rw[dG'];exact Y j J) (by rw[Z',z98,Z'];omega) (dg' l)
  unfold Oper.wp;simp[execOp,G,resolve,invoke,builtin,hd,hs,F,Result.andThen];rw[Z'];refine h _ ?_ ⟨rfl,rfl,rfl,by simp,fun k _ hk=>pu' p g k _ hk⟩;rw[wj'];have:=z92 p g (bv L).toArray ((bv L).take off++(bv l++(bv L).drop (off+(bv l).length))).toArray t (0,0) z;rw[Z']at this ⊢;simpa using this
variable{B:Array Oper}
theorem hS' {rest:List Oper} (z:N.guard=none) (d s:Operand)
  (F:N.op= .call {callee:= .builtin .copy,args:= #[d,s],argTypes:= #[44,44]}) (g off n cap:Nat) (L l:List UInt8) (t:TypeId) (v:Value)
  (G:p.heap[g]? =some (.cells (bv L).toArray t (0,0))) (hd:I.eval d= .slice (some ⟨g,off,none⟩) n cap) (H:Qn p v l) (hs:I.eval s=v) (hl:l.length<=n) (J:off+n<=L.length)
  (h:∀w',w'.heap[g]? =some (.cells (bv (lay L off l)).toArray t (0,0))->Far (fun k=>k=g) p w'->wpList prog B Z rest (I.put N.dst (.int .i64 l.length)) w'):wpList prog B Z (N::rest) I p:=
 pi' z fun _ hK=>dH' d s F g off n cap L l t v G hd H hs hl J (fun w' h1 h2=>hK _ _ (h w' h1 h2))
theorem cf' {rest:List Oper} (z:N.guard=none) (x:Operand) (F:N.op= .load 207 x)
  (g:Nat) (G:I.eval x= .pointer (some ⟨g,0,none⟩)) (t:TypeId) (L:List UInt8) (H:L.length=64) (J:p.heap[g]? =some (.cells (bv L).toArray t (0,0)))
  (h:wpList prog B Z rest (I.put N.dst (.agg (bv L).toArray)) p):wpList prog B Z (N::rest) I p:=
 wpList_load_row z 207 x F g G t _ (0,0) _ J underlying207 rfl (by rw[iI'];simp[bv,H]) h
theorem cE' {K:Act->World->Prop} (x:Operand) (z:N.op= .load 207 x)
  (g:Nat) (F:I.eval x= .pointer (some ⟨g,0,none⟩)) (t:TypeId) (L:List UInt8) (G:L.length=64) (H:p.heap[g]? =some (.cells (bv L).toArray t (0,0)))
  (h:K (I.put N.dst (.agg (bv L).toArray)) p):N.wp prog I p K Z:=
 wp_load_row 207 x z g F t _ (0,0) _ H underlying207 rfl (by rw[iI'];simp[bv,G]) h
theorem wk' (l:List UInt8):(bv l).toArray.all (·.oneCell')=true:=by
 rw[z49];intro v z;exact dg' l v (by simpa using z)
theorem dp' {rest:List Oper} (G:N.guard=none) (x y:Operand) (H:N.op= .store 207 x y)
  (g:Nat) (J:I.eval x= .pointer (some ⟨g,0,none⟩)) (L:List UInt8) (z:L.length=64) (M:I.eval y= .agg (bv L).toArray) (t:TypeId) (old:Array Value) (O:old.size=64) (F:p.heap[g]? =some (.cells old t (0,0)))
  (h:∀w',w'.heap[g]? =some (.cells (bv L).toArray t (0,0))->Far (fun k=>k=g) p w'->wpList prog B Z rest (I.put N.dst undef) w'):wpList prog B Z (N::rest) I p:=
 wpList_store_row G 207 x y H g (bv L).toArray J M t old F (by rw[iI'];simp[bv,z]) (by rw[O];simp[bv,z]) (wk' L)
  (h _ (z92 p g old _ t (0,0) F) ⟨rfl,rfl,rfl,by simp,fun k _ hk=>pu' p g k _ hk⟩)
theorem kS' {K:Act->World->Prop} (x y:Operand) (G:N.op= .store 207 x y)
  (g:Nat) (H:I.eval x= .pointer (some ⟨g,0,none⟩)) (L:List UInt8) (z:L.length=64) (J:I.eval y= .agg (bv L).toArray) (t:TypeId) (old:Array Value) (M:old.size=64) (F:p.heap[g]? =some (.cells old t (0,0)))
  (h:∀w',w'.heap[g]? =some (.cells (bv L).toArray t (0,0))->Far (fun k=>k=g) p w'->K (I.put N.dst undef) w'):N.wp prog I p K Z:=
 iH' 207 x y G g (bv L).toArray H J t old F (by rw[iI'];simp[bv,z]) (by rw[M];simp[bv,z]) (wk' L)
  (h _ (z92 p g old _ t (0,0) F) ⟨rfl,rfl,rfl,by simp,fun k _ hk=>pu' p g k _ hk⟩)
variable{fC:Func}{fD:Tmp}
theorem ex' (h:fC.results= #[.cell fD 207]) (tmps:Array Value) (w:World) (g:Nat) (t:TypeId) (L:List UInt8) (z:L.length=64)
  (F:tmps.getD fD undef= .pointer (some ⟨g,0,none⟩)) (G:w.heap[g]? =some (.cells (bv L).toArray t (0,0))):(results fC tmps).run prog w= .ok (.agg (bv L).toArray) w:=
 results_cell_row h tmps w g t _ (0,0) _ F G underlying207 rfl (by rw[iI'];simp[bv,z])
theorem kT' (o c:Nat) (ak:o < 4294967296) (ao:c < 18446744073709551616) (w:World):
  Calls prog 216 #[.agg #[.int .u32 o, .int .u64 c]] w fun r w'=>∃v,r= .returned v/\Qt (w.heap.size+1) w' v (Mq.Jd o c)/\Below w.heap.size w w':=by
 go_enter func216,ntmps216;go_upto_region 1 with fail;refine G' (fun x=>x.heap[w.heap.size]? =some (.cells #[.int .u32 o, .int .u64 c] 201 (0,0))/\Below w.heap.size w x) ?_ ?_
 ·exact⟨z19 w _,(z11 _ _).alloc (z13 _) _⟩
 rintro x ⟨I,V⟩;have ap:=z14 I;have c0:x.cell? ⟨w.heap.size,0,none⟩=some (.int .u32 o):=y' (i:=0) I;have Y:=m' I;have Z:=m' V;clear I V;have J:=fun(v:Value) (l:List UInt8) (n:Int) (y:World) (h1:l.length<=1000) (h2:w.heap.size+1<=y.heap.size) (h3:0<=n) (h4:Qt (w.heap.size+1) y v l)=>m' (aE' (w.heap.size+1) n v l y h1 h2 h3 h4);have M:=fun(v:Value) (l:List UInt8) (y H:World) (h2:w.heap.size+1<=y.heap.size) (h4:Qt (w.heap.size+1) y v l) (z:y.grownBy H v.ownBlock)=>Y' (B:=w.heap.size+1) z h2 (fun g z=>(h4.lt g z).1);go_upto_region 2 with (go_at_call 135;refine(d' (J (.slice none 0 0) [] (o:Int) x (by simp) (by omega) (by omega) (gY' _ _))).mono ?_;rintro r y ⟨v1,rfl,G,z⟩);have F:=M _ _ x y (by omega) (gY' _ _) z;have O:=(F.block _ (yd' _)).trans (d' Y);have c1:y.cell? ⟨w.heap.size,1,none⟩=some (.int .u64 c):=y' (i:=1) O;have aq:=F.size;have aa:=m' ((d' Z).trans (F.mono (by omega)));have Q:=m' G;have ab:=m' O;clear G z F O c0 Y Z;have ah:IntKind.u32.wrap (c:Int)=((c % 4294967296:Nat):Int):=by rw[zB'];omega
 go_upto_region 3 with (go_at_call 135;refine(d' (J v1 _ ((c % 4294967296:Nat):Int) y (by simp[Qb.Qw]) (by omega) (by omega) (d' Q))).mono ?_;rintro r H ⟨ai,rfl,G,z⟩)
 have F:=M _ _ y H (by omega) (d' Q) z;have ac:=(F.block _ (yd' _)).trans (d' ab);have c2:H.cell? ⟨w.heap.size,1,none⟩=some (.int .u64 c):=y' (i:=1) ac;have au:=F.size;have aj:=m' ((d' aa).trans (F.mono (by omega)));have ad:=m' G;clear G z F ac c1 ab aa Q ah;go_wp2_with (go_at_call 135;refine(d' (J ai _ ((c / 4294967296:Nat):Int) H (by simp[Qb.Qw]) (by omega) (by omega) (d' ad))).mono ?_;rintro r u ⟨v3,rfl,G,z⟩);have F:=M _ _ H u (by omega) (d' ad) z;go_ret;exact⟨v3,rfl,by simpa[Mq.Jd]using G,(d' aj).trans (F.mono (by omega))⟩
theorem tI' (h:w < m.length):(bv m).toArray[w]? =some (.int .u8 (m.getD w 0).toNat):=by
 rw[yb'];exact eb' h
theorem qc' (S T:List UInt8) (w:World):∀ (z:List Nat),(∀i∈z,i < S.length/\i < T.length)->
  (Op.eqItems 9999 5 1 (bv S).toArray (bv T).toArray z).run prog w= .ok (z.all fun i=>S.getD i 0==T.getD i 0) w
 |[],_=>by simp[Op.eqItems]
 |i::z,h=>by
  have h0:=h i (.head _);have F:=ye' (P:=prog) w (e:=5) (by kernel_rfl) (xs:=(bv S).toArray) (off:=i) (tI' h0.1);have G:=ye' (P:=prog) w (e:=5) (by kernel_rfl) (xs:=(bv T).toArray) (off:=i) (tI' h0.2);have H:=run_equalIn_int (P:=prog) w 9998 5 .u8 .u8 ((S.getD i 0).toNat:Int) ((T.getD i 0).toNat:Int) underlying5;have ih:=qc' S T w z (fun j hj=>h j (.tail _ hj));simp only[Op.eqItems,Nat.mul_one,Sem.run_bind,F,G,H,Result.andThen_ok,List.all_cons];have e:(((S.getD i 0).toNat:Int) == ((T.getD i 0).toNat:Int))=(S.getD i 0==T.getD i 0):=by
   rw[Bool.eq_iff_iff,vt',vt'];constructor
   ·intro e;exact UInt8.toNat_inj.1 (by omega)
   ·intro e;rw[e]
  rw[e];cases I:(S.getD i 0==T.getD i 0)
  ·simp
  ·simpa using ih
theorem zD' (z:m.length=w) (F:aU.length=w):((List.range w).all fun i=>m.getD i 0==aU.getD i 0)=decide (m=aU):=by
 rw[Bool.eq_iff_iff,z67,nS'];constructor
 ·intro h;apply List.ext_getElem (by omega);intro i h1 h2;have:=h i (z87.2 (by omega));simpa[h1,h2]using this
 ·rintro rfl i _;simp
theorem iJ' {S T:List UInt8} (z:S.length=64) (F:T.length=64) (w:World):(Op.equalIn 10000 207 (.agg (bv S).toArray) (.agg (bv T).toArray)).run prog w= .ok (decide (S=T)) w:=by
 obtain⟨i,hi⟩:∃i,prog.info? 5=some i:=by
  have:=tH';cases h:prog.info? 5 with
  |none=>rw[h]at this;cases this
  |some i=>exact⟨i,rfl⟩
 have G:prog.cellsOf 5=1:=by kernel_rfl
 have e:=qc' S T w (List.range 64) (fun i hi=>by have:=z87.1 hi;omega);rw[zD' z F,<-G]at e;exact(zA' (P:=prog) w 9999 (bv S).toArray (bv T).toArray underlying207 hi).trans e
theorem kU' (off:Nat):∀ (l:List Value) (i:Nat) (z:Array Value),off+i+l.length<=z.size->
  (l.zipIdx i).foldl (fun z (p:Value×Nat)=>z.setIfInBounds (off+p.2) p.1) z=(z.toList.take (off+i)++l++z.toList.drop (off+i+l.length)).toArray
 |[],i,z,_=>by simp
 |v::l,i,z,h=>by
  rw[List.zipIdx_cons,List.foldl_cons,kU' off l (i+1) _ (by simp at h ⊢;omega)];have:=list_seg_step z.toList (off+i) v l (by simp at h ⊢;omega);congr 1;rw[xN'];have F:off+(i+1)=off+i+1:=by omega
  rw[F,this,z56]
def bd':List UInt8:=List.replicate 64 0
theorem aA':bd'.length=64:=by simp[bd']
theorem wl' (parts:List (Nat×Value)):prog.built 261 parts=Instr.fill (fun x=>(#[(0,1),(1,64)]:Array (Nat×Nat))[x]?) (Value.int .i64 0::bv bd').toArray parts:=by kernel_rfl
theorem qd' (k:Int) (S:List UInt8) (F:S.length=64):prog.built 261 [(0, .int .i64 k),(1, .agg (bv S).toArray)]=some (.int .i64 k::bv S).toArray:=by
 rw[wl'];have z:(bv bd').length=64:=by rw[Z',aA']
 have hb:(bv S).length=64:=by rw[Z',F]
 have G:=kU' 1 (bv S) 0 (Value.int .i64 k::bv bd').toArray (by simp[z,hb]);generalize H:bv bd'=I at *;generalize J:bv S=X at *;have M:X.toArray.size=64:=by simpa using hb
 simp only[Instr.fill,Value.cells];simp[z,hb];rw[G];simp[z,hb]
theorem wm' (o c:Nat) (ins:List UInt8) (h:ins.length<=40):lay (lay (lay (List.replicate 64 0) 0 (Mq.Jd o c)) 12 ins) 52 (Mq.Jd o c)=Mq.Xc o c ins:=by
 have z:lay (List.replicate 64 (0:UInt8)) 0 (Mq.Jd o c)=Mq.Jd o c++List.replicate 52 0:=by simp[lay,Mq.Qq]
 rw[z];have F:lay (Mq.Jd o c++List.replicate 52 0) 12 ins=Mq.Jd o c++ins++List.replicate (52 - ins.length) 0:=by unfold lay;rw[List.take_left' (Mq.Qq o c),List.drop_append,List.drop_eq_nil_of_le (by rw[Mq.Qq];omega),Mq.Qq,zz',z80,z38];congr 3;omega
 rw[F];unfold lay Mq.Xc;have hl:(Mq.Jd o c++ins).length=12+ins.length:=by rw[z35,Mq.Qq]
 rw[zC',z46 (by omega),List.take_replicate,List.drop_append,List.drop_eq_nil_of_le (by rw[hl,Mq.Qq];omega),zz',hl,Mq.Qq];have G:min (52 - (12+ins.length)) (52 - ins.length)=40 - ins.length:=by omega
 have H:52 - ins.length - (52+12 - (12+ins.length))=0:=by omega
 rw[G,H];simp
theorem fI' (w:World) (A B C:Obj):(((w.alloc A).alloc B).alloc C).heap[w.heap.size]? =some A/\(((w.alloc A).alloc B).alloc C).heap[w.heap.size+1]? =some B/\(((w.alloc A).alloc B).alloc C).heap[w.heap.size+2]? =some C/\Below w.heap.size w (((w.alloc A).alloc B).alloc C):=by
 have h1:=z19 (w.alloc A) B;have h2:=z19 ((w.alloc A).alloc B) C;have z:(w.alloc A).heap.size=w.heap.size+1:=by simp
 have F:((w.alloc A).alloc B).heap.size=w.heap.size+2:=by simp
 rw[z]at h1;rw[F]at h2;refine⟨?_,?_,h2,(((z11 _ _).alloc (z13 _) _).alloc (by omega) _).alloc (by omega) _⟩
 ·rw[hao _ _ (by omega),hao _ _ (by omega)];exact z19 w A
 ·rw[hao _ _ (by omega)];exact h1
variable{fF:Option Obj}{l aY:Array Value}{j:TypeId}{aN:Nat×Nat}
theorem fJ' (h:fF=some (.cells l j aN)) (e:l=aY):fF=some (.cells aY j aN):=by rw[<-e];exact h
def qe' (B:Nat) (l:List UInt8) (v:Value) (w:World):Prop:=Qt B w v l/\∀g,v.ownBlock=some g->g < w.heap.size
theorem fb' (B:Nat) (l:List UInt8):bm' (qe' B l):=fun _ _ _ h hb=>⟨h.1.below hb h.2,fun g z=>z20 (h.2 g z) hb.size⟩
theorem qf' (o c:Nat) (ins:List UInt8) (v:Value) (w:World) (aB:o < 4294967296) (aC:c < 18446744073709551616) (hi:ins.length<=40) (ai:Qn w v ins):
  Calls prog 184 #[.agg #[.int .u32 o, .int .u64 c],v] w fun r w'=>r= .returned (.agg (bv (Mq.Xc o c ins)).toArray)/\Below w.heap.size w w':=by
 have aj:=fun y=>m' (kT' o c aB aC y);go_enter func184,ntmps184;go_upto_region 2 with fail;refine G' (fun x=>x.heap[w.heap.size]? =some (.cells #[.int .u32 o, .int .u64 c] 201 (0,0))/\x.heap[w.heap.size+1]? =some (.cells (bv bd').toArray 207 (0,0))/\x.heap[w.heap.size+2]? =some (.cells (bv bd').toArray 207 (0,0))/\Below w.heap.size w x) ?_ ?_
 ·exact⟨(fI' _ _ _ _).1,fJ' (fI' _ _ _ _).2.1 (by kernel_rfl),fJ' (fI' _ _ _ _).2.2.1 (by kernel_rfl),(fI' _ _ _ _).2.2.2⟩
 rintro x ⟨h0,h1,h2,ak⟩;have ao:=m' h0;have ap:=m' h1;have aq:=m' h2;have Q:=m' ak;have aK:=z14 h2;obtain⟨c0,c1⟩:=eE' h0;have aD:=m' ai;clear h0 h1 h2 ak ai;refine ab'
  [Ev (.slice (some ⟨w.heap.size+2,0,none⟩) 64 64),Ev (.agg #[.int .u32 o, .int .u64 c]),qe' (w.heap.size+3) (Mq.Jd o c),Et]
  [[5],[2],[2007],[1006,3008]] [7,8,9,10] [6,4,8]
  3 _ rfl rfl ?_ ?_ (hst:=by repeat' (first|exact V' _|exact fb' _ _|exact aj'|exact trivial|apply z12))
 ·refine⟨?_,?_,?_,trivial⟩;all_goals
   intro a y hb V;have aE:=(hb.cell (p:=⟨w.heap.size,0,none⟩) (by show w.heap.size < _;omega)).trans c0;have aF:=(hb.cell (p:=⟨w.heap.size,1,none⟩) (by show w.heap.size < _;omega)).trans c1;have Y:=hb.size;clear hb;simp[I']at V;try go_simp
   try exact z11 _ _
  ·refine(d' (aj _)).mono ?_;rintro r w1 ⟨v1,rfl,G,Z⟩;exact⟨v1,rfl,Z,G.mono (by omega),fun g aa=>(G.lt g aa).2⟩
 ·intro f y hb z;simp only[ag',List.take]at z;have au:=z.1;have av:=z.2.2.1;simp only[O',au];have g0:=(hb.block _ (by show w.heap.size < _;omega)).trans (d' ao);have g1:=(hb.block _ (by show w.heap.size+1 < _;omega)).trans (d' ap);have g2:=(hb.block _ (by show w.heap.size+2 < _;omega)).trans (d' aq);have H:=m' ((d' Q).trans (hb.mono (by have:=(d' Q).size;omega)));generalize f 8=v8 at *;generalize f 7=aL at *;have Y:=hb.size;refine dH' (.tmp 6) (.tmp 8) rfl (w.heap.size+2) 0 64 64 bd' (Mq.Jd o c) 207 v8 g2 rfl av.1.at rfl (by rw[Mq.Qq];omega) (by rw[aA'];omega) ?_;intro aM F hF;have ab:=m' (hF.blk g0 (by omega));have I:=m' (hF.blk g1 (by omega));have J:=m' F;have ac:=m' ((d' H).trans (hF.below (by omega) (fun k hk e=>by omega)));have aN:=hF.size;clear hb au av g0 g1 g2 hF F H ao ap aq Q c0 c1;clear z;obtain⟨c0,c1⟩:=eE' (d' ab);have ax:(lay bd' 0 (Mq.Jd o c)).length=64:=by rw[gL' (by rw[Mq.Qq,aA'];omega),aA']
  have M:=m' ax;clear ax;go_simp;go_upto_region 4 with (refine hS' rfl (.tmp 10) (.tmp 11) rfl (w.heap.size+2) 12 40 52 (lay bd' 0 (Mq.Jd o c)) ins 207 v (d' J) rfl ((d' aD).below (d' ac)) rfl hi (by rw[d' M];omega) ?_;intro u hu hF;go_simp);have ay:(lay (lay bd' 0 (Mq.Jd o c)) 12 ins).length=64:=by rw[gL' (by rw[d' M];omega),d' M]
  have ad:=m' ay;have ah:=m' ((d' ac).trans (hF.below (by omega) (fun k hk e=>by omega)));have g0:=hF.blk (d' ab) (by omega);have I:=m' (hF.blk (d' I) (by omega));have J:=m' hu;have aO:=hF.size;obtain⟨c0,c1⟩:=eE' g0;clear ay hu hF g0 ac ab M;refine ab'
   [Ev (.slice (some ⟨w.heap.size+2,52,none⟩) 12 12),Ev (.agg #[.int .u32 o, .int .u64 c]),qe' (w.heap.size+3) (Mq.Jd o c),Et]
   [[5],[2],[2014],[1013,3015]] [14,15,16,17] [13,4,1]
   3 _ rfl rfl ?_ ?_ (hst:=by repeat' (first|exact V' _|exact fb' _ _|exact aj'|exact trivial|apply z12))
  ·refine⟨?_,?_,?_,trivial⟩;all_goals
    intro a y hb V;have aE:=(hb.cell (p:=⟨w.heap.size,0,none⟩) (by show w.heap.size < _;omega)).trans c0;have aF:=(hb.cell (p:=⟨w.heap.size,1,none⟩) (by show w.heap.size < _;omega)).trans c1;have Y:=hb.size;clear hb;simp[I']at V;try go_simp
    try exact z11 _ _
   ·refine(d' (aj _)).mono ?_;rintro r w1 ⟨v1,rfl,G,Z⟩;exact⟨v1,rfl,Z,G.mono (by omega),fun g aa=>(G.lt g aa).2⟩
  ·intro f y hb z;simp only[ag',List.take]at z;have az:=z.1;have aA:=z.2.2.1;simp only[O',az];have g1:=(hb.block _ (by show w.heap.size+1 < _;omega)).trans (d' I);have g2:=(hb.block _ (by show w.heap.size+2 < _;omega)).trans (d' J);have H:=m' ((d' ah).trans (hb.mono (by have:=(d' ah).size;omega)));generalize f 15=aG at *;generalize f 14=aP at *;have Y:=hb.size;refine dH' (.tmp 13) (.tmp 15) rfl (w.heap.size+2) 52 12 12 _ (Mq.Jd o c) 207 aG g2 rfl aA.1.at rfl (by rw[Mq.Qq];omega) (by rw[d' ad];omega) ?_;intro z3 F hF;have O:(lay (lay (lay bd' 0 (Mq.Jd o c)) 12 ins) 52 (Mq.Jd o c)).length=64:=by rw[gL' (by rw[d' ad,Mq.Qq];omega),d' ad]
   have g1:=hF.blk g1 (by omega);have aH:=m' ((d' H).trans (hF.below (by omega) (fun k hk e=>by omega)));have aQ:=hF.size;rw[show lay (lay (lay bd' 0 (Mq.Jd o c)) 12 ins) 52 (Mq.Jd o c)=Mq.Xc o c ins from wm' o c ins hi]at F O;have I:=m' g1;have J:=m' F;clear hb az aA g1 g2 hF F H ah c0 c1;clear z;go_simp;go_wp2_with (first
    |(refine cf' rfl (.tmp 5) rfl (w.heap.size+2) rfl 207 (Mq.Xc o c ins) O (d' J) ?_)
    |(refine dp' rfl (.tmp 4) (.tmp 17) rfl (w.heap.size+1) rfl (Mq.Xc o c ins) O rfl 207 _ (by simp[Z',aA']) (d' I) ?_;intro z4 aI aJ;go_simp))
   exact z50 (ex' results184 _ _ (w.heap.size+1) _ _ O rfl aI) rfl ⟨rfl,(d' aH).trans (aJ.below (by omega) (fun k hk e=>by omega))⟩
end Go.Proofs.YtamafdcnbcoegaaGreat
