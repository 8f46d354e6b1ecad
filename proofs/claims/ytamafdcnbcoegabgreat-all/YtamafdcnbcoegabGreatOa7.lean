/-
  Part 7 of a proof.
-/
import Derived.RangeFuncNested
import Derived.RangeFuncBound
import Derived.RangeFuncCalls
import Derived.RangeFuncLeaves
import Derived.Shelf.Abstract
import Derived.Shelf.RegionOpen
import Derived.OwnWalkIn
import Derived.TacticsInMore
import Derived.LoopNIn
import Derived.LoopIn
import Derived.Test.YtamafdcnbcoegabGreatOa6
set_option maxRecDepth 100000
set_option maxHeartbeats 40000000
namespace Go.Proofs.YtamafdcnbcoegabGreat
attribute [local simp, local go_sem] Ev Ep Ei Eb Et Ej Ea En Er Es
open Qb Mq
abbrev xY:= @Go.World.putObj_heap_other
abbrev Cc:= @List.take_append_drop
abbrev z148:= @List.cons.injEq
abbrev Lc:= @List.Perm.append_right
abbrev z192:= @Array.replicate_succ
abbrev z193:= @Array.replicate_zero
abbrev z199:= @List.append_toArray
abbrev Le:= @Go.World.putObj_size
abbrev z222:= @List.push_toArray
abbrev xZ:= @Go.wpIn_wide
open Go.RowKit Go.Proofs.Tryz
variable{x:Mq.Sk}{L:Nat -> List (Nat×Value)}{w a:Nat}{z:z10}{l aN:Array Value}{p:World}{F:Nat -> List z10}{H:Stv}{D:Sv}{j:TypeId}{y u:Value}{d:List (Nat×Value)}
theorem vV (O:IY x.held L) (A:∀w,w < 3->PX (L w)) (hs:w < 3) (q:Nat):(AV (L w) (q:Int)).isSome=(x.ix w q).isSome:=by
 cases h:x.ix w q with
 |none=>rcases OQ (A w hs) (q:Int)with ⟨b,hl⟩|hl;exact absurd ((O w hs q b).1 hl) (WR h b);rw[hl];rfl
 |some i=>rw[(O w hs q _).2 (kN h)];rfl
theorem oU (O:IY x.held L) (A:∀w,w < 3->PX (L w)) (hs:w < 3) (up:Nat):∀j,EM (L w) up j=CQ x w up j
 |0=>rfl
 |j+1=>by rw[EM,CQ,oU O A hs up j,vV O A hs]
theorem fS (O:IY x.held L) (A:∀w,w < 3->PX (L w)) (hs:w < 3) (up:Nat):(⟨#[UInt8.ofNat (EM (L w) up 3)]⟩:z10)=Jn x w up:=by
 rw[oU O A hs up 3];rfl
theorem OF {a:Mq.Sk} {st q n:Nat}:∀ (f:Nat) (out:List z10),120<=n+out.length+f->¬ (n+(a.commitFrom st q n f out).length < 120)\/a.ix st (q+(a.commitFrom st q n f out).length)=none
 |0,out,h=>.inl (by show ¬ (n+out.length < 120);omega)
 |f+1,out,h=>by
  by_cases z:n+out.length < 120
  .cases hi:a.ix st (q+out.length)with
   |none=>rw[Mq.Sk.Vj z hi];exact .inr hi
   |some i=>rw[Mq.Sk.Vh z hi];exact OF f _ (by simp;omega)
  .rw[Mq.Sk.Zm z];exact .inl z
theorem oV (G:CZ x) (s q:Nat) (b:z10) (hb:b.size<=20):CZ (CS x s q b):=by
 unfold CS;split;rename_i h;obtain⟨h1,h2,h3⟩:=h;refine⟨λI F=>?_,λJ t M c z=>?_⟩;simp only[List.mem_append,List.mem_singleton]at F;rcases F with F|rfl;exact G.bod I F;exact hb;simp only[List.mem_append,List.mem_singleton]at z;rcases z with z|z;exact G.nxt J t M c z;injection z with Q H;injection H with H V;subst Q;omega;exact G
theorem oW (G:CZ x) (s:Nat) (b:z10) (hs:s < 3) (M:x.count < 120):CZ (EJ x s (x.commitFrom s ((x.Qc s).length+1) x.count 120 [b])):=by
 have H:=OF (a:=x) (st:=s) (q:=(x.Qc s).length+1) (n:=x.count) 120 [b] (by omega);obtain⟨z,Q⟩:=exq (x.commitFrom s ((x.Qc s).length+1) x.count 120 [b]);rw[<-Q]at H ⊢;have V:(EJ x s z).count=x.count+z.length:=IS x s hs z;refine⟨λI Y=>G.bod I (sL.1 (show I∈x.held.filter _ from Y)).1,λJ t Z c aa=>?_⟩;rw[V]at J;have F:(t,((EJ x s z).Qc t).length+1,c) ∈x.held:=(sL.1 (show _∈x.held.filter _ from aa)).1;by_cases e:t=s;subst e;rw[VD,z29]at F;rcases H with h|h;exact h J;rw[show(x.Qc t).length+1+z.length=(x.Qc t).length+z.length+1 by omega]at h;exact WR h c F;have hl:(EJ x s z).Qc t=x.Qc t:=by show(if t=s then _ else x.Qc t)= _;rw[if_neg e]
 rw[hl]at F;exact G.nxt M t Z c F
theorem kQ (z:CZ x) (e:Nat):CZ (CE x e):=by
 unfold CE EX;split;exact⟨λH F=>by simp at F,λ_ t _ c G=>by simp at G⟩;exact⟨z.bod,z.nxt⟩
theorem RT (F:x.count < 120):x.Qg 3 x.Qa w ((x.Qc w).length+1:Nat) z=x.commitFrom w ((x.Qc w).length+1) x.count 120 [z]:=by
 unfold Mq.Sk.Qg;rw[if_neg (by simp),if_neg (by omega)];simp
theorem LN {b:z10} (h:¬ (a=(x.Qc w).length+1/\x.count < 120)):x.Qg 3 x.Qa w a b=[]:=by
 unfold Mq.Sk.Qg;by_cases h1:a=(x.Qc w).length+1;rw[if_neg (by simp[h1]),if_pos (by omega)];rw[if_pos (by right;right;simp;omega)]
theorem RU (F:x.count < 120):BC x 3 x.Qa w ((x.Qc w).length+1) z=EJ x w (x.commitFrom w ((x.Qc w).length+1) x.count 120 [z]):=by
 unfold BC;rw[RT F,if_neg (LJ (by simp))]
theorem MP {b:z10} (h:¬ (a=(x.Qc w).length+1/\x.count < 120)):BC x 3 x.Qa w a b=CS x w a b:=by
 unfold BC;rw[LN h,if_pos rfl]
theorem kR (z:CZ x) (s q:Nat) (b:z10) (hs:s < 3) (hb:b.size<=20):CZ (BC x 3 x.Qa s q b):=by
 by_cases h:q=(x.Qc s).length+1/\x.count < 120;obtain⟨rfl,F⟩:=h;rw[RU F];exact oW z s b hs F;rw[MP h];exact oV z s q b hb
theorem yA (O:IY x.held L) (s q:Nat) (b:z10) (hs:s < 3) (F:x.ix s q=none):IY (x.held++[(s,q,b)]) (λt=>if t=s then CY (L s) q (PW b)else L t):=by
 intro t z n c;show AV (if t=s then _ else L t) _= _↔ _;rw[z55,z51];by_cases e:t=s;subst e;rw[if_pos rfl,OP];unfold WE;by_cases h1:(n:Int)=(q:Int);have G:n=q:=by omega
 subst G;rw[if_pos rfl];constructor;intro h;injection h with h;unfold PW at h;injection h with h;have:c=b:=by have:=congrArg Array.toList h;simp at this;exact this.symm
 subst this;exact .inr rfl;rintro(h|h);exact absurd h (WR F c);injection h with _ h;injection h with _ h;rw[h];rw[if_neg h1,O t z n c];constructor;exact .inl;rintro(h|h);exact h;injection h with _ h;injection h with h _;omega;rw[if_neg e,O t z n c];constructor;exact .inl;rintro(h|h);exact h;injection h with h _;exact absurd h e
theorem Cd:IY [] (λ_=>[]):=by
 intro t _ n c;simp[AV]
structure Xz (w:World) (cs:Array Value) (x:World):Prop where
 box:x.heap[w.heap.size]? =some (.cells cs 63 (0,0))
 bel:El w x
theorem JT (w:World) (z:Array Value):Xz w z (w.alloc (.cells z 63)):=⟨z19 _ _,bna⟩
theorem Xz.lt {w x:World} (h:Xz w l x):w.heap.size < x.heap.size:=z12 h.box
theorem Xz.below {w x y:World} {z:Array Value} (h:Xz w z x) (hb:El x y):Xz w z y:=
 ⟨(hb.block _ h.lt).trans h.box,h.bel.trans (hb.mono h.bel.size)⟩
theorem Xz.drewN {w:World} (h:Xz w l p) (n:Nat):Xz w l (p.drewN n):=h.below (z36 (z11 _ _) n)
theorem tM (H:Jd x) (O:IY x.held L) (A:∀w,w < 3->PX (L w)) (hs:w < 3) (I:((L w).map (·.1)).Pairwise (· < ·)):(L w).length < 1000:=by
 have z:∀n∈ (L w).map (·.1),(x.Qc w).length+1<=n/\n<=(x.Qc w).length+4:=by
  intro n hn;have G:(AV (L w) (n:Int)).isSome=true:=by rw[NW];simpa using hn
  rcases OQ (A w hs) (n:Int)with ⟨b,hl⟩|hl;have F:=(O w hs n b).1 hl;exact(H.held _ F).2;rw[hl]at G;cases G
 have h1:(((L w).map (·.1)).map λn=>n - (x.Qc w).length - 1).Nodup:=by rw[List.Nodup,Fx];refine I.imp_of_mem (λ{J y} M Q V e=>?_);have Y:=z J M;have Z:=z y Q;omega
 have h2:=NQ 4 _ h1 (λn hn=>by obtain⟨m,F,rfl⟩:=z66.1 hn;have:=z m F;omega);simp at h2;omega
theorem PB (e:Nat) (w:World):Cp 85 #[Ej e] w λr w'=>Rr r (.agg #[Ej e,Ej 0,Ej 0])/\El w w':=by
 go_enter func85,ntmps85;go_wp2;refine z47 (v:=.agg #[Ej e,Ej 0,Ej 0]) (by simp[results,results85,go_sem]) rfl ⟨rfl,?_⟩;exact bna
theorem VL (e:Nat) (w:World):Cp 131 #[Ej e] w λr w'=>Rr r (.agg #[Ej 5,Ej e,Ej 0,Ej 0,.string ⟨#[]⟩])/\El w w':=by
 go_enter func131,ntmps131;go_wp2;refine z47 (v:=.agg #[Ej 5,Ej e,Ej 0,Ej 0,.string ⟨#[]⟩]) (by simp[results,results131,go_sem]) rfl ⟨rfl,?_⟩;first|exact bna|exact DY bna _ _ _ _ _
theorem yB (z:Jo p w a F L H D) (G:Nat) (Q:G<=2147483647):
  Xg p (p.setCell ⟨w,1,none⟩ (Ej G)) w G F L H D:=by
 have V:∀j,j < 3->(D.lv j).ownBlock≠some w:=λj hj=>(z.ks.lgs j hj).ne z.ks.blk (by decide);have Y:∀j,j < 3->¬ShU (D.nv j) (D.mv j) w:=λj hj=>(z.ks.shs j hj).ne z.ks.blk (by decide);have hs:=T' p w 1 (Ej G);have I:∀j,j≠1->(D.arr.setIfInBounds 1 (Ej G))[j]? =D.arr[j]? :=λj hj=>z18 (λa=>hj a.symm);have h1:1 < D.arr.size:=by rw[z.ks.sz];omega
 refine⟨{D with arr:=D.arr.setIfInBounds 1 (Ej G)},⟨⟨AA z.ks.blk,by simpa using z.ks.sz,?_,?_,?_,?_,?_,?_,?_,?_,z.ks.are,z.ks.apl,z.ks.aps,z.ks.cnt,Q⟩,z.stt.far hs (λk J h=>z.sep k (.inl h) J),z.rl.far hs (λg M h=>(z.sepr g M).1 (.inl h)),z.len⟩,hs.mono (λk _ h=>.inl (.inl h)),λk J=>.inl J,rfl,rfl⟩;rw[I _ (by omega)];exact z.ks.a0;simp[h1];intro j hj;rw[I _ (by omega)];exact z.ks.al j hj;intro j hj;rw[I _ (by omega)];exact z.ks.an j hj;intro j hj;rw[I _ (by omega)];exact z.ks.am j hj;rw[I _ (by omega)];exact z.ks.ar;intro j hj;exact(z.ks.lgs j hj).far hs (λg M h=>V j hj (by rw[M,h]));intro j hj;exact(z.ks.shs j hj).far hs (λk J h=>Y j hj (by rw[<-h];exact J))
theorem kS (a:Mq.Sk):CE a a.Qa=a:=by
 unfold CE EX;rw[if_neg (by omega)]
theorem kT:IY [] (λt=>if t < 3 then []else L t):=by
 intro t z n c;show AV (if t < 3 then []else L t) _= _↔ _;rw[if_pos z];simp[AV]
theorem PZ:(prog.info? 63).map (·.size)=some 5:=by kernel_rfl
def zFr:Array Value:= #[Ej 0,Ej 0,Ej 0,Ej 0,.string ⟨#[]⟩]
structure Vw (w:World) (cs rs:Array Value) (x:World):Prop where
 box:x.heap[w.heap.size]? =some (.cells cs 63 (0,0))
 res:x.heap[w.heap.size+1]? =some (.cells rs 63 (0,0))
 bel:El w x
theorem LZ (w:World) (z rs:Array Value):Vw w z rs ((w.alloc (.cells z 63)).alloc (.cells rs 63)):=
 ⟨(FD _ _ _).1,(FD _ _ _).2.1,(FD _ _ _).2.2⟩
theorem Vw.lt {w x:World} (h:Vw w l aN x):w.heap.size+1 < x.heap.size:=z12 h.res
theorem Vw.below {w x y:World} {z rs:Array Value} (h:Vw w z rs x) (hb:El x y):Vw w z rs y:=
 ⟨(hb.block _ (by have:=h.lt;omega)).trans h.box,(hb.block _ h.lt).trans h.res,h.bel.trans (hb.mono h.bel.size)⟩
theorem Vw.drewN {w:World} (h:Vw w l aN p) (n:Nat):Vw w l aN (p.drewN n):=h.below (z36 (z11 _ _) n)
theorem TZ (G:Jo p w x.Qa x.Qc L H D) (e:Nat) (s q:Int) (b:z10) (aj:e≠x.Qa):
  Cp 88 #[C' w,.agg #[Ej 3,Ej e,Ej s,Ej q,.string b]] p λr z=>
   r=.returned (.tuple #[.agg #[Ej 5,Ej (max e x.Qa:Nat),Ej 0,Ej 0,.string ⟨#[]⟩],Ej 0])/\El p z:=by
 have c1:p.cell? (Ea w 1)=some (Ej x.Qa):=by rw[D' G.ks.blk,G.ks.a1]
 have V:=z12 G.ks.blk;obtain⟨ep,Y⟩:=exq (x.Qa);rw[<-Y]at c1 aj ⊢;have aB:((e:Int) != (ep:Int))=true:=by simp;omega
 obtain⟨m,Z⟩:=exq (max e ep);have aC:max (e:Int) (ep:Int)=(m:Int):=by omega
 rw[<-Z];have ak:=λy=>y' (VL m y);have aa:=y' (LZ p #[Ej 3,Ej e,Ej s,Ej q,.string b] zFr);clear G Y Z;unfold C';go_enter func88,ntmps88;go_upto_region 1 with fail;refine G' (Vw p #[Ej 3,Ej e,Ej s,Ej q,.string b] zFr) (d' aa) ?_;clear aa;intro aD X;have J:=Bi 1 X.box;simp at J;have ab:=Bc X.bel V c1;have F:=y' X;clear X;go_quiet (fail);go_upto_region 2 with fail;refine G' (Vw p #[Ej 3,Ej e,Ej s,Ej q,.string b] zFr) ((d' F).drewN _) ?_;clear F J ab;intro aE X;have F:=y' X;have aF:=X.lt;clear X;refine AH
  [Ep p.heap.size 1,Ei e,Ep w 0,Ep w 0,Ep w 1,Ei ep,Ei m,
   Ev (.agg #[Ej 5,Ej m,Ej 0,Ej 0,.string ⟨#[]⟩]),λ_ z=>Eh z (p.heap.size+1) #[Ej 5,Ej m,Ej 0,Ej 0,.string ⟨#[]⟩] 63,Ei 0]
  [[3],[1015],[0],[3017],[4018],[5019],[2016,6020],[7021],[4,8022],[]] [16,17,18,19,20,21,22,23,0,6] [5,1,9,8,29]
  [(8,λk=>k=p.heap.size+1)] ?_ ?_ (hst:=by repeat' (first|exact Y' _|exact ac' _ _|exact trivial|apply z13))
 .refine⟨?_,?_,?_,?_,?_,?_,?_,?_,?_,?_,trivial⟩;all_goals
   intro a' z hb M;have ac:=hb.blk (d' F).box (AS (by intro (h:p.heap.size=p.heap.size+1);omega));have J:z.cell? (Ea p.heap.size 1)=some (Ej e):=Bi 1 ac;have ab:z.cell? (Ea w 1)=some (Ej ep):=by have ao:=hb.rest w (by omega) (AS (by intro (h:w=p.heap.size+1);omega));have:=Bc (d' F).bel V c1;unfold World.cell? at this ⊢;simp only at this ⊢;rw[ao];exact this
   clear ac;simp[J']at M
  iterate 7
   .clear hb;go_simp;exact⟨_,rfl,Far.refl _ _,rfl⟩
  .clear hb;go_simp;refine Cm (ak z) ?_;rintro r aG ⟨rfl,aq⟩;exact⟨_,rfl,I' aq,rfl⟩
  have I:=hb.blk (d' F).res DG;clear hb;rw[if_pos (by rfl)];refine RH 63 (.tmp 4) (.tmp 22) rfl (p.heap.size+1) #[Ej 5,Ej m,Ej 0,Ej 0,.string ⟨#[]⟩] (by simp[Act.eval,M]) (by simp[Act.eval,M]) 63 _ I (by rw[PZ];rfl) rfl (by rw[z43];intro u hu;simp at hu;rcases hu with rfl|rfl|rfl|rfl <;> rfl) ?_;exact⟨_,rfl,AQ (.head _) (CN _ _ _),z91 _ _ _ _ _ _ I⟩;clear hb;go_simp;exact⟨_,rfl,Far.refl _ _,rfl⟩
 intro f z hF Q;have ad:=Q.2.2.2.2.2.2.2.2.1;have au:=Q.2.2.2.2.2.2.2.2.2.1;obtain⟨I,av,ax,ay,az⟩:=GW ad;have ah:El p z:=(d' F).bel.trans (hF.below (B:=p.heap.size) (by omega) (λk aH h=>by obtain⟨q,ai,h⟩:=h;simp at ai;subst ai;have h:k=p.heap.size+1:=h;omega));have aA:=y' ah;clear Q hF ad ah;simp only[V',au];go_simp;go_wp2;exact z47 (v:=.tuple #[.agg #[Ej 5,Ej m,Ej 0,Ej 0,.string ⟨#[]⟩],Ej 0]) (by simp[results,results88,go_sem,I,av,ax,ay,az]) rfl ⟨rfl,d' aA⟩
def JF (w:World) (p o:Nat) (m:Int):World:=(w.alloc (.cells #[Er p o] 197)).alloc (.cells #[Ej m] 3)
def vW (b:Nat):Value:=.func (.func 156) #[] #[Er b 0,Er (b+1) 0]
theorem YR (p o:Nat) (m:Int) (w:World):
  Cp 105 #[Er p o,Ej m] w λe w'=>Rr e (vW w.heap.size)/\w'=JF w p o m:=by
 go_enter func105,ntmps105;go_wp2;go_ret;exact⟨rfl,rfl⟩
theorem Ce (hb:Eh p w l j) (h0:l[a]? =some y) (S:Jl p y u d):
  Cp 73 #[Er w a] p λe w'=>Rr e (vW p.heap.size)/\w'=JF p w a d.length:=by
 have z:=y' (oL hb h0 S);clear S hb h0;go_enter func73,ntmps73;go_wp2_with (first|(go_at_call 110;refine Cm z ?_;rintro e w' ⟨rfl,rfl⟩)|(go_at_call 105;refine(YR _ _ _ _).mono ?_;rintro e w' ⟨rfl,rfl⟩));go_ret;exact⟨rfl,rfl⟩
attribute [local go_sem] Oper.semAt_some
structure kU (W:World) (b p o:Nat) (m:Nat) (nv mv:Value) (l:List (Nat×Value)):Prop where
 c1:W.cell? (Ea b 0)=some (Er p o)
 c2:W.cell? (Ea (b+1) 0)=some (Ej m)
 s0:W.cell? (Ea p o)=some nv
 s1:W.cell? (Ea p (o+1))=some mv
 sh:Jl W nv mv l
theorem Gq (hs:(d.map (·.1)).Pairwise (· < ·)) (z:w < d.length):AV d (d[w].1:Int)=some d[w].2:=by
 induction d generalizing w with
 |nil=>simp at z
 |cons x r ih=>
  rw[z50,z63]at hs;obtain⟨h0,hs⟩:=hs;cases w with
  |zero=>rw[EI,Nf,if_pos rfl]
  |succ w=>have F:w < r.length:=(by simpa using z);rw[EI,List.getElem_cons_succ,if_neg,ih hs F];have:=h0 r[w].1 (z66.2 ⟨r[w],z86 F,rfl⟩);omega
theorem Cf (n Z b p o m:Nat) (nv mv:Value) (l:List (Nat×Value)) (A:kM l) (z:Nat->World->Prop) (aa:World->Prop)
  (ab:∀i W,z i W->kU W b p o m nv mv l) (ac:∀i W k,z i W->z i (W.drewN k))
  (aj:∀i W (h:i < l.length),i < m->z i W->YieldAt Fence.wide (n - 1) prog Z #[Ej (l[i].1:Nat),l[i].2] W λe G=>(e=.returned (.bool true)/\z (i+1) G)\/(e=.returned (.bool false)/\aa G))
  (W:World) (h0:z 0 W):
  CallsIn Fence.wide n prog 156 #[.func (.yield Z) #[] #[],.pointer (some ⟨b,0,none⟩),.pointer (some ⟨b+1,0,none⟩)] W λe G=>(∃v,e=.returned v)/\(z (min m l.length) G\/aa G):=by
 have R:=ab 0 W h0;obtain⟨c1,c2,s0,s1,S⟩:=R;have ay:=S.len;have Q:(l.map (·.1)).length=l.length:=z42 _;obtain⟨F,J⟩:=exq (min m l.length);rw[<-J];have ak:F<=m:=by omega
 have ad:F<=l.length:=by omega
 have ao:min (m:Int) (l.length:Int)=F:=by omega
 refine callsIn_of_wp func156 rfl trivial ?_ rfl;refine xZ.2 ?_;simp only[ntmps156,List.size_toArray,List.length_cons,List.length_nil,Nat.reduceAdd,Nat.reduceSub,Array.replicate_succ,Array.replicate_zero,List.push_toArray,List.append_toArray,List.nil_append,List.cons_append];rcases S.nums.cases with ⟨M,ah⟩|⟨g,cap,az,M,aA,hn,aB,aC,aq⟩
 .subst M;obtain rfl:l=[]:=by simpa using ah
  obtain rfl:F=0:=by simpa using ad
  have aD:min (m:Int) 0=0:=by omega
  clear S Q ao J ak ad ah;go_wp2;go_quiet (fail);go_wp2;go_loopw[5,19] (λ_ i wr=>i=.int .i64 0/\z 0 wr) (λ_ _ _=>0)
  case atStart=>exact⟨rfl,ac 0 W _ h0⟩
  case round=>obtain⟨rfl,H⟩:=hrel;go_wp2;refine z74 (z64 rfl _ _ _) rfl ?_;exact⟨⟨_,rfl⟩,.inl H⟩
 rw[Q]at M hn;subst M;clear S aq Q;replace J:=y' J;go_wp2;go_quiet (fail);go_wp2;go_loopw[5,19] (λ_ i wr=>∃k:Nat,k<=F/\i=.int .i64 k/\z k wr) (λ_ i _=>l.length - (intOf i).toNat)
 case atStart=>exact⟨0,by omega,rfl,ac 0 W _ h0⟩
 case round=>
  obtain⟨k,aE,rfl,H⟩:=hrel;by_cases aF:k < F
  .have I:k < l.length:=(by omega);obtain⟨c1,c2,s0,s1,S⟩:=ab k wr H;obtain⟨aG,aH,V⟩:=A l[k] (z86 I);have aI:wr.cell? ⟨g,k,none⟩=some (Ej (l[k].1:Int)):=(by rw[S.nums.cell' (by simpa using I)];simp[List.getD_eq_getElem?_getD,I]);have ai:=(CX (P:=prog) (w:=wr) (t:=102) underlying102 underlying3 (tB wr) S.map (l[k].1:Int)).2;rw[Gq S.sorted I,V]at ai;have Y:=aj k wr I (by omega) H;rw[V]at Y;simp only[Option.getD_some,JD]at ai Y;obtain⟨fn,tmps,assign,body,aJ,au⟩:=Y;clear S V;generalize l[k].1=aK at *;go_upto_region 3 with fail;refine(xZ (n:=n)).1 ?_;gi_wp2;refine⟨λh=>by simp[Fence.wide]at h,au.mono ?_⟩;rintro e aL (⟨rfl,av⟩|⟨rfl,ax⟩)
   .gi_wp2
    go_wp2;go_roundw
    case rel=>exact⟨k+1,by omega,by go_num,av⟩
    case measure=>simp[intOf];omega
   gi_wp2
   go_wp2;refine z47 (z64 rfl _ _ _) rfl ?_;exact⟨⟨_,rfl⟩,.inr ax⟩
  obtain rfl:k=F:=by omega
  go_wp2;refine z74 (z64 rfl _ _ _) rfl ?_;exact⟨⟨_,rfl⟩,.inl H⟩
end Go.Proofs.YtamafdcnbcoegabGreat
namespace Go.Proofs.YtamafdcnbcoegabGreat
attribute [local simp, local go_sem] Ev Ep Ei Eb Et Ej Ea En Er Es
open Qb Mq
open Go.RowKit Go.Proofs.Tryz
structure oX (D:Nat) (W W':World):Prop where
 os:W'.os=W.os
 tape:W'.tape=W.tape
 output:W'.output=W.output
 size:W'.heap.size=W.heap.size
 rest:∀k,k≠D->k≠D+1->W'.heap[k]? =W.heap[k]?
theorem UA (D:Nat) (W:World) (o:Obj):oX D W (W.putObj (D+1) o):=
 ⟨rfl,rfl,rfl,Le,λ_ _ h=>xY h⟩
theorem tN (D:Nat) (W:World) (n:Nat):oX D W (W.drewN n):=⟨rfl,rfl,rfl,rfl,λ_ _ _=>rfl⟩
def Cg (D:Nat) (F:World->Prop) (W:World):Exit->Act->World->Prop
 | .normal,_,z=>z.heap[D]? =W.heap[D]? /\z.heap[D+1]? =W.heap[D+1]? /\F z
 | _,_,_=>False
theorem VM {g:Operand} {V:Array Tmp} {assign body:Code} {ah:Exit->Act->World->Prop} {a:Act} {w:World} (n b p o m:Nat) (nv mv:Value) (l:List (Nat×Value)) (A:kM l)
  (au:a.eval g=vW b) (av:V.size=2) (F:Nat->World->Prop) (Z:∀i W Y,F i W->oX w.heap.size W Y->F i Y) (ax:∀i W,F i W->kU W b p o m nv mv l)
  (h0:∀W,El w W->W.heap.size=w.heap.size+2->F 0 W)
  (ay:∀i (hi:i < l.length) W,i < m->F i W->w.heap.size+2<=W.heap.size->
   assign.wpIn (Fence.wide.inRound (w.heap.size+1)) (n - 1 - 1) prog (Exit.then (λai G=>(G.heap[w.heap.size]? =W.heap[w.heap.size]? /\G.heap[w.heap.size+1]? =W.heap[w.heap.size+1]?)/\
     ∀aa,oX w.heap.size G aa->body.wpIn (Fence.wide.inRound (w.heap.size+1)) (n - 1 - 1) prog (Cg w.heap.size (F (i+1)) aa) ai aa) (λ_ _ _=>False))
    {tmps:=(V.zip #[Ej (l[i].1:Nat),l[i].2]).foldl (λt (p,v)=>t.setIfInBounds p v) a.tmps,defers:=[]} W)
  (az:∀i W,F i W->w.heap.size+2<=W.heap.size)
  (aA:∀W,F (min m l.length) W->W.heap[w.heap.size]? =some (.deferred (some []))->ah .normal {a with defers:={target:=.collected w.heap.size,args:= #[]}::a.defers} W):
  (Code.rangeFunc g V assign body).wpIn Fence.wide n prog ah a w:=by
 refine wpIn_rangeFunc ?_;intro fn aB;obtain⟨I,H⟩:=exq (λst=>{state:=st,pending:=none,fn,tmps:=a.tmps,params:=V,assign,body,defers:=w.heap.size}:LoopState->Loop);obtain⟨z,Q⟩:∃z,(w.alloc (.deferred (some []))).alloc (.loop (I .ready))=z:=⟨_,rfl⟩;have aC:z.heap[w.heap.size+1]? =some (.loop (I .ready)):=by rw[<-Q];have:=World.alloc_heap_new (w.alloc (.deferred (some []))) (.loop (I .ready));rwa [z92]at this
 have aD:z.heap[w.heap.size]? =some (.deferred (some [])):=by rw[<-Q];exact(z35 _ _ _ (by simp)).trans (World.alloc_heap_new w _)
 have aE:El w z:=by rw[<-Q];exact((z11 _ w).alloc (z16 _) _).alloc (by simp) _
 have aF:z.heap.size=w.heap.size+2:=by rw[<-Q];simp
 have aG:∀args w,(callFunc 156 args).run prog w=.ok (.enter 156 args) w:=enters_of func156 (by kernel_rfl) rfl;refine⟨w.heap.size+1,[{target:=.collected w.heap.size,args:= #[]}],z,{target:=.fn (.func 156) #[Er b 0,Er (b+1) 0],args:= #[.func (.yield (w.heap.size+1)) #[] #[]]},z,156,
  #[.func (.yield (w.heap.size+1)) #[] #[],Er b 0,Er (b+1) 0],z,?_,?_,?_,?_,λh=>by simp[Fence.wide]at h,?_⟩
 rw[<-Q,H];exact run_enterLoop_outer _ _ _ _ _;simp only[resolve,au];simp[go_sem,vW];intro aN _;trivial;simp[invoke,go_sem,aG];refine(Cf (n - 1) (w.heap.size+1) b p o m nv mv l A
  (λi W=>F i W/\W.heap[w.heap.size+1]? =some (.loop (I .ready))/\W.heap[w.heap.size]? =some (.deferred (some []))) (λ_=>False)
  (λi W h=>ax i W h.1) (λi W k h=>⟨Z i W _ h.1 (tN _ W k),h.2.1,h.2.2⟩) ?_ z ⟨h0 z aE aF,aC,aD⟩).mono ?_
 .rintro i W hi aH ⟨aj,hl,ab⟩;have aO:w.heap.size+1 < W.heap.size:=(z38.1 hl).1;have ak:=run_yield (P:=prog) (args:= #[Ej (l[i].1:Nat),l[i].2]) hl (by rw[H];simpa using av.symm);rw[H]at ak;refine⟨fn,_,assign,body,ak,roundIn_of_wpIn aB (wpIn_mono (ay i hi W aH aj (az i W aj)) ?_)⟩;rintro e ai G J;cases e with
  |normal=>
   obtain⟨⟨aI,ac⟩,aJ⟩:=J;have ao:G.heap[w.heap.size+1]? =some (.loop (I .ready)):=ac.trans hl;have aK:G.heap[w.heap.size]? =some (.deferred (some [])):=aI.trans ab;have aL:w.heap.size+1 < G.heap.size:=(z38.1 ao).1;refine⟨_,run_beginRound ao (by rw[H]),wpIn_mono (aJ _ (UA _ G _)) ?_⟩;rintro ac aP ad M;cases ac with
   |normal=>obtain⟨f1,f2,f3⟩:=M;have aq:ad.heap[w.heap.size+1]? =some (.loop {I .ready with state:=.busy}):=f2.trans (World.putObj_heap_same aL);have aM:ad.heap[w.heap.size]? =some (.deferred (some [])):=(f1.trans (xY (by omega))).trans aK;refine⟨_,_,run_endRound none aq,.inl ⟨rfl,Z _ _ _ f3 (UA _ ad _),?_,?_⟩⟩;rw[World.putObj_heap_same (z38.1 aq).1,H];rfl;exact(xY (by omega)).trans aM
   |ret=>exact M.elim
   |exit id=>exact M.elim
   |goto t=>exact M.elim
   |panic c=>exact M.elim
   |outgrown=>exact M.elim
  |ret=>exact J.elim
  |exit id=>exact J.elim
  |goto t=>exact J.elim
  |panic c=>exact J.elim
  |outgrown=>exact J.elim
 rintro e Y ⟨⟨v,rfl⟩,⟨hi,hl,ab⟩|h⟩;have:=run_endLoop (P:=prog) hl (by rw[H];simp);rw[H]at this;exact⟨none,_,this,aA _ (Z _ _ _ hi (UA _ Y _)) ((xY (by omega)).trans ab)⟩;exact h.elim
def MQ:Value:=.agg #[]
def Ik:Value:=.agg #[]
theorem Lg (w:World):(zeroValue 207).run prog w=.ok Ik w:=zeroValue207 w
def kV (l:List (Nat×Value)):Prop:=∀x∈l,x.2=MQ
variable{d:List (Nat×Value)}{p f B:World}{w a q b:Nat}{l:Array Value}{j:TypeId}{y u:Value}{aX:Js}{C:List Value}{N:Nat -> Prop}{k:List Nat}{c:Ag}{O:Nat -> Nat}{aD:Bool}{cY:List Nat -> Prop}{z:z10}{x:Mq.Sk}{L:Nat -> List (Nat×Value)}{H:Stv}{D:Sv}{r:List UInt8}{o:Int}{F:Nat -> List z10}{S:List z10}
theorem yC (h:kV d) (k:Int):(AV d k=some (MQ))\/AV d k=none:=by
 cases z:AV d k with
 |none=>exact .inr rfl
 |some v=>obtain⟨x,F,_,rfl⟩:=IW z;have e:=h x F;exact .inl (by rw[e])
theorem Ch (hb:Eh p w l j) (h1:l[a+1]? =some u) (S:Jl p y u d) (A:kV d) (n:Int):
  Cp 157 #[Er w a,Ej n] p λe w'=>Rr e (.bool (AV d n).isSome)/\El p w':=by
 have c1:p.cell? (Ea w (a+1))=some u:=(D' hb).trans h1;have z:=(CX (P:=prog) (w:=p) (t:=108) underlying108 underlying3 (Lg p) S.map n).1;clear S hb h1;rcases yC A n with ⟨h⟩|h;all_goals
  rw[h]at z ⊢;simp only[Option.getD_some,Option.getD_none,Option.isSome_some,Option.isSome_none,MQ,Ik]at z ⊢;clear h A;go_enter func157,ntmps157;go_wp2;go_ret;refine⟨rfl,?_⟩;exact bna
theorem Ci (S:KP p w a j l y u d) (hl:d.length < 1000) (n:Nat):
  Cp 121 #[Er w a,Ej n,MQ] p λe w'=>Rr e (.tuple #[])/\EC p w' w a j l y u (CY d n (MQ)):=kL (.inr (.inl ⟨rfl,rfl,rfl,rfl⟩)) S hl n
theorem YS (S:KP p w a j l y u d):
  Cp 119 #[Er w a] p λe w'=>Rr e (.tuple #[])/\EC p w' w a j l y u []:=TV (.inr (.inl ⟨rfl,rfl⟩)) S
def MA (m:Nat):Value:=Ej m
def vX:Value:=Ej 0
theorem Cj (w:World):(zeroValue 3).run prog w=.ok vX w:=zeroValue3 w
def YT (l:List (Nat×Value)):Prop:=∀x∈l,∃m,x.2=MA m
theorem yD (h:YT d) (k:Int):(∃m,AV d k=some (MA m))\/AV d k=none:=by
 cases z:AV d k with
 |none=>exact .inr rfl
 |some v=>obtain⟨x,F,_,rfl⟩:=IW z;obtain⟨m,e⟩:=h x F;exact .inl ⟨m,by rw[e]⟩
theorem Ck (S:KP p w a j l y u d) (hl:d.length < 1000) (n:Nat) (m:Nat):
  Cp 107 #[Er w a,Ej n,MA m] p λe w'=>Rr e (.tuple #[])/\EC p w' w a j l y u (CY d n (MA m)):=by
 obtain⟨Z,h0,h1,S,aa⟩:=S;obtain⟨ay,ab⟩:=exq (u);rw[<-ab];have ab:=y' ab;have c0:p.cell? (Ea w a)=some y:=(D' Z).trans h0;have c1:p.cell? (Ea w (a+1))=some u:=(D' Z).trans h1;unfold MA;have az:=z12 Z;go_enter func107,ntmps107;refine G' (λx=>Eh x w l j/\Jl x y u d/\Far (λ_=>False) p x/\p.heap.size<=x.heap.size) ?_ ?_;exact⟨Z,S,Far.refl _ p,z16 _⟩;clear c0 c1 S;rintro x ⟨hb,S,Q,ac⟩;have c0:x.cell? (Ea w a)=some y:=(D' hb).trans h0;have c1:x.cell? (Ea w (a+1))=some u:=(D' hb).trans h1;have aA:x.frozen? ⟨w,a+1,none⟩=false:=by simp[World.frozen?,hb]
 have aB:= @run_makeMap prog;have aC:∀z:World,(binOp .eql 105 (.map none) (.map none)).run prog z=.ok (.bool true) z:=λz=>by kernel_rfl
 have aD:∀ (z:World) (m:Nat),(binOp .eql 105 (.map (some m)) (.map none)).run prog z=.ok (.bool false) z:=λz m=>by kernel_rfl
 have ad:(x.alloc (.map #[] 0)).heap[w]? =some (.cells l j (0,0)):=(z35 x _ w (z12 hb)).trans hb;have aE:(x.alloc (.map #[] 0)).cell? (Ea w (a+1))=some u:=(D' ad).trans h1;have aF:(x.alloc (.map #[] 0)).frozen? ⟨w,a+1,none⟩=false:=by simp[World.frozen?,ad]
 rcases S.map with ⟨rfl,ah⟩|⟨mb,rfl,ah⟩;all_goals
  go_upto_region 2 with fail
  refine G' (λz=>∃mb,Eh z w (l.setIfInBounds (a+1) (.map (some mb))) j/\Jt z y (d.map (·.1))/\Xp z mb (AV d)/\
   Far (λk=>k=w) p z/\p.heap.size<=z.heap.size/\(CT ay=some mb\/p.heap.size<=mb)) ?_ ?_
 refine⟨x.heap.size,AA ad,S.nums.keep (λg I=>(AG (λe=>S.ne hb aa (.inl (by rw[<-e];exact I)))).trans (z35 x _ g (z14 S.nums g I).2)),?_,((Q.mono (λ_ _ h=>h.elim)).trans (I' ((z11 _ x).alloc (z16 _) _)) Ih).trans (T' _ w (a+1) _) Ih,?_,.inr ac⟩;rw[ah];exact(iD x).keep (AG (by have:=z12 hb;omega));simp;omega;rotate_left;refine⟨mb,by rw[IX h1];exact hb,S.nums,ah,Q.mono (λ_ _ h=>h.elim),ac,.inl (by rw[d' ab];rfl)⟩;all_goals
  have hs:=y' S.sorted;clear c0 c1 ad aE aF aA S ah hb ac aB aC aD Q az;rintro z ⟨G,hb,N,H,au,ac,aG⟩;have aH:a < l.size:=(z38.1 h0).1;have ak:a+1 < l.size:=(z38.1 h1).1;have a0:(l.setIfInBounds (a+1) (.map (some G)))[a]? =some y:=by rw[z18 (by omega)];exact h0
  have a1:(l.setIfInBounds (a+1) (.map (some G)))[a+1]? =some (.map (some G)):=by simp[ak]
  have c0:z.cell? (Ea w a)=some y:=(D' hb).trans a0;have J:=iF (v:=MA m) (n:=n) (d' hs);have M:=KD N (d' hs) (by simp;omega) n;have ao:(d.map (·.1)).countP (· < n)<=(d.map (·.1)).length:=rU;have aI:(d.map (·.1)).length < 1000:=by simpa using hl
  generalize (d.map (·.1)).countP (· < n)=k at J M ao;generalize (d.map (·.1)).contains n=c at J M;generalize d.map (·.1)=ns at J M ao N aI;replace J:=y' J;replace M:=y' M;cases c
  case' false=>
   go_upto_region 3 with (go_at_call 125;refine Cm M ?_;rintro e aJ ⟨rfl,q,rfl⟩)
   go_upto_region 5 with fail
   refine(YI (w:=(z.drewN q).alloc (.cells #[Ej n] 3)) (ns:=ns) (N.keep (λg I=>z35 (z.drewN q) _ g (z14 N g I).2)) (by omega) k n z.heap.size ao (z19 (z.drewN q) _) (λe=>by have:=(z14 N _ e).2;omega)).mono ?_;rintro e F ⟨nv',rfl,ai,aq,aK⟩;have aj:=aq.blk ((z35 (z.drewN q) _ w (z12 hb)).trans hb) (λe=>(Ql.Jc N).ne hb (λe=>aa e.symm) e);have aV:=(D' aj).trans a0;have aW:F.frozen? ⟨w,a,none⟩=false:=(by simp[World.frozen?,aj]);obtain⟨aL,V⟩:=exq (ns.take k++n::ns.drop k);rw[<-V]at ai;obtain⟨g',aM,rfl⟩:=BS ai (by rw[V];simp only[List.length_append,List.length_cons];omega);replace V:=y' V;go_upto_region 5 with fail
  case' true=>
   go_upto_region 3 with (go_at_call 125;refine Cm M ?_;rintro e aJ ⟨rfl,q,rfl⟩)
   go_upto_region 5 with fail
  all_goals
   refine G' (λF=>∃nv',Eh F w ((l.setIfInBounds a nv').setIfInBounds (a+1) (.map (some G))) j/\Jt F nv' ((CY d n (MA m)).map (·.1))/\Xp F G (AV d)/\
    Far (λk=>k=w\/y.ownBlock=some k) p F/\Loc p y nv') ?_ ?_
  have Y:=d' J;simp only[if_true]at Y;refine⟨y,?_,by rw[Y];exact N,H,(au.mono (λ_ _ h=>.inl h)).trans (BK _ z q) Ih,.inr (.inl rfl)⟩;rw[IX h0];exact hb;rotate_left;have aN:y.ownBlock≠some G:=N.Ye H;have aO:∀g,(Value.slice (some ⟨g',0,none⟩) aL.length aM).ownBlock=some g->g≠w:=λg I e=>(Ql.Jc ai).ne aj (λe=>aa e.symm) (by rw[I,e]);have Y:=d' J;simp only[Bool.false_eq_true,if_false]at Y;have av:Far (λ_=>False) z ((z.drewN q).alloc (.cells #[Ej n] 3)):=(BK (λ_=>False) z q).trans (I' bna) Ih;have aP:Far (λb=>b=w\/y.ownBlock=some b) p F:=(au.mono (λ_ _ h=>.inl h)).trans ((av.mono (λ_ _ h=>h.elim)).trans aq Ih) (λ_ _ h=>.inr h);refine⟨_,?_,?_,?_,aP.trans (T' F w a _) (λ_ _ h=>.inl h),EG aK (by simp;omega)⟩;rw[set_comm _ _ (show a≠a+1 by omega)];exact AA aj;rw[Y,<-d' V];exact ai.keep (λg I=>AG (aO g I));exact H.keep ((AG (λe=>H.Jy (by rw[e];exact hb))).trans ((aq.rest _ (by have:=H.lt;simp;omega) aN).trans (av.rest _ H.lt id)));all_goals
   rintro F ⟨nv',hb,aQ,H,Q,aR⟩;obtain⟨ax,aS,aT⟩:=RL (P:=prog) (w:=F) (t:=105) underlying105 underlying3 H n (MA m);have aU:=aS F rfl;unfold MA at aU;have c1:F.cell? (Ea w (a+1))=some (.map (some G)):=(D' hb).trans (by simp[ak]);go_wp2;refine z74 (z64 rfl _ _ _) rfl ⟨rfl,?_⟩;exact vS (v:=MA m) (W:={F with heap:=F.heap.setIfInBounds G ax}) aH ak hb aa aQ H Q aR aG aT (JS G ax) (d' hs) hl
theorem tO (S:KP p w a j l y u d):
  Cp 118 #[Er w a] p λe w'=>Rr e (.tuple #[])/\EC p w' w a j l y u []:=TV (.inl ⟨rfl,rfl⟩) S
theorem Cl (hb:Eh p w l j) (h1:l[a+1]? =some u) (S:Jl p y u d) (A:YT d) (n:Int):
  Cp 158 #[Er w a,Ej n] p λe w'=>Rr e (.tuple #[(AV d n).getD vX,.bool (AV d n).isSome])/\w'=p:=by
 have c1:p.cell? (Ea w (a+1))=some u:=(D' hb).trans h1;have z:=(CX (P:=prog) (w:=p) (t:=105) underlying105 underlying3 (Cj p) S.map n).1;clear S hb h1;rcases yD A n with ⟨m,h⟩|h;all_goals
  rw[h]at z ⊢;simp only[Option.getD_some,Option.getD_none,Option.isSome_some,Option.isSome_none,MA,vX]at z ⊢;clear h A;go_enter func158,ntmps158;go_wp2;go_ret2;exact⟨rfl,rfl⟩
theorem Lh:(prog.info? 3).map (λi=>(i.zero,i.size,i.bytes))=some (some (Ej 0),1,8):=by kernel_rfl
theorem fT (S:KP p w a j l y u d) (A:YT d) (n:Nat):
  Cp 167 #[Er w a,Ej n] p λe w'=>∃v,e=.returned v/\
   w'.ownsRow p.heap.size 3 1 v (DE d n) (LY (d.take (DE d n)))/\Vn p w' w a j l y u (d.drop (DE d n)):=by
 obtain⟨ac,h0,h1,S,av⟩:=S;have aO:a < l.size:=(z38.1 h0).1;have bG:a+1 < l.size:=(z38.1 h1).1;have c0:p.cell? (Ea w a)=some y:=(D' ac).trans h0;have bH:=S.len;have ad:=KD S.nums S.sorted (by simp;omega) n;have hcut:=Bv (n:=n) S.sorted;have aP:=Bw d n;have aQ:(d.map (·.1)).countP (· < n)<=d.length:=by have:=rU (p:=(· < n)) (l:=d.map (·.1));simpa using this
 obtain⟨i0,hi,bg,bh,bi⟩:=AT Lh;generalize DE d n=Y,(d.map (·.1)).countP (· < n)=k0,(d.map (·.1)).contains n=c at *;have G:(d.map (·.1)).length=d.length:=z42 _;have ah:=y' S;have bI:=y' G;replace ad:=y' ad;rcases S.nums.cases with ⟨ax,aR⟩|⟨g,cap,bJ,ax,aS,hn,aT,bK,bj⟩
 .subst ax;obtain rfl:d=[]:=by simpa using aR
  obtain rfl:Y=0:=by simpa using aP
  obtain rfl:k0=0:=by simpa using aQ
  have aT:c=false:=by cases c <;> simp_all
  subst aT;have M:=λH:World=>KF (FL H) 0 0 (by omega) (by simp);simp only[show((0:Nat):Int)=0 from rfl,List.take_nil,List.drop_nil,List.nil_append]at M;have bk:=λH=>y' (M H);clear S G M hcut aQ aP aR;simp only[show((0:Nat):Int)=0 from rfl]at ad;go_enter func167,ntmps167;go_upto_region 5 with (go_at_call 125;refine Cm ad ?_;rintro e H ⟨rfl,q,rfl⟩);go_wp2;go_loopw[5,9,29] (λv5 _ i wr=>v5=.slice none 0 0/\i=.int .i64 0/\wr=p.drewN q) (λ_ _ i _=>0)
  case atStart=>exact⟨rfl,rfl,rfl⟩
  case round=>obtain⟨rfl,rfl,rfl⟩:=hrel;go_upto_region 12 with fail;refine Cm (bk _) ?_;rintro e F ⟨nv',rfl,Q,I,Z⟩;obtain rfl:nv'=En:=(by rcases Q.cases with ⟨h,_⟩|⟨g',aU,bL,rfl,_⟩;exact h;cases Z);have aj:Far (λ_=>False) p F:=(BK (λ_=>False) p q).trans (I.mono (λ_ _ h=>by cases h)) Ih;have aa:=aj.blk ac id;have bl:=(D' aa).trans h0;have bm:F.frozen? ⟨w,a,none⟩=false:=(by simp[World.frozen?,aa]);replace Q:=y' Q;replace aj:=y' aj;clear I Z;go_wp2;go_ret;have ay:=d' ah;have bM:F.setCell ⟨w,a,none⟩ En=F.setCell ⟨w,a,none⟩ En:=rfl;refine⟨_,rfl,z20 _ _ _ _,⟨_,⟨AA aa,by simp[aO],by rw[z18 (by omega)];exact h1,⟨FL _,(ay.far (d' aj) Ih).map.keep (λb J=>AG (λe=>?_)),by simp,by simp⟩,av⟩,rfl⟩,((d' aj).mono (λ_ _ h=>h.elim)).trans (T' F w a _) (λ_ _ h=>.inl h)⟩;exact ay.ne ac av (.inr (by rw[J,e]))
 rw[G]at ax hn;subst ax;have bN:=y' S.nums;cases c;all_goals
  simp only[if_true,if_false,Bool.false_eq_true,Nat.add_zero]at hcut;clear S bj G;try (rw[hcut]at ad)
  have bn:((k0:Int)+1=(Y:Int))=((k0:Int)+1=(Y:Int)):=rfl;try (have bn:(k0:Int)+1=Y:=by omega)
  replace hcut:=y' hcut;go_enter func167,ntmps167;go_upto_region 5 with (go_at_call 125;refine Cm ad ?_;rintro e H ⟨rfl,q,rfl⟩)
 all_goals
  go_wp2;go_loopw[5,9,29] (λv5 _ i wr=>∃k:Nat,k<=Y/\i=.int .i64 k/\wr.ownsRow p.heap.size 3 1 v5 k (LY (d.take k))/\wr.heap[w]? =some (.cells l j (0,0))/\Jt wr (.slice (some ⟨g,0,none⟩) d.length cap) (d.map (·.1))/\fJ wr u (AV (d.drop k))/\Far (λb=>CT u=some b) p wr) (λ_ _ i _=>d.length - (intOf i).toNat)
  case atStart=>exact⟨0,by omega,rfl,z20 _ _ _ _,ac,(d' ah).nums,by rw[List.drop_zero];exact(d' ah).map,BK _ p q⟩
  case round=>
   obtain⟨k,bO,rfl,az,hb,N,aF,aA⟩:=hrel;by_cases bP:k < Y
   .have G:k < d.length:=(by omega);obtain⟨m,aB⟩:=A d[k] (z86 G);have aC:d.drop k=d[k]::d.drop (k+1):=Ga G;have V:AV (d.drop k) (d[k].1:Int)=some d[k].2:=(by rw[aC,EI,if_pos rfl]);have aV:=(d' ah).sorted;have aW:∀H∈d.drop (k+1),d[k].1 < H.1:=λH bo=>(by have h1:((d.drop k).map (·.1)).Pairwise (· < ·):=(by rw[xO];exact aV.drop);rw[aC,z50,z63]at h1;exact h1.1 H.1 (z66.2 ⟨H,bo,rfl⟩));have aG:=YL aW;rw[<-aC]at aG;have aH:LY (d.take (k+1))=LY (d.take k)++OA d[k].2:=(by rw[<-iH,sX,z17 G];rfl);have c0:=(D' hb).trans h0;have c1:=(D' hb).trans h1;have bQ:wr.cell? (Ea g k)=some (Ej (d[k].1:Int)):=(by rw[N.cell' (by simpa using G)];simp[List.getD_eq_getElem?_getD,G]);rcases aF with ⟨rfl,ak⟩|⟨mb,rfl,ak⟩;rw[ak]at V;cases V;have aX:=(CX (P:=prog) (w:=wr) (t:=105) underlying105 underlying3 (Cj wr) (.inr ⟨mb,rfl,ak⟩) (d[k].1:Int)).2;rw[V,aB]at aX;rw[aB]at aH;simp only[Option.getD_some,MA]at aX;have bp:=y' aH;have bq:=y' aG;have ao:=y' az;have aq:=y' N;have ai:=y' ak;have aD:=y' aA;have bR:=y' aB;clear az N ak aA aH aG V aB aC aW aV;generalize aY:d[k].1=br at *;replace aY:=y' aY;have aZ:=(d' aD).size;have bt:mb < p.heap.size:=(d' ah).map.lt mb rfl;have ba:=z12 ac;have bu:=λg' (z:u5.ownBlock=some g')=>z14 (d' ao) g' z;go_upto_region 9 with (at_builtin;refine z67 _ rfl (.tmp 33) (.tmp 40) 101 rfl p.heap.size 3 i0 (Ej 0) 1 8 underlying101 hi bg bh bi rfl (by decide) u5 k (LY (d.take k)) rfl ((d' ao).alloc _) ⟨wr.heap.size,0,none⟩ 1 1 (OA (MA m)) rfl rfl AW (by intro bS hu;simp[OA,MA]at hu;first|(rcases hu with rfl|rfl <;> rfl)|(subst hu;rfl)) (by unfold maxLen;omega) (by omega) (by simp;omega) ?_;intro v' w1 au bb _;have ab:Below p.heap.size wr w1:=((z11 _ wr).alloc aZ _).trans (AB (B:=p.heap.size) bb (by simp;omega) (λg' z=>(bu g' z).1));obtain⟨aI,bc,aJ⟩:=MN (P:=prog) (w:=w1) (t:=105) (K':=3) underlying105 underlying3 ((d' ai).keep (ab.block mb bt)) br;have bT:=λty=>bc ty w1 rfl;have aK:=(ab.block w ba).trans hb;have bU:=(D' aK).trans h1;replace au:=y' au;replace aJ:=y' aJ;replace ab:=y' ab;clear bb bc);go_wp2;have bw:w≠mb:=λe=>(d' ai).Jy (by rw[<-e];exact hb);have bz:=(d' aq).Ye (d' ai);have bV:=(z14 (d' aq) g rfl).2;have aL:g < p.heap.size:=z12 aS;have aE:=JS (w:=w1) mb aI;have bA:=(d' aq).keep (w':={w1 with heap:=w1.heap.setIfInBounds mb aI}) (λg' z=>by cases z;exact(aE.rest g (z21 aL (z26 aZ (d' ab).size)) (λe=>bz (by rw[e];rfl))).trans ((d' ab).block g aL));have bB:=IM (w':={w1 with heap:=w1.heap.setIfInBounds mb aI}) (d' au) (λg' z=>aE.rest g' (z14 (d' au) g' z).2 (λe=>by have:=(z14 (d' au) g' z).1;omega));refine⟨⟨k+1,by omega,by go_num,by rw[d' bp];exact bB,(aE.rest w (z12 aK) bw).trans aK,bA,.inr ⟨mb,rfl,by rw[<-d' bq];exact d' aJ⟩,
     ((d' aD).behind (d' ab)).trans aE (λ_ _ h=>by rw[h];rfl)⟩,by simp[intOf];omega⟩
   obtain rfl:k=Y:=(by omega);have ao:=y' az;have aq:=y' N;have ai:=y' aF;have aD:=y' aA;have bC:(d.map (·.1)).length=d.length:=z42 _;have bd:g≠w:=λe=>(Ql.Jc N).ne hb (λe=>av e.symm) (by rw[<-e];rfl);have c0:=(D' hb).trans h0;have M:=KF N 0 k (by omega) (by omega);rw[show((0:Nat):Int)=0 from rfl,List.take_zero,z78,<-xO]at M;replace M:=y' M;clear az N aF aA bC;go_upto_region 12 with fail;refine Cm M ?_;rintro e F ⟨nv',rfl,Q,I,Z⟩;have aa:=I.blk hb (λe=>bd (by cases e;rfl));have bl:=(D' aa).trans h0;have bm:F.frozen? ⟨w,a,none⟩=false:=(by simp[World.frozen?,aa]);have V:(List.map (λx=>x.1) (List.drop k d)).length=d.length - k:=(by simp);have be:=(Ql.Jc Q).shape;rw[V]at be;obtain⟨bD,aU,rfl,_⟩:=be;replace V:=y' V;replace Q:=y' Q;replace Z:=y' Z;replace I:=y' I;go_wp2;go_ret;have ay:=d' ah;have bE:Far (λb=>b=w\/ShU (Es g 0 d.length cap) u b) p F:=((d' aD).mono (λ_ _ h=>.inr (.inr h))).trans (d' I) (λ_ _ h=>.inr (.inl h));have aM:∀b,b≠w->(F.setCell ⟨w,a,none⟩ (.slice bD (d.length - k) aU)).heap[b]? =F.heap[b]? :=λb hb=>AG hb;have bf:∀b,CT u=some b->b≠w/\F.heap[b]? =wr.heap[b]? :=λb J=>(by rcases d' ai with ⟨h,_⟩|⟨bW,h,aN⟩;rw[h]at J;cases J;rw[h]at J;cases J;exact⟨λe=>aN.Jy (by rw[e];exact hb),(d' I).rest b aN.lt (λe=>(d' aq).Ye aN e)⟩);refine⟨_,rfl,IM (d' ao) (λg' z=>?_),⟨_,⟨AA aa,by simp[aO],by rw[z18 (by omega)];exact h1,⟨(d' Q).keep (λg' z=>aM g' ?_),(d' ai).keep (λb J=>(aM b (bf b J).1).trans (bf b J).2),by rw[xO];exact ay.sorted.drop,by rw[z97];omega⟩,av⟩,d' Z⟩,bE.trans (T' F w a _) (λ_ _ h=>.inl h)⟩;have bF:=z14 (d' ao) g' z;have ba:=z12 ac;have aL:=z12 aS;exact(aM g' (by omega)).trans ((d' I).rest g' bF.2 (λe=>by have bX:g=g':=fB e;omega));rw[d' Z]at z;cases z;exact bd
structure UB (w:World) (p:Nat) (g:Nat->Nat) (tk:Nat) (wel fen:Bool) (free:List Nat) (sh:Nat->List (Nat×Value)) (arr:Array Value) (s:Nat) (nv mv:Nat->Value) (fv rv:Value):Prop where
 blk:w.heap[p]? =some (.cells arr 116 (0,0))
 sz:arr.size=27
 a0:arr[0]? =some (C' s)
 ag:∀i,i < 3->arr[1+i]? =some (Ej (g i))
 an:∀k,k < 9->arr[4+k * 2]? =some (nv k)
 am:∀k,k < 9->arr[4+k * 2+1]? =some (mv k)
 af:arr[22]? =some fv
 at':arr[23]? =some (Ej tk)
 aw:arr[24]? =some (.bool wel)
 ae:arr[25]? =some (.bool fen)
 ar:arr[26]? =some rv
 fr:Ql w 3 1 fv free.length (O' free)
 shs:∀k,k < 9->Jl w (nv k) (mv k) (sh k)
 apf:∀k,k < 9->∀j,ShU (nv k) (mv k) j->fv.ownBlock≠some j
 aps:∀j k,j < 9->k < 9->j≠k->∀b,ShU (nv j) (mv j) b->¬ShU (nv k) (mv k) b
def KaU (p:Nat) (nv mv:Nat->Value) (fv:Value) (k:Nat):Prop:=k=p\/fv.ownBlock=some k\/∃i,i < 9/\ShU (nv i) (mv i) k
structure Av where
 arr:Array Value
 s:Nat
 dp:Nat
 nv:Nat->Value
 mv:Nat->Value
 fv:Value
 rv:Value
 dlv:Value
 duv:Value
def EN (p:Nat):List Value:=[Ej 2,.func (.func 76) #[C' p] #[],Ej 4,.func (.func 77) #[C' p] #[],Ej 5,.func (.func 78) #[C' p] #[]]
structure Ja (w:World) (p:Nat) (g:Nat->Nat) (tk:Nat) (wel fen:Bool) (free:List Nat) (sh:Nat->List (Nat×Value)) (st:Stv) (c:Av):Prop where
 ks:UB w p g tk wel fen free sh c.arr c.s c.nv c.mv c.fv c.rv
 stt:Zp w c.s c.dp st c.dlv c.duv
 rl:Ql w 134 2 c.rv 3 (EN p)
 len:st.dk.bytes.length=1664
def PaU (p:Nat) (c:Av) (k:Nat):Prop:=KaU p c.nv c.mv c.fv k\/StU c.s c.dp c.dlv c.duv k\/c.rv.ownBlock=some k
section
variable {w x y:World} {p:Nat} {g g2:Nat->Nat} {tk tk2:Nat} {wel wel2 fen fen2:Bool} {free free2:List Nat} {sh sh2:Nat->List (Nat×Value)} {arr:Array Value} {s:Nat} {nv mv:Nat->Value} {fv rv:Value} {st st2:Stv} {c:Av}
theorem UB.far {E:Nat->Prop} (h:UB w p g tk wel fen free sh arr s nv mv fv rv) (z:Far E w x) (F:∀k,KaU p nv mv fv k->¬E k):UB x p g tk wel fen free sh arr s nv mv fv rv:=
 ⟨z.blk h.blk (F p (.inl rfl)),h.sz,h.a0,h.ag,h.an,h.am,h.af,h.at',h.aw,h.ae,h.ar,h.fr.far z (λg G=>F g (.inr (.inl G))),λi hi=>(h.shs i hi).far z (λk H=>F k (.inr (.inr ⟨i,hi,H⟩))),h.apf,h.aps⟩
theorem UB.lt (h:UB w p g tk wel fen free sh arr s nv mv fv rv):∀k,KaU p nv mv fv k->k < w.heap.size:=by
 rintro k (rfl|z|⟨i,hi,z⟩);exact z12 h.blk;exact h.fr.lt k z;exact(h.shs i hi).lt k z
theorem FC (h:UB w p g tk wel fen free sh arr s nv mv fv rv) {q:Nat} {F:Array Value} {t:TypeId} {fr:Nat×Nat} (hb:w.heap[q]? =some (.cells F t fr)) (h1:t≠116) (h3:t≠3):¬KaU p nv mv fv q:=by
 rintro(rfl|z|⟨i,hi,z⟩);have:=h.blk;rw[hb]at this;injection this with this;injection this with _ this _;exact h1 this;exact h.fr.ne hb (λe=>h3 e.symm) z;exact(h.shs i hi).ne hb h3 z
theorem Ja.lt (h:Ja w p g tk wel fen free sh st c):∀k,PaU p c k->k < w.heap.size:=by
 rintro k (z|z|z);exact h.ks.lt k z;exact h.stt.lt k z;exact h.rl.lt k z
theorem Ja.far {E:Nat->Prop} (h:Ja w p g tk wel fen free sh st c) (z:Far E w x) (F:∀k,PaU p c k->¬E k):Ja x p g tk wel fen free sh st c:=
 ⟨h.ks.far z (λk G=>F k (.inl G)),h.stt.far z (λk G=>F k (.inr (.inl G))),h.rl.far z (λg H=>F g (.inr (.inr H))),h.len⟩
theorem Ja.below (h:Ja w p g tk wel fen free sh st c) (hb:El w x):Ja x p g tk wel fen free sh st c:=h.far (fbF hb) Ih
theorem Ja.sep (h:Ja w p g tk wel fen free sh st c):∀k,KaU p c.nv c.mv c.fv k->¬StU c.s c.dp c.dlv c.duv k:=by
 rintro k z (hs|hs|hs|hs);subst hs;exact FC h.ks h.stt.blk (by decide) (by decide) z;subst hs;exact FC h.ks h.stt.dk.blk (by decide) (by decide) z;obtain⟨G,F⟩:=FP (Ql.Jc h.stt.dk.row) hs;exact FC h.ks F (by decide) (by decide) z;obtain⟨G,F⟩:=FP h.stt.dk.un hs;exact FC h.ks F (by decide) (by decide) z
theorem Ja.sepr (h:Ja w p g tk wel fen free sh st c):∀k,c.rv.ownBlock=some k->¬KaU p c.nv c.mv c.fv k/\¬StU c.s c.dp c.dlv c.duv k:=by
 intro k F;obtain⟨G,z⟩:=FP h.rl F;refine⟨FC h.ks z (by decide) (by decide),?_⟩;rintro(hs|hs);rw[hs,h.stt.blk]at z;injection z with z;injection z with _ z _;exact absurd z (by decide);exact KW h.stt.dk z (by decide) (by decide) (by decide) hs
theorem GG (z:Ja w p g tk wel fen free sh st c) {q:Nat} {F:Array Value} {t:TypeId} {fr:Nat×Nat} (hb:w.heap[q]? =some (.cells F t fr))
  (h1:t≠116) (h3:t≠3) (h4:t≠190) (h5:t≠233) (G:t≠5) (H:t≠254) (I:t≠134):¬PaU p c q:=by
 rintro(h|(h|h)|h);exact FC z.ks hb h1 h3 h;subst h;have:=z.stt.blk;rw[hb]at this;injection this with this;injection this with _ this _;exact h4 this;exact KW z.stt.dk hb (λe=>h5 e.symm) (λe=>G e.symm) (λe=>H e.symm) h;exact z.rl.ne hb (λe=>I e.symm) h
def Qy (w x:World) (p:Nat) (g:Nat->Nat) (tk:Nat) (wel fen:Bool) (free:List Nat) (sh:Nat->List (Nat×Value)) (st:Stv) (c:Av):Prop:=
 ∃z,Ja x p g tk wel fen free sh st z/\Far (PaU p c) w x/\(∀k,PaU p z k->PaU p c k\/w.heap.size<=k)/\z.s=c.s/\z.rv=c.rv
theorem oY (z:Ja w p g tk wel fen free sh st c):Qy w w p g tk wel fen free sh st c:=⟨c,z,Far.refl _ _,λ_ h=>.inl h,rfl,rfl⟩
theorem Qy.trans (h:Qy w x p g tk wel fen free sh st c) (G:∀z,Ja x p g tk wel fen free sh st z->Qy x y p g2 tk2 wel2 fen2 free2 sh2 st2 z):Qy w y p g2 tk2 wel2 fen2 free2 sh2 st2 c:=by
 obtain⟨c1,h1,h2,h3,h4,h5⟩:=h;obtain⟨c2,k1,k2,k3,k4,k5⟩:=G c1 h1;refine⟨c2,k1,h2.trans k2 (λk F hu=>(h3 k hu).elim id (λh=>by omega)),λk F=>?_,k4.trans h4,k5.trans h5⟩;rcases k3 k F with h|h;exact h3 k h;exact .inr (z26 h2.size h)
theorem Qy.below (h:Qy w x p g tk wel fen free sh st c) (hb:El x y):Qy w y p g tk wel fen free sh st c:=
 h.trans (λz F=>⟨z,F.below hb,I' hb,λ_ h=>.inl h,rfl,rfl⟩)
theorem Qy.behind (h:Qy x y p g tk wel fen free sh st c) (hb:El w x):Qy w y p g tk wel fen free sh st c:=by
 obtain⟨z,h1,h2,h3,h4,h5⟩:=h;exact⟨z,h1,(I' (E:=PaU p c) hb).trans h2 Ih,λk F=>(h3 k F).imp id (λh=>z26 hb.size h),h4,h5⟩
theorem Ja.shAt (z:Ja w p g tk wel fen free sh st c) {i:Nat} (hi:i < 9):KP w p (4+i * 2) 116 c.arr (c.nv i) (c.mv i) (sh i):=
 ⟨z.ks.blk,z.ks.an i hi,z.ks.am i hi,z.ks.shs i hi,by decide⟩
theorem FR (F:Ja w p g tk wel fen free sh st c) {i:Nat} (hi:i < 9) (h:EC w x p (4+i * 2) 116 c.arr (c.nv i) (c.mv i) d):
  Qy w x p g tk wel fen free (λt=>if t=i then d else sh t) st c:=by
 obtain⟨⟨nv',mv',S,hn,Z⟩,hF⟩:=h;have Y:∀k,(k=p\/ShU (c.nv i) (c.mv i) k)->KaU p c.nv c.mv c.fv k:=λk z=>z.elim .inl (λh=>.inr (.inr ⟨i,hi,h⟩));have aa:=F.ks.sz;have G:∀j,j≠4+i * 2->j≠4+i * 2+1->((c.arr.setIfInBounds (4+i * 2) nv').setIfInBounds (4+i * 2+1) mv')[j]? =c.arr[j]? :=λj h1 h2=>by rw[z18 (by omega),z18 (by omega)]
 have M:∀k,ShU nv' mv' k->ShU (c.nv i) (c.mv i) k\/w.heap.size<=k:=by rintro k (z|z);rcases hn with h|h|⟨g,h,I⟩;rw[h]at z;cases z;exact .inl (.inl (by rw[<-h];exact z));rw[h]at z;cases z;exact .inr I;rcases Z with h|⟨g,h,I⟩;exact .inl (.inr (by rw[<-h];exact z));rw[h]at z;cases z;exact .inr I
 have ab:c.fv.ownBlock≠some p:=F.ks.fr.ne F.ks.blk (by decide);refine⟨{c with arr:=(c.arr.setIfInBounds (4+i * 2) nv').setIfInBounds (4+i * 2+1) mv',nv:=λt=>if t=i then nv' else c.nv t,mv:=λt=>if t=i then mv' else c.mv t},
  ⟨⟨S.blk,by simpa using aa,?_,?_,?_,?_,?_,?_,?_,?_,?_,?_,?_,?_,?_⟩,F.stt.far hF (λk z h=>F.sep k (Y k h) z),F.rl.far hF (λg I h=>(F.sepr g I).1 (Y g h)),F.len⟩,hF.mono (λk _ h=>.inl (Y k h)),?_,rfl,rfl⟩
 rw[G _ (by omega) (by omega)];exact F.ks.a0;intro j hj;rw[G _ (by omega) (by omega)];exact F.ks.ag j hj;intro j hj;show _=some (if j=i then nv' else c.nv j);by_cases e:j=i;subst e;rw[if_pos rfl];exact S.c0;rw[if_neg e,G _ (by omega) (by omega)];exact F.ks.an j hj;intro j hj;show _=some (if j=i then mv' else c.mv j);by_cases e:j=i;subst e;rw[if_pos rfl];exact S.c1;rw[if_neg e,G _ (by omega) (by omega)];exact F.ks.am j hj;rw[G _ (by omega) (by omega)];exact F.ks.af;rw[G _ (by omega) (by omega)];exact F.ks.at';rw[G _ (by omega) (by omega)];exact F.ks.aw;rw[G _ (by omega) (by omega)];exact F.ks.ae;rw[G _ (by omega) (by omega)];exact F.ks.ar;exact F.ks.fr.far hF (λg I h=>h.elim (λh=>ab (by rw[I,h])) (λh=>F.ks.apf i hi g h I));intro j hj;show Jl x (if j=i then nv' else c.nv j) (if j=i then mv' else c.mv j) (if j=i then d else sh j);by_cases e:j=i;rw[if_pos e,if_pos e,if_pos e];exact S.sh;rw[if_neg e,if_neg e,if_neg e];refine(F.ks.shs j hj).far hF (λk z h=>?_);rcases h with h|h;exact(F.ks.shs j hj).ne F.ks.blk (by decide) (by rw[<-h];exact z);exact F.ks.aps j i hj hi e k z h;intro j hj b hb;replace hb:ShU (if j=i then nv' else c.nv j) (if j=i then mv' else c.mv j) b:=hb;by_cases e:j=i;rw[if_pos e,if_pos e]at hb;rcases M b hb with h|h;exact F.ks.apf i hi b h;intro ac;have:=F.ks.fr.lt b ac;omega;rw[if_neg e,if_neg e]at hb;exact F.ks.apf j hj b hb;intro j H hj Q J k z;replace z:ShU (if j=i then nv' else c.nv j) (if j=i then mv' else c.mv j) k:=z;show ¬ShU (if H=i then nv' else c.nv H) (if H=i then mv' else c.mv H) k;by_cases h1:j=i;subst h1;rw[if_pos rfl,if_pos rfl]at z;rw[if_neg (λe=>J e.symm),if_neg (λe=>J e.symm)];intro V;rcases M k z with h|h;exact F.ks.aps j H hj Q J k h V;have:=(F.ks.shs H Q).lt k V;omega;rw[if_neg h1,if_neg h1]at z;by_cases h2:H=i;subst h2;rw[if_pos rfl,if_pos rfl];intro V;rcases M k V with h|h;exact F.ks.aps j H hj Q J k z h;have:=(F.ks.shs j hj).lt k z;omega;rw[if_neg h2,if_neg h2];exact F.ks.aps j H hj Q J k z;rintro k ((rfl|z|⟨j,hj,z⟩)|z|z);exact .inl (.inl (.inl rfl));exact .inl (.inl (.inr (.inl z)));have z:ShU (if j=i then nv' else c.nv j) (if j=i then mv' else c.mv j) k:=z;by_cases e:j=i;rw[if_pos e,if_pos e]at z;exact(M k z).elim (λh=>.inl (.inl (.inr (.inr ⟨i,hi,h⟩)))) .inr;rw[if_neg e,if_neg e]at z;exact .inl (.inl (.inr (.inr ⟨j,hj,z⟩)));exact .inl (.inr (.inl z));exact .inl (.inr (.inr z))
theorem KX (z:Ja w p g tk wel fen free sh st c) (i:Nat) (v:Value) (hi:(1<=i/\i < 4)\/(23<=i/\i < 26))
  (F:∀j,j < 3->(c.arr.setIfInBounds i v)[1+j]? =some (Ej (g2 j))) (I:(c.arr.setIfInBounds i v)[23]? =some (Ej tk2)) (J:(c.arr.setIfInBounds i v)[24]? =some (.bool wel2)) (M:(c.arr.setIfInBounds i v)[25]? =some (.bool fen2)):
  Qy w (w.setCell ⟨p,i,none⟩ v) p g2 tk2 wel2 fen2 free sh st c:=by
 have hs:=T' w p i v;have G:∀j,j≠i->(c.arr.setIfInBounds i v)[j]? =c.arr[j]? :=λj hj=>z18 (λe=>hj e.symm);have Q:c.fv.ownBlock≠some p:=z.ks.fr.ne z.ks.blk (by decide);refine⟨{c with arr:=c.arr.setIfInBounds i v},⟨⟨AA z.ks.blk,by simpa using z.ks.sz,?_,F,?_,?_,?_,I,J,M,?_,?_,?_,z.ks.apf,z.ks.aps⟩,z.stt.far hs (λk H h=>z.sep k (.inl h) H),z.rl.far hs (λg F h=>(z.sepr g F).1 (.inl h)),z.len⟩,hs.mono (λk _ h=>.inl (.inl h)),λk H=>.inl H,rfl,rfl⟩;rw[G _ (by omega)];exact z.ks.a0;intro j hj;rw[G _ (by omega)];exact z.ks.an j hj;intro j hj;rw[G _ (by omega)];exact z.ks.am j hj;rw[G _ (by omega)];exact z.ks.af;rw[G _ (by omega)];exact z.ks.ar;exact z.ks.fr.far hs (λg F h=>Q (by rw[F,h]));intro j hj;exact(z.ks.shs j hj).far hs (λk H h=>(z.ks.shs j hj).ne z.ks.blk (by decide) (by rw[<-h];exact H))
theorem VN (z:Ja w p g tk wel fen free sh st c) (v:Value) (hF:Far (λk=>c.fv.ownBlock=some k) w x) (Q:Ql x 3 1 v free2.length (O' free2)) (hl:Loc w c.fv v):
  Qy w (x.setCell ⟨p,22,none⟩ v) p g tk wel fen free2 sh st c:=by
 have hs:=T' x p 22 v;have G:∀j,j≠22->(c.arr.setIfInBounds 22 v)[j]? =c.arr[j]? :=λj hj=>z18 (λe=>hj e.symm);have Z:22 < c.arr.size:=by rw[z.ks.sz];omega
 have aa:c.fv.ownBlock≠some p:=z.ks.fr.ne z.ks.blk (by decide);have V:=hF.blk z.ks.blk aa;have ab:v.ownBlock≠some p:=Q.ne V (by decide);have I:Far (λk=>k=p\/c.fv.ownBlock=some k) w (x.setCell ⟨p,22,none⟩ v):=(hF.mono (λ_ _ h=>.inr h)).trans hs (λ_ _ h=>.inl h);have J:∀k,(k=p\/c.fv.ownBlock=some k)->KaU p c.nv c.mv c.fv k:=λk h=>h.elim .inl (λh=>.inr (.inl h));refine⟨{c with arr:=c.arr.setIfInBounds 22 v,fv:=v},⟨⟨AA V,by simpa using z.ks.sz,?_,?_,?_,?_,?_,?_,?_,?_,?_,?_,?_,?_,z.ks.aps⟩,z.stt.far I (λk F h=>z.sep k (J k h) F),z.rl.far I (λg M h=>(z.sepr g M).1 (J g h)),z.len⟩,I.mono (λk _ h=>.inl (J k h)),?_,rfl,rfl⟩;rw[G _ (by omega)];exact z.ks.a0;intro j hj;rw[G _ (by omega)];exact z.ks.ag j hj;intro j hj;rw[G _ (by omega)];exact z.ks.an j hj;intro j hj;rw[G _ (by omega)];exact z.ks.am j hj;simp[Z];rw[G _ (by omega)];exact z.ks.at';rw[G _ (by omega)];exact z.ks.aw;rw[G _ (by omega)];exact z.ks.ae;rw[G _ (by omega)];exact z.ks.ar;exact Q.far hs (λg M e=>ab (by rw[M,e]));intro j hj;refine(z.ks.shs j hj).far I (λk F e=>?_);rcases e with rfl|e;exact(z.ks.shs j hj).ne z.ks.blk (by decide) F;exact z.ks.apf j hj k F e;intro j hj b hb H;rcases hl with h|h|⟨g',h,Y⟩;rw[h]at H;cases H;rw[h]at H;exact z.ks.apf j hj b hb H;rw[h]at H;cases H;have:=(z.ks.shs j hj).lt b hb;omega;rintro k ((rfl|F|F)|F|F);exact .inl (.inl (.inl rfl));rcases hl with h|h|⟨g',h,Y⟩;rw[h]at F;cases F;exact .inl (.inl (.inr (.inl (by rw[<-h];exact F))));rw[h]at F;cases F;exact .inr Y;exact .inl (.inl (.inr (.inr F)));exact .inl (.inr (.inl F));exact .inl (.inr (.inr F))
end
def BG:Nat->List (z10×Nat)->List Nat->List (Nat×Value)
 |b,x::r,q::z=>(b+1,JD x.1 q)::BG (b+1) r z
 | _,_,_=>[]
theorem BQ (b:Nat) (x:z10×Nat) (r:List (z10×Nat)) (q:Nat) (z:List Nat):BG b (x::r) (q::z)=(b+1,JD x.1 q)::BG (b+1) r z:=rfl
theorem JO:∀ (b:Nat) (k:List (z10×Nat)) (p:List Nat),p.length=k.length->(BG b k p).length=k.length
 |b,[],[],_=>rfl
 |b,x::r,q::z,h=>by rw[BQ,z60,JO (b+1) r z (by simpa using h),z60]
theorem UC:∀ (b:Nat) (k:List (z10×Nat)) (p:List Nat) (j:Nat),p.length=k.length->∀ (hj:j < k.length),(BG b k p)[j]? =some (b+1+j,JD k[j].1 (p.getD j 0))
 |b,[],_,j,_,hj=>by simp at hj
 |b,x::r,[],j,h,_=>by simp at h
 |b,x::r,q::z,0,h,hj=>by simp[BG]
 |b,x::r,q::z,j+1,h,hj=>by rw[BQ,Bf,UC (b+1) r z j (by simpa using h) (by simpa using hj)];simp;omega
theorem UD:∀ (b:Nat) (k z:List (z10×Nat)) (p F:List Nat),p.length=k.length->BG b (k++z) (p++F)=BG b k p++BG (b+k.length) z F
 |b,[],z,[],F,_=>by simp[BG]
 |b,[],z,q::G,F,h=>by simp at h
 |b,x::r,z,[],F,h=>by simp at h
 |b,x::r,z,q::G,F,h=>by show BG b (x::(r++z)) (q::(G++F))= _;rw[BQ,BQ,UD (b+1) r z G F (by simpa using h),show b+1+r.length=b+(r.length+1) by omega];rfl
theorem MR:∀ (b:Nat) (k z:List (z10×Nat)) (p:List Nat),k.map (·.1)=z.map (·.1)->BG b k p=BG b z p
 | _,[],[],_,_=>rfl
 |b,[],_:: _,p,h=>by simp at h
 |b,_:: _,[],p,h=>by simp at h
 |b,x::r,y::s,[],_=>by simp[BG]
 |b,x::r,y::s,q::F,h=>by simp only[List.map_cons,List.cons.injEq]at h;rw[BQ,BQ,h.1,MR (b+1) r s F h.2]
theorem iM:∀ (b:Nat) (k:List (z10×Nat)) (p:List Nat),∀x∈BG b k p,b < x.1
 |b,[],_,x,z=>by simp[BG]at z
 |b,_:: _,[],x,z=>by simp[BG]at z
 |b,y::r,q::F,x,z=>by
  rw[BQ]at z;cases z with
  |head=>show b < b+1;omega
  |tail _ z=>have:=iM (b+1) r F x z;omega
theorem oZ:∀ (b:Nat) (k:List (z10×Nat)) (p:List Nat),∀x∈BG b k p,x.1<=b+k.length
 |b,[],_,x,z=>by simp[BG]at z
 |b,_:: _,[],x,z=>by simp[BG]at z
 |b,y::r,q::F,x,z=>by
  rw[BQ]at z;cases z with
  |head=>show b+1<= _;simp
  |tail _ z=>have:=oZ (b+1) r F x z;simp at this ⊢;omega
theorem OR:∀ (b:Nat) (k:List (z10×Nat)) (p:List Nat),kM (BG b k p)
 |b,[],_,x,z=>by simp[BG]at z
 |b,_:: _,[],x,z=>by simp[BG]at z
 |b,y::r,q::F,x,z=>by
  rw[BQ]at z;cases z with
  |head=>exact⟨y.1,q,rfl⟩
  |tail _ z=>exact OR (b+1) r F x z
theorem tP (b:Nat) (k:List (z10×Nat)) (p:List Nat) (h:p.length=k.length):max (match(BG b k p).getLast? with|none=>0|some x=>x.1) b=b+k.length:=by
 rcases xN k with rfl|⟨z,x,rfl⟩;simp[BG];rcases xN p with rfl|⟨F,q,rfl⟩;simp at h;have G:F.length=z.length:=by simpa using h
 have:(BG b (z++[x]) (F++[q])).getLast?=some (b+z.length+1,JD x.1 q):=by rw[UD b z [x] F [q] G];simp[BG]
 rw[xM,xM]at *;rw[this];simp;omega
theorem pA:∀ (l:List (Nat×Value)) (n:Nat) (v:Value),(∀x∈l,x.1 < n)->CY l n v=l++[(n,v)]
 |[],n,v,_=>rfl
 |x::r,n,v,h=>by have h0:=h x (.head _);unfold CY;rw[if_neg (by omega),if_neg (by omega),pA r n v (λy z=>h y (.tail _ z))];rfl
theorem yE (b:Nat) (k:List (z10×Nat)) (p:List Nat) (h:p.length=k.length) (s:z10) (t q:Nat):CY (BG b k p) (b+k.length+1) (JD s q)=BG b (k++[(s,t)]) (p++[q]):=by
 rw[pA _ _ _ (λx z=>by have:=oZ b k p x z;omega),UD b k [(s,t)] p [q] h];simp[BG]
theorem YU:∀ (n b:Nat) (k:List (z10×Nat)) (p:List Nat),n<=k.length->p.length=k.length->(BG b k p).drop n=BG (b+n) (k.drop n) (p.drop n)
 |0,b,k,p,_,_=>rfl
 |n+1,b,[],p,h,_=>by simp at h
 |n+1,b,x::r,[],_,h=>by simp at h
 |n+1,b,x::r,q::z,h,h2=>by show(BG b (x::r) (q::z)).drop (n+1)=BG (b+(n+1)) (r.drop n) (z.drop n);rw[BQ,Bs,YU n (b+1) r z (by simpa using h) (by simpa using h2),show b+1+n=b+(n+1) by omega]
theorem OS:∀ (n b:Nat) (k:List (z10×Nat)) (p:List Nat),n<=k.length->p.length=k.length->DE (BG b k p) (b+n)=n
 |0,b,k,p,_,_=>by unfold DE;rw[Fj];intro x z;have:=iM b k p x z;simp;omega
 |n+1,b,[],p,h,_=>by simp at h
 |n+1,b,x::r,[],_,h=>by simp at h
 |n+1,b,x::r,q::F,h,h2=>by have ih:=OS n (b+1) r F (by simpa using h) (by simpa using h2);unfold DE at ih ⊢;rw[BQ,rW,show b+(n+1)=b+1+n by omega,ih];simp
def GH (f:Js) (n:Nat):Option Value:=
 if n<=f.base then none else match f.kept[n - f.base - 1]? with
  |some x=>if x.2=0 then none else some (MA x.2)
  |none=>none
structure Jv (a:Ag) (op:Nat) (g:Nat->Nat) (free:List Nat) (sh:Nat->List (Nat×Value)) (pl:Nat->List Nat):Prop where
 ep:op=a.Qa
 bs:∀i,i < 3->g i=(a.fl i).base
 pn:∀i,i < 3->(pl i).length=(a.fl i).kept.length
 kp:∀i,i < 3->sh (i * 3)=BG (a.fl i).base (a.fl i).kept (pl i)
 sn:∀i,i < 3->∀n:Nat,AV (sh (i * 3+1)) (n:Int)=GH (a.fl i) n
 si:∀i,i < 3->YT (sh (i * 3+1))
 hd:∀i,i < 3->∀n:Nat,(AV (sh (i * 3+2)) (n:Int)).isSome=(a.fl i).held.contains n
 hu:∀i,i < 3->kV (sh (i * 3+2))
 hl:∀i,i < 3->(sh (i * 3+2)).length<=3
 nd:(free++pl 0++pl 1++pl 2).Nodup
 lt:∀x∈free++pl 0++pl 1++pl 2,x < 24
 sum:free.length+a.room=24
theorem kW {a:Ag} {i:Nat} (hi:i < 3):(a.fl i).kept.length<=a.room:=by
 obtain rfl|rfl|rfl:i=0\/i=1\/i=2:=by omega
 all_goals
  unfold Ag.room;omega
theorem Jv.small {a:Ag} {op:Nat} {g:Nat->Nat} {free:List Nat} {sh:Nat->List (Nat×Value)} {z:Nat->List Nat} (O:Jv a op g free sh z) {i:Nat} (hi:i < 3):(a.fl i).kept.length<=24:=by
 have:=kW (a:=a) hi;have:=O.sum;omega
theorem tQ (hs:(d.map (·.1)).Pairwise (· < ·)) (h:∀n:Nat,AV d (n:Int)=GH aX n):d.length<=aX.kept.length:=by
 have F:∀n∈d.map (·.1),aX.base < n/\n<=aX.base+aX.kept.length:=by
  intro n hn;have z:(AV d (n:Int)).isSome=true:=by rw[NW];simpa using hn
  rw[h n]at z;unfold GH at z;split at z;cases z;split at z;rename_i x G;have:=(z25.1 G).1;omega;cases z
 have h1:((d.map (·.1)).map λn=>n - aX.base - 1).Nodup:=by rw[List.Nodup,Fx];refine hs.imp_of_mem (λ{x y} G H J e=>?_);have M:=F x G;have Q:=F y H;omega
 have h2:=NQ aX.kept.length _ h1 (λn hn=>by obtain⟨m,I,rfl⟩:=z66.1 hn;have:=F m I;omega);simpa using h2
section
variable {a:Ag} {op:Nat} {g:Nat->Nat} {free:List Nat} {sh:Nat->List (Nat×Value)} {pl:Nat->List Nat}
theorem tR (f:Js) (s:z10) (n:Nat):GH {f with kept:=f.kept++[(s,0)]} n=GH f n:=by
 unfold GH;simp only
 split;rfl;by_cases h:n - f.base - 1 < f.kept.length;rw[z44 h];rw[z27 (by omega)];have h2:f.kept[n - f.base - 1]? =none:=z76 (by omega);rw[h2];by_cases h3:n - f.base - 1 - f.kept.length=0;rw[h3];rfl;have:([(s,0)]:List (z10×Nat))[n - f.base - 1 - f.kept.length]? =none:=z76 (by simp;omega);rw[this]
theorem WS (hi:w < 3) (z:List Nat) (fr:List Nat) (h:(fr++z).Perm (free++pl w)):
  (fr++(λt=>if t=w then z else pl t) 0++(λt=>if t=w then z else pl t) 1++(λt=>if t=w then z else pl t) 2).Perm (free++pl 0++pl 1++pl 2):=by
 obtain rfl|rfl|rfl:w=0\/w=1\/w=2:=by omega
 simp only[if_pos,if_neg (show ¬ (1:Nat)=0 by omega),if_neg (show ¬ (2:Nat)=0 by omega)];exact(h.append_right _).append_right _;simp only[if_neg (show ¬ (0:Nat)=1 by omega),if_pos,if_neg (show ¬ (2:Nat)=1 by omega)];refine Lc _ ?_;have h1:(fr++pl 0++z).Perm (fr++z++pl 0):=by rw[z39,z39];exact List.perm_append_comm.append_left _
 have h2:(free++pl 1++pl 0).Perm (free++pl 0++pl 1):=by rw[z39,z39];exact List.perm_append_comm.append_left _
 exact(h1.trans (h.append_right _)).trans h2;simp only[if_neg (show ¬ (0:Nat)=2 by omega),if_neg (show ¬ (1:Nat)=2 by omega),if_pos];have h1:(fr++pl 0++pl 1++z).Perm (fr++z++(pl 0++pl 1)):=by rw[z39 fr,z39,z39 fr z];exact List.perm_append_comm.append_left _
 have h2:(free++pl 2++(pl 0++pl 1)).Perm (free++pl 0++pl 1++pl 2):=by rw[z39 free (pl 0),z39,z39];exact List.perm_append_comm.append_left _
 exact(h1.trans (h.append_right _)).trans h2
theorem RV (hi:w < 3) (f:Js):(Ag.room {a with fl:=upd a.fl w f})+(a.fl w).kept.length=a.room+f.kept.length:=by
 obtain rfl|rfl|rfl:w=0\/w=1\/w=2:=by omega
 all_goals
  simp[Ag.room,upd];omega
theorem pB {fr:List Nat} {q:Nat} (O:Jv a op g (fr++[q]) sh pl) {i:Nat} (hi:i < 3) (s:z10):
  Jv (a.Xm i s) op g fr (λt=>if t=i * 3 then CY (sh (i * 3)) ((a.fl i).base+(a.fl i).kept.length+1) (JD s q)else sh t) (λt=>if t=i then pl i++[q]else pl t):=by
 have z:∀j,(a.Xm i s).fl j=if j=i then {a.fl i with kept:=(a.fl i).kept++[(s,0)]}else a.fl j:=λj=>rfl
 refine⟨O.ep,λj hj=>?_,λj hj=>?_,λj hj=>?_,λj hj n=>?_,λj hj=>?_,λj hj n=>?_,λj hj=>?_,λj hj=>?_,?_,?_,?_⟩;rw[z];by_cases e:j=i;subst e;rw[if_pos rfl];exact O.bs j hj;rw[if_neg e];exact O.bs j hj;rw[z];show(if j=i then pl i++[q]else pl j).length= _;by_cases e:j=i;subst e;rw[if_pos rfl,if_pos rfl];simp[O.pn j hj];rw[if_neg e,if_neg e];exact O.pn j hj;rw[z];show(if j * 3=i * 3 then _ else sh (j * 3))=BG _ _ (if j=i then pl i++[q]else pl j);by_cases e:j=i;subst e;rw[if_pos rfl,if_pos rfl,if_pos rfl,O.kp j hj];exact yE _ _ _ (O.pn j hj) s 0 q;rw[if_neg (by omega),if_neg e,if_neg e];exact O.kp j hj;show AV (if j * 3+1=i * 3 then _ else sh (j * 3+1)) _= _;rw[if_neg (by omega),z,O.sn j hj n];by_cases e:j=i;subst e;rw[if_pos rfl,tR];rw[if_neg e];show YT (if j * 3+1=i * 3 then _ else sh (j * 3+1));rw[if_neg (by omega)];exact O.si j hj;show(AV (if j * 3+2=i * 3 then _ else sh (j * 3+2)) _).isSome= _;rw[if_neg (by omega),z,O.hd j hj n];by_cases e:j=i;subst e;rw[if_pos rfl];rw[if_neg e];show kV (if j * 3+2=i * 3 then _ else sh (j * 3+2));rw[if_neg (by omega)];exact O.hu j hj;show(if j * 3+2=i * 3 then _ else sh (j * 3+2)).length<=3;rw[if_neg (by omega)];exact O.hl j hj;refine(WS hi (pl i++[q]) fr ?_).nodup_iff.2 O.nd;rw[z39 fr [q]];exact List.perm_append_comm.append_left _;intro x G;refine O.lt x ((WS hi (pl i++[q]) fr ?_).mem_iff.1 G);rw[z39 fr [q]];exact List.perm_append_comm.append_left _;have h1:=O.sum;obtain⟨f2,F⟩:=exq (({a.fl i with kept:=(a.fl i).kept++[(s,0)]}:Js));have H:f2.kept.length=(a.fl i).kept.length+1:=by rw[F];simp
 have h3:(a.Xm i s).room=Ag.room {a with fl:=upd a.fl i f2}:=by rw[F];rfl
 have h2:=RV (a:=a) hi f2;rw[H]at h2;rw[h3];rw[z29,z90]at h1;omega
theorem kX (hs:(d.map (·.1)).Pairwise (· < ·)) (m n:Nat):AV (d.drop (DE d m)) (n:Int)=if n<=m then none else AV d (n:Int):=by
 obtain⟨h1,h2⟩:=xR (n:=m) hs;have I:∀ (z F:List (Nat×Value)) (k:Int),AV (z++F) k=match AV z k with|some v=>some v|none=>AV F k:=by
  intro z F k;induction z with
  |nil=>rfl
  |cons x r ih=>show AV (x::(r++F)) k= _;rw[EI,EI];by_cases h:k=(x.1:Int);rw[if_pos h,if_pos h];rw[if_neg h,if_neg h,ih]
 have hl:d=d.take (DE d m)++d.drop (DE d m):=(Cc _ _).symm;by_cases hn:n<=m
 .rw[if_pos hn];cases G:AV (d.drop (DE d m)) (n:Int)with
  |none=>rfl
  |some v=>obtain⟨x,H,e,_⟩:=IW G;have:=h2 x H;omega
 rw[if_neg hn];conv=>rhs;rw[hl]
 rw[I];cases G:AV (d.take (DE d m)) (n:Int)with
 |none=>rfl
 |some v=>obtain⟨x,H,e,_⟩:=IW G;have:=h1 x H;omega
theorem tS (f:Js) (m n:Nat):GH (f.drop m) n=if n<=f.base+m then none else GH f n:=by
 unfold GH Js.drop;simp only
 by_cases h:n<=f.base+m;rw[if_pos h,if_pos h];rw[if_neg h,if_neg h,if_neg (by omega),z82,show m+(n - (f.base+m) - 1)=n - f.base - 1 by omega]
theorem tT (O:Jv a op g free sh pl) {n:Nat} (hi:w < 3) (hn:n<=(a.fl w).kept.length) (hs:((sh (w * 3+1)).map (·.1)).Pairwise (· < ·)):
  Jv {a with fl:=upd a.fl w ((a.fl w).drop n)} op (λt=>(upd a.fl w ((a.fl w).drop n) t).base) (free++(pl w).take n)
   (λt=>if t=w * 3+1 then(sh (w * 3+1)).drop (DE (sh (w * 3+1)) ((a.fl w).base+n))else(λt=>if t=w * 3 then(sh (w * 3)).drop (DE (sh (w * 3)) ((a.fl w).base+n))else sh t) t) (λt=>if t=w then(pl w).drop n else pl t):=by
 have z:∀j,upd a.fl w ((a.fl w).drop n) j=if j=w then(a.fl w).drop n else a.fl j:=λj=>rfl
 refine⟨O.ep,λj hj=>rfl,λj hj=>?_,λj hj=>?_,λj hj m=>?_,λj hj=>?_,λj hj m=>?_,λj hj=>?_,λj hj=>?_,?_,?_,?_⟩;show(if j=w then(pl w).drop n else pl j).length=(upd a.fl w ((a.fl w).drop n) j).kept.length;rw[z];by_cases e:j=w;subst e;rw[if_pos rfl,if_pos rfl];simp[Js.drop,O.pn j hj];rw[if_neg e,if_neg e];exact O.pn j hj;show(if j * 3=w * 3+1 then _ else if j * 3=w * 3 then _ else sh (j * 3))=BG (upd a.fl w ((a.fl w).drop n) j).base (upd a.fl w ((a.fl w).drop n) j).kept (if j=w then(pl w).drop n else pl j);rw[z,if_neg (by omega)];by_cases e:j=w;subst e;rw[if_pos rfl,if_pos rfl,if_pos rfl,O.kp j hj,OS n _ _ _ hn (O.pn j hj)];exact YU n _ _ _ hn (O.pn j hj);rw[if_neg (by omega),if_neg e,if_neg e];exact O.kp j hj;show AV (if j * 3+1=w * 3+1 then _ else if j * 3+1=w * 3 then _ else sh (j * 3+1)) _=GH (upd a.fl w ((a.fl w).drop n) j) m;rw[z];by_cases e:j=w;subst e;rw[if_pos rfl,if_pos rfl,kX hs,tS,O.sn j hj m];rw[if_neg (by omega),if_neg (by omega),if_neg e];exact O.sn j hj m;show YT (if j * 3+1=w * 3+1 then _ else if j * 3+1=w * 3 then _ else sh (j * 3+1));by_cases e:j=w;subst e;rw[if_pos rfl];exactλx F=>O.si j hj x (Ko F);rw[if_neg (by omega),if_neg (by omega)];exact O.si j hj;show(AV (if j * 3+2=w * 3+1 then _ else if j * 3+2=w * 3 then _ else sh (j * 3+2)) _).isSome=(upd a.fl w ((a.fl w).drop n) j).held.contains m;rw[z,if_neg (by omega),if_neg (by omega),O.hd j hj m];by_cases e:j=w;subst e;rw[if_pos rfl];rfl;rw[if_neg e];show kV (if j * 3+2=w * 3+1 then _ else if j * 3+2=w * 3 then _ else sh (j * 3+2));rw[if_neg (by omega),if_neg (by omega)];exact O.hu j hj;show(if j * 3+2=w * 3+1 then _ else if j * 3+2=w * 3 then _ else sh (j * 3+2)).length<=3;rw[if_neg (by omega),if_neg (by omega)];exact O.hl j hj;refine(WS hi ((pl w).drop n) (free++(pl w).take n) ?_).nodup_iff.2 O.nd;rw[z39,Cc];intro x F;refine O.lt x ((WS hi ((pl w).drop n) (free++(pl w).take n) ?_).mem_iff.1 F);rw[z39,Cc];have h1:=O.sum;have h2:=RV (a:=a) hi ((a.fl w).drop n);have h3:=O.pn w hi;have h4:((a.fl w).drop n).kept.length=(a.fl w).kept.length - n:=by simp[Js.drop]
 rw[h4]at h2;rw[z29,z71];omega
end
section
variable {w:World} {p:Nat} {g:Nat->Nat} {tk:Nat} {wel fen:Bool} {free:List Nat} {sh:Nat->List (Nat×Value)} {st:Stv} {c:Av} {a:Ag} {op:Nat} {go:Nat->Nat} {pl:Nat->List Nat}
theorem DW (z:Ja w p g tk wel fen free sh st c):
  Cp 52 #[C' p] w λr w'=>Rr r (Ej st.Qe)/\w'=w:=by
 have c0:w.cell? (Ea p 0)=some (C' c.s):=by rw[D' z.ks.blk,z.ks.a0]
 have F:=y' (TW z.stt);clear z;unfold C' at *;go_enter func52,ntmps52;go_wp2_with (go_at_call 84;refine Cm F ?_;rintro r y ⟨rfl,rfl⟩);go_ret;exact⟨rfl,rfl⟩
theorem MS (G:Ja w p g tk wel fen free sh st c) (O:Jv a op go free sh pl) {i:Nat} (hi:i < 3) (H:g i=(a.fl i).base):
  Cp 79 #[C' p,Ej i] w λr w'=>Rr r (Ej ((a.fl i).base+(a.fl i).kept.length:Nat))/\∃n,w'=w.drewN n:=by
 have z:=iG G.ks.blk (G.ks.an (i * 3) (by omega)) (G.ks.shs (i * 3) (by omega));rw[O.kp i hi,show 4+i * 3 * 2=4+i * 6 by omega]at z;have F:=tP (a.fl i).base (a.fl i).kept (pl i) (O.pn i hi);obtain⟨m,I,F,z⟩:∃ (m:Nat) (I:Bool),max m (a.fl i).base=(a.fl i).base+(a.fl i).kept.length/\Cp 122 #[Er p (4+i * 6)] w λe w'=>Rr e (.tuple #[Ej m,.bool I])/\∃n,w'=w.drewN n:=by
  cases J:(BG (a.fl i).base (a.fl i).kept (pl i)).getLast? with
  |none=>rw[J]at z F;exact⟨0,false,F,z⟩
  |some x=>rw[J]at z F;exact⟨x.1,true,F,z⟩
 have M:w.cell? (Ea p (1+i))=some (Ej (g i)):=by rw[D' G.ks.blk,G.ks.ag i hi]
 rw[H]at M;obtain⟨n,hn⟩:=exq ((a.fl i).base+(a.fl i).kept.length);rw[<-hn]at F ⊢;obtain⟨b,hb⟩:=exq ((a.fl i).base);rw[<-hb]at F M;have Q:max (m:Int) (b:Int)=(n:Int):=by omega
 have V:=y' z;have Y:(0:Int)<=(i:Int):=by omega
 have Z:(i:Int) < 3:=by omega
 clear G O z hn hb F H;unfold C';go_enter func79,ntmps79;go_wp2_with (go_at_call 122;refine Cm V ?_;rintro r y ⟨rfl,q,rfl⟩);go_ret;exact⟨by first|rfl|simp[Q],q,rfl⟩
theorem yF (G:Ja w p g tk wel fen free sh st c) (O:Jv a op go free sh pl) {i:Nat} (hi:i < 3) (j:Nat) (hj:j < (a.fl i).kept.length) (F t:Nat) (Y:(a.fl i).kept[j].2=t) (ai:t<=1000000000000) (aj:F<=1000000000000):
  Cp 106 #[Er p (4+i * 6),Ej ((a.fl i).base+1+j:Nat),Ej F] w λr w'=>Rr r (.bool (Mq.due (a.fl i) F j t))/\El w w':=by
 obtain⟨n,hn⟩:=exq ((a.fl i).base+1+j);have M:=Ch G.ks.blk (G.ks.am (i * 3+2) (by omega)) (G.ks.shs (i * 3+2) (by omega)) (O.hu i hi) (n:Int);rw[O.hd i hi n,show 4+(i * 3+2) * 2=4+i * 6+4 by omega]at M;have V:=λy (z:El w y)=>Cl (G.below z).ks.blk (G.ks.am (i * 3+1) (by omega)) ((G.below z).ks.shs (i * 3+1) (by omega)) (O.si i hi) (n:Int);have Z:GH (a.fl i) n=if t=0 then none else some (MA t):=by unfold GH;rw[if_neg (by omega),show n - (a.fl i).base - 1=j by omega,z17 hj];simp only[Y]
 rw[O.sn i hi n,Z,show 4+(i * 3+1) * 2=4+i * 6+2 by omega]at V;have aa:Mq.due (a.fl i) F j t=(!((a.fl i).held.contains n) && (t==0||decide (t+4<=F))):=by unfold Mq.due;rw[<-hn]
 rw[aa,<-hn];obtain⟨ac,ab⟩:=exq ((a.fl i).held.contains n);rw[<-ab]at M ⊢;have Q:=y' M;have H:=λy z=>y' (V y z);clear G O M V Z aa ab Y hn;cases ac
 .by_cases h0:t=0
  .simp only[h0,if_true,Option.getD_none,Option.isSome_none,vX]at H;go_enter func106,ntmps106;go_wp2_with (first|(go_at_call 157;refine Cm Q ?_;rintro r y ⟨rfl,z⟩)|(go_at_call 158;refine Cm (H _ z) ?_;rintro r I ⟨rfl,J⟩;obtain rfl:y=I:=J.symm));go_ret;exact⟨by simp[h0],z⟩
  simp only[h0,if_false,Option.getD_some,Option.isSome_some,MA]at H;have ak:IntKind.i64.wrap ((F:Int) - (t:Int))=(F:Int) - (t:Int):=by rw[z28];omega
  by_cases h4:t+4<=F
  .have ad:(4:Int)<=(F:Int) - (t:Int):=(by omega);go_enter func106,ntmps106;go_wp2_with (first|(go_at_call 157;refine Cm Q ?_;rintro r y ⟨rfl,z⟩)|(go_at_call 158;refine Cm (H _ z) ?_;rintro r I ⟨rfl,J⟩;obtain rfl:y=I:=J.symm));go_ret;exact⟨by simp[h4],z⟩
  have ad:¬ (4:Int)<=(F:Int) - (t:Int):=by omega
  go_enter func106,ntmps106;go_wp2_with (first|(go_at_call 157;refine Cm Q ?_;rintro r y ⟨rfl,z⟩)|(go_at_call 158;refine Cm (H _ z) ?_;rintro r I ⟨rfl,J⟩;obtain rfl:y=I:=J.symm));go_ret;have ah:(t==0)=false:=by simp[h0]
  exact⟨by simp[h4,ah];omega,z⟩
 go_enter func106,ntmps106;go_wp2_with (go_at_call 157;refine Cm Q ?_;rintro r y ⟨rfl,z⟩);go_ret;exact⟨by simp,z⟩
theorem kY (s:z10) (w:World) (hs:s.size<=1000):Cp 82 #[.string s] w λr w'=>Rr r (.string s)/\El w w':=by
 have z:=y' (Tryz.stringslite_Clone s w (by omega));go_enter func82,ntmps82;go_wp2_with (go_at_call 127;refine Cm z ?_;rintro r y ⟨rfl,F⟩);go_ret;exact⟨rfl,F⟩
end
theorem Ql.init (h:Ql p j 1 (Es a q (w+1) b) (w+1) C):Ql p j 1 (Es a q w b) w (C.take w):=by
 obtain⟨h1,⟨h2,_⟩|⟨g',I,J,z,h2,F,hn,G,hs,H⟩⟩:=h;cases h2;injection h2 with h2 _ h3;injection h2 with h2;injection h2 with h2 h4;subst h2 h3 h4;refine⟨by simp;omega,.inr ⟨a,q,b,z,rfl,F,by omega,G,hs,?_⟩⟩;rw[<-H,Ah];congr 1;omega
section
variable {w x y:World} {p:Nat} {g:Nat->Nat} {tk:Nat} {wel fen:Bool} {free:List Nat} {sh:Nat->List (Nat×Value)} {st st2:Stv} {c:Av} {a:Ag} {op:Nat} {pl:Nat->List Nat}
theorem JP (F:Ja w p g tk wel fen free sh st c) {G:Value} (k1:Zp y c.s c.dp st2 c.dlv G) (k2:Loc w c.duv G) (k3:Far (StU c.s c.dp c.dlv c.duv) w y) (hl:st2.dk.bytes.length=1664):Qy w y p g tk wel fen free sh st2 c:=by
 refine⟨{c with duv:=G},⟨F.ks.far k3 (λk z h=>F.sep k z h),k1,F.rl.far k3 (λg H h=>(F.sepr g H).2 h),hl⟩,k3.mono (λk _ h=>.inr (.inl h)),?_,rfl,rfl⟩;have I:=k3.size;rintro k (z|(rfl|rfl|z|z)|z);exact .inl (.inl z);exact .inl (.inr (.inl (.inl rfl)));exact .inl (.inr (.inl (.inr (.inl rfl))));exact .inl (.inr (.inl (.inr (.inr (.inl z)))));rcases k2 with h|h|⟨g,h,H⟩;rw[h]at z;cases z;exact .inl (.inr (.inl (.inr (.inr (.inr (by rw[<-h];exact z))))));rw[h]at z;cases z;exact .inr H;exact .inl (.inr (.inr z))
theorem KY {z:World} {c1:Av} (F:Far (PaU p c) w z) (N:∀k,PaU p c1 k->PaU p c k\/w.heap.size<=k) (t1:c1.s=c.s) (t2:c1.rv=c.rv) (h:Qy z y p g tk wel fen free sh st c1):Qy w y p g tk wel fen free sh st c:=by
 obtain⟨H,h1,h2,h3,h4,h5⟩:=h;refine⟨H,h1,F.trans h2 (λk G hu=>(N k hu).elim id (λh=>by omega)),λk G=>?_,h4.trans t1,h5.trans t2⟩;rcases h3 k G with h|h;exact N k h;exact .inr (z26 F.size h)
theorem PC {st:Stv} (n i q:Nat) (b:List UInt8) (hb:b.length<=20) (h:64 * (2+n)+64<=st.dk.bytes.length):(st.Qu n i q b).2.dk.bytes.length=st.dk.bytes.length:=by
 unfold Stv.Qu Dk.put;simp only
 split;rfl;split;rfl;simp only
 exact Xa (Jz _ _ (by rw[Zr];omega)) h
theorem OG {st:Stv} (a b d:Nat) (z:st.head<=1) (h:128<=st.dk.bytes.length):(st.Qp a b d).2.dk.bytes.length=st.dk.bytes.length:=by
 unfold Stv.Qp Dk.put;simp only
 split;rfl;split;rfl;simp only
 exact Xa (Jz _ _ (by rw[Ju];omega)) (by omega)
theorem KI {st:Stv} (a b d:Nat):(st.Qp a b d).2.Qe=st.Qe:=rfl
end
theorem Il:(prog.info? 3).map (·.size)=some 1:=by kernel_rfl
theorem kZ (S T:List Int) (w:World):∀ (is:List Nat),(∀i∈is,i < S.length/\i < T.length)->
  (Op.eqItems 9999 3 1 (S.map (Value.int .i64)).toArray (T.map (Value.int .i64)).toArray is).run prog w=.ok (is.all λi=>S.getD i 0==T.getD i 0) w
 |[],_=>by simp[Op.eqItems]
 |i::is,h=>by
  have h0:=h i (.head _);have z:(S.map (Value.int .i64)).toArray[i]? =some (Ej (S.getD i 0)):=by simp[h0.1,List.getD_eq_getElem?_getD]
  have b2:(T.map (Value.int .i64)).toArray[i]? =some (Ej (T.getD i 0)):=by simp[h0.2,List.getD_eq_getElem?_getD]
  have F:=Gk (P:=prog) w (e:=3) (by kernel_rfl) (off:=i) z;have G:=Gk (P:=prog) w (e:=3) (by kernel_rfl) (off:=i) b2;have H:=run_equalIn_int (P:=prog) w 9998 3 .i64 .i64 (S.getD i 0) (T.getD i 0) underlying3;have ih:=kZ S T w is (λj hj=>h j (.tail _ hj));simp only[Op.eqItems,Nat.mul_one,Sem.run_bind,F,G,H,Result.andThen_ok,List.all_cons];cases I:(S.getD i 0==T.getD i 0)
  .simp
  .simpa using ih
theorem RW (a b c d e f:Int) (w:World):(Op.equalIn 10000 100 (.agg #[Ej a,Ej b,Ej c]) (.agg #[Ej d,Ej e,Ej f])).run prog w=.ok (a==d&& (b==e&&c==f)) w:=by
 obtain⟨i,hi⟩:∃i,prog.info? 3=some i:=by
  have:=Il;cases h:prog.info? 3 with
  |none=>rw[h]at this;cases this
  |some i=>exact⟨i,rfl⟩
 have z:prog.cellsOf 3=1:=by kernel_rfl
 have e:=kZ [a,b,c] [d,e,f] w (List.range 3) (λi hi=>by have:=z88.1 hi;simp;omega);rw[<-z]at e;refine(Kt (P:=prog) w 9999 #[Ej a,Ej b,Ej c] _ underlying100 hi).trans (e.trans ?_);simp[List.range_succ]
def Li (B:Nat) (n:Nat) (v:Value) (w:World):Prop:=∃g,v=Es g 0 1 1/\B<=g/\w.heap[g]? =some (.cells #[Ej n] 3 (0,0))
theorem aN' (B n:Nat):CL (Li B n):=λ_ _ _ h hb=>by
 obtain⟨g,e,h1,h2⟩:=h;exact⟨g,e,h1,(hb.block g (z12 h2)).trans h2⟩
theorem ap' (z:∀k,N k->k < w):DO N (Li w a):=λ_ _ _ h hF=>by
 obtain⟨g,e,h1,h2⟩:=h;exact⟨g,e,h1,hF.blk h2 (λe=>by have:=z _ e;omega)⟩
def Lj (w0:World) (fv:Value) (l:List Nat) (v:Value) (w:World):Prop:=Ql w 3 1 v l.length (O' l)/\Loc w0 fv v/\w0.heap.size<=w.heap.size
theorem aO' (w0:World) (fv:Value) (l:List Nat):CL (Lj w0 fv l):=λ_ _ _ h hb=>
 ⟨h.1.keep (λg z=>hb.block g (h.1.lt g z)),h.2.1,z26 h.2.2 hb.size⟩
theorem aG' (G:∀F,N F->F < p.heap.size/\y.ownBlock≠some F):DO N (Lj p y k):=λ_ _ _ h hF=>
 ⟨h.1.far hF (λg z e=>by
  obtain⟨h1,h2⟩:=G g e;rcases h.2.1 with h3|h3|⟨F,h3,h4⟩
  .rw[h3]at z;cases z
  .rw[h3]at z;exact h2 z
  .rw[h3]at z;cases z;omega),h.2.1,z26 h.2.2 hF.size⟩
def agD (a:Ag) (n:Nat->Nat) (j:Nat):Ag:={a with fl:=Za a.fl n j}
theorem Cn (a:Ag) (n:Nat->Nat):agD a n 0=a:=by unfold agD;rw[dropTo_zero]
theorem YV (a:Ag) (n:Nat->Nat) (j:Nat):(agD a n j).fl j=a.fl j:=Vt _ _ _
theorem Co (a:Ag) (n:Nat->Nat) (j:Nat):agD a n (j+1)={agD a n j with fl:=upd (agD a n j).fl j (((agD a n j).fl j).drop (n j))}:=by
 unfold agD;simp only[dropTo_succ,Vt]
theorem yG (a:Ag) (n:Nat->Nat):agD a n 3=a.drop n:=rfl
theorem yH (h:∀i,i < 3->O i=0):c.drop O=c:=by
 unfold Ag.drop;have:Za c.fl O 3=c.fl:=by funext t;unfold Za;split;rename_i z;rw[h t z];simp[Js.drop];rfl
 rw[this]
theorem YW:∀ (b:Nat) (k:List (z10×Nat)) (p:List Nat) (t:Nat),p.length=k.length->(z:t < k.length)->(LY (BG b k p))[t * 2]? =some (.string k[t].1)/\(LY (BG b k p))[t * 2+1]? =some (Ej (p.getD t 0:Nat))
 |b,[],_,t,_,z=>by simp at z
 |b,_:: _,[],t,h,_=>by simp at h
 |b,x::r,q::F,0,_,_=>by rw[BQ];exact⟨rfl,rfl⟩
 |b,x::r,q::F,t+1,h,z=>by have ih:=YW (b+1) r F t (by simpa using h) (by simpa using z);rw[BQ];have G:LY ((b+1,JD x.1 q)::BG (b+1) r F)=[.string x.1,Ej q]++LY (BG (b+1) r F):=rfl;rw[G,show(t+1) * 2=t * 2+2 by omega,show t * 2+2+1=t * 2+1+2 by omega,z27 (by simp),z27 (by simp)];simpa using ih
theorem YX:∀ (n b:Nat) (k:List (z10×Nat)) (p:List Nat),(BG b k p).take n=BG b (k.take n) (p.take n)
 |0,b,k,p=>by cases k <;> cases p <;> rfl
 |n+1,b,[],p=>by cases p <;> rfl
 |n+1,b,x::r,[]=>rfl
 |n+1,b,x::r,q::z=>by rw[BQ,Bt,Bt,Bt,BQ,YX n (b+1) r z]
theorem aH' (h:Vn p f w a j l y u d) (hb:El f B):Vn p B w a j l y u d:=by
 obtain⟨⟨nv',S,e⟩,hF⟩:=h;exact⟨⟨nv',⟨(hb.block _ (z12 S.blk)).trans S.blk,S.c0,S.c1,S.sh.far (fbF hb) Ih,S.ty⟩,e⟩,hF.trans (I' hb) Ih⟩
theorem Cq (a b c d e f:Int) (w:World):(Op.equalIn 10000 35 (.agg #[Ej a,Ej b,Ej c]) (.agg #[Ej d,Ej e,Ej f])).run prog w=.ok (a==d&& (b==e&&c==f)) w:=by
 obtain⟨i,hi⟩:∃i,prog.info? 3=some i:=by
  have:=Il;cases h:prog.info? 3 with
  |none=>rw[h]at this;cases this
  |some i=>exact⟨i,rfl⟩
 have z:prog.cellsOf 3=1:=by kernel_rfl
 have e:=kZ [a,b,c] [d,e,f] w (List.range 3) (λi hi=>by have:=z88.1 hi;simp;omega);rw[<-z]at e;refine(Kt (P:=prog) w 9999 #[Ej a,Ej b,Ej c] _ underlying35 hi).trans (e.trans ?_);simp[List.range_succ]
theorem YY:(prog.info? 35).map (·.size)=some 3:=by kernel_rfl
def Cr (B:Nat) (v:Value) (z:World):Prop:=∃g,v=Er g 0/\B<=g/\z.heap[g]? =some (.cells #[Ej 0,Ej 0,Ej 0] 35 (0,0))
theorem aq' (B:Nat):CL (Cr B):=λ_ _ _ h hb=>by
 obtain⟨g,e,h1,h2⟩:=h;exact⟨g,e,h1,(hb.block g (z12 h2)).trans h2⟩
def KZ (c:Int) (n:Nat):Nat:=((if c < 0 then -(c+1)else c) % (n:Int)).toNat
theorem RZ (c:Int) {n:Nat} (hn:0 < n):KZ c n < n:=by
 unfold KZ;have h1:=Int.emod_lt_of_pos (if c < 0 then -(c+1)else c) (show(0:Int) < n by omega);have h2:=Int.emod_nonneg (if c < 0 then -(c+1)else c) (show(n:Int)≠0 by omega);omega
theorem pC (c:Int) (n:Nat) (w:World) (G: -9223372036854775808<=c/\c<=9223372036854775807) (hn:0 < n) (H:n<=1000):
  Cp 97 #[Ej c,Ej n] w λr w'=>Rr r (Ej (KZ c n))/\w'=w:=by
 have F:¬ (n:Int)=0:=by omega
 have I:¬ (n:Int)= -1:=by omega
 have hb:((n:Int) ==0)=false:=by simp;omega
 have z:Hid ((KZ c n:Int)=(if c < 0 then -(c+1)else c) % (n:Int)):=by have h2:=Int.emod_nonneg (if c < 0 then -(c+1)else c) F;unfold KZ;show _= _;omega
 generalize KZ c n=j at z;obtain⟨d,hd⟩:=exq (if c < 0 then -(c+1)else c);rw[<-hd]at z;have hd0:0<=d/\d<=9223372036854775807:=by rw[hd];split <;> omega
 by_cases h:c < 0
 .rw[if_pos h]at hd;have J:IntKind.i64.wrap (c+1)=c+1:=by rw[z28];omega
  have M:IntKind.i64.wrap (-(c+1))=d:=by rw[z28];omega
  clear hd;go_enter func97,ntmps97;go_wp2;go_ret;exact⟨IP (d' z).symm,rfl⟩
 rw[if_neg h]at hd;subst hd;go_enter func97,ntmps97;go_wp2;go_ret;exact⟨IP (d' z).symm,rfl⟩
theorem SC (h:l[w]?.getD undef=.bool aD):l[w]? =some (.bool aD):=by
 cases z:l[w]? with
 |none=>rw[z]at h;simp[undef]at h
 |some v=>rw[z]at h;simp at h;rw[h]
structure AD where
 q:Nat
 In:Nat->Prop
 Is:World->Prop
 lt:∀ {x:World},Is x->∀k,In k->k < x.heap.size
 far:∀ {x y:World} {E:Nat->Prop},Is x->Far E x y->(∀k,In k->¬E k)->Is y
structure Qr (B n:Nat) (A:Nat->Nat->Prop) (x:World) (wb:Nat) (asv ssv hv:Value) (hs:List Nat) (la ls:List AD):Prop where
 hn:hs.length<=n
 wat:Jm A x wb asv ssv hv hs
 Yj:x.ownsRow 0 164 1 asv la.length (la.map λit=>C' it.q)
 Vu:x.ownsRow 0 176 1 ssv ls.length (ls.map λit=>C' it.q)
 sixA:la.length<=6
 sixS:ls.length<=6
 each:∀ (i:Nat) (u:AD),(la++ls)[i]? =some u->u.Is x
 apart:∀ (i j:Nat) (u v:AD),(la++ls)[i]? =some u->(la++ls)[j]? =some v->i≠j->∀k,u.In k->¬v.In k
 us:∀ (i:Nat) (u:AD),(la++ls)[i]? =some u->∀k,u.In k->B<=k/\¬Us wb hv k/\asv.ownBlock≠some k/\ssv.ownBlock≠some k
 asu:∀k,asv.ownBlock=some k->B<=k/\¬Us wb hv k/\ssv.ownBlock≠some k
 ssu:∀k,ssv.ownBlock=some k->B<=k/\¬Us wb hv k
 usB:∀k,Us wb hv k->B<=k
 bx:B<=x.heap.size
 a2:∀b o,A b o->b < x.heap.size/\¬Us wb hv b/\asv.ownBlock≠some b/\ssv.ownBlock≠some b/\∀ (i:Nat) (u:AD),(la++ls)[i]? =some u->¬u.In b
def JG (D z:Nat) (F G H:Value) (l:List AD):Prop:=∀k,(Us z H k\/F.ownBlock=some k\/G.ownBlock=some k\/∃ (i:Nat) (u:AD),l[i]? =some u/\u.In k)->k < D
section
variable {B n:Nat} {A:Nat->Nat->Prop} {x y:World} {wb:Nat} {asv ssv hv:Value} {hs:List Nat} {la ls:List AD}
theorem Qr.bnd (S:Qr B n A x wb asv ssv hv hs la ls):JG x.heap.size wb asv ssv hv (la++ls):=by
 rintro k (h|h|h|⟨i,u,hu,h⟩);exact S.wat.us_lt k h;exact(z14 S.Yj k h).2;exact(z14 S.Vu k h).2;exact u.lt (S.each i u hu) k h
theorem Qr.below (S:Qr B n A x wb asv ssv hv hs la ls) (hb:El x y):Qr B n A y wb asv ssv hv hs la ls:=by
 have z:Far (λ_=>False) x y:=I' hb;exact⟨S.hn,S.wat.far z Ih (λb o h=>⟨(S.a2 b o h).1,λh=>h⟩),z.own S.Yj Ih,z.own S.Vu Ih,S.sixA,S.sixS,λi u hu=>u.far (S.each i u hu) z Ih,S.apart,S.us,S.asu,S.ssu,S.usB,z26 S.bx hb.size,λb o h=>⟨z21 (S.a2 b o h).1 hb.size,(S.a2 b o h).2⟩⟩
end
def QA (z:Nat) (F G H:Value) (l:List AD) (k:Nat):Prop:=¬Us z H k/\F.ownBlock≠some k/\G.ownBlock≠some k/\∀ (i:Nat) (u:AD),l[i]? =some u->¬u.In k
def UE (A:Nat->Nat->Prop) (z:Nat) (F G H:Value) (l:List AD) (k:Nat):Prop:=QA z F G H l k/\∀o,¬A k o
section
variable {B n:Nat} {A:Nat->Nat->Prop} {x y:World} {wb:Nat} {asv ssv hv:Value} {hs:List Nat} {la ls la' ls':List AD}
theorem Qr.moreCore {H I:Value} (S:Qr B n A x wb asv ssv hv hs la ls) (F:AD) (p:Nat) (f:Nat->Nat)
  (J:∀ (j:Nat) (u:AD),(la'++ls')[j]? =some u->(j=p/\u=F)\/(j≠p/\(la++ls)[f j]? =some u)) (ak:∀j k,j≠p->k≠p->j≠k->f j≠f k)
  (hF:Far (λk=>k=wb\/asv.ownBlock=some k\/ssv.ownBlock=some k) x y) (ao:Eh y wb #[H,I,hv] 91)
  (aq:y.ownsRow 0 164 1 H la'.length (la'.map λF=>C' F.q)) (au:y.ownsRow 0 176 1 I ls'.length (ls'.map λF=>C' F.q)) (av:la'.length<=6) (ax:ls'.length<=6)
  (Q:∀g,H.ownBlock=some g->asv.ownBlock=some g\/x.heap.size<=g) (V:∀g,I.ownBlock=some g->ssv.ownBlock=some g\/x.heap.size<=g) (ab:∀g,H.ownBlock=some g->I.ownBlock≠some g)
  (ay:F.Is y) (M:∀k,F.In k->(B<=k/\UE A wb asv ssv hv (la++ls) k)/\H.ownBlock≠some k/\I.ownBlock≠some k):Qr B n A y wb H I hv hs la' ls':=by
 have aC:=λk h=>(z14 S.Yj k h).2;have aD:=λk h=>(z14 S.Vu k h).2;have ac:∀ (j:Nat) (u:AD),(la++ls)[j]? =some u->∀k,u.In k->k < x.heap.size:=λj u hu=>u.lt (S.each j u hu);have ad:=S.wat.us_lt;have az:∀ (j:Nat) (u:AD),(la++ls)[j]? =some u->∀k,u.In k->¬ (k=wb\/asv.ownBlock=some k\/ssv.ownBlock=some k):=by rintro j u hu k z (e|e|e);exact(S.us j u hu k z).2.1 (.inl e);exact(S.us j u hu k z).2.2.1 e;exact(S.us j u hu k z).2.2.2 e
 have aA:∀g,hv.ownBlock=some g->¬ (g=wb\/asv.ownBlock=some g\/ssv.ownBlock=some g):=by rintro g G (e|e|e);exact AX S.wat.row S.wat.blk (by decide) (by rw[<-e];exact G);exact(S.asu g e).2.1 (.inr G);exact(S.ssu g e).2 (.inr G)
 refine⟨S.hn,⟨ao,hF.own S.wat.row aA,λp aB=>(S.wat.all p aB).keep (λb o h=>z46 (hF.rest b (S.a2 b o h).1 (λe=>?_)))⟩,aq,au,av,ax,?_,?_,?_,?_,?_,S.usB,z26 S.bx hF.size,?_⟩;rcases e with e|e|e;exact(S.a2 b o h).2.1 (.inl e);exact(S.a2 b o h).2.2.1 e;exact(S.a2 b o h).2.2.2.1 e;intro j u hu;rcases J j u hu with ⟨rfl,rfl⟩|⟨_,hu⟩;exact ay;exact u.far (S.each _ u hu) hF (az _ u hu);intro j k u v hu ah ai g G Y;rcases J j u hu with ⟨rfl,rfl⟩|⟨hj,aj⟩;rcases J k v ah with ⟨rfl,rfl⟩|⟨z,Z⟩;exact ai rfl;exact(M g G).1.2.1.2.2.2 _ v Z Y;rcases J k v ah with ⟨rfl,rfl⟩|⟨z,Z⟩;exact(M g Y).1.2.1.2.2.2 _ u aj G;exact S.apart _ _ u v aj Z (ak j k hj z ai) g G Y;intro j u hu k z;rcases J j u hu with ⟨rfl,rfl⟩|⟨_,hu⟩;have h:=M k z;exact⟨h.1.1,h.1.2.1.1,h.2⟩;have h:=S.us _ u hu k z;refine⟨h.1,h.2.1,λe=>?_,λe=>?_⟩;rcases Q k e with e|e;exact h.2.2.1 e;have:=ac _ u hu k z;omega;rcases V k e with e|e;exact h.2.2.2 e;have:=ac _ u hu k z;omega;intro k h;rcases Q k h with e|e;exact⟨(S.asu k e).1,(S.asu k e).2.1,ab k h⟩;exact⟨z26 S.bx e,λaa=>by have:=ad k aa;omega,ab k h⟩;intro k h;rcases V k h with e|e;exact S.ssu k e;exact⟨z26 S.bx e,λaa=>by have:=ad k aa;omega⟩;rintro b o h;have h1:=S.a2 b o h;refine⟨z21 h1.1 hF.size,h1.2.1,λe=>?_,λe=>?_,λj u hu hb=>?_⟩;rcases Q b e with e|e;exact h1.2.2.1 e;omega;rcases V b e with e|e;exact h1.2.2.2.1 e;omega;rcases J j u hu with ⟨rfl,rfl⟩|⟨_,hu⟩;exact(M b hb).1.2.2 o h;exact h1.2.2.2.2 _ u hu hb
end
theorem Cs:(prog.info? 176).map (λi=>(i.zero,i.size,i.bytes))=some (some (.pointer none),1,8):=by kernel_rfl
theorem pD (n:Nat) (hn:n<=10000) (w:World):
  Cp 95 #[Ej n] w λr w'=>Rr r (.string ⟨(List.replicate n 0).toArray⟩)/\El w w':=by
 go_enter func95,ntmps95;go_wp2_with (at_make;refine QR rfl _ _ rfl w.heap.size _ _ _ _ n rfl rfl rfl rfl (by omega) (z16 _) ?_;intro w1 z F;have G:=y' (AB (B:=w.heap.size) F (z16 _) (by simp));have H:=(CM (A:=λ_ _=>True) (l:=List.replicate n 0) (by unfold Qw at z;rw[AC];rw[z57]at z ⊢;exact KC z) (λ_ _ _ _=>trivial)).str;clear z F);go_ret;exact⟨rfl,d' G⟩
def sk0:Mq.Sk:={Qa:=0,Qc:=λ_=>[],held:=[]}
def r0:AU:={dead:=false,next:=0,inn:=0,more:=En}
theorem Ct (w:World) (p:Nat) (h:Eh w p #[Ej 0,.bool false,En,En,En,En,Ej 0,Ej 0,En] 180):Jg w p sk0 r0 (λ_=>En) En:=
 ⟨h,λ_ _=>BW _ _ _,BW _ _ _,λ_ _ _ _ _ _ h=>by(cases h),by simp[sk0],by simp[sk0,Mq.Sk.count],by simp[sk0],by simp[sk0]⟩
def IC:Array Value:= #[Ej 0,.bool false,En,En,En,En,Ej 0,Ej 0,En]
section
variable {w:World} {p:Nat} {g:Nat->Nat} {free:List Nat} {sh:Nat->List (Nat×Value)} {st:Stv} {c:Av} {a:Ag} {pl:Nat->List Nat}
theorem tU (z:Ja w p g a.Qf a.Qd a.fenced free sh st c) (X:Nat->Nat) (H:∀i,i < 3->X i=g i):
  Cp 117 #[C' p,.agg #[Ej (X 0),Ej (X 1),Ej (X 2)]] w λr F=>Rr r (Ej 0)/\El w F:=by
 have g0:w.cell? (Ea p 1)=some (Ej (X 0)):=by rw[D' z.ks.blk,H 0 (by omega)];exact z.ks.ag 0 (by omega)
 have g1:w.cell? (Ea p 2)=some (Ej (X 1)):=by rw[D' z.ks.blk,H 1 (by omega)];exact z.ks.ag 1 (by omega)
 have g2:w.cell? (Ea p 3)=some (Ej (X 2)):=by rw[D' z.ks.blk,H 2 (by omega)];exact z.ks.ag 2 (by omega)
 have I:=z12 z.ks.blk;generalize X 0=J,X 1=M,X 2=Q at *;have ab:∀F:World,(Op.equalIn 10000 100 (.agg #[Ej J,Ej M,Ej Q]) (.agg #[Ej J,Ej M,Ej Q])).run prog F=.ok true F:=λF=>by rw[RW];simp
 clear z H;unfold C';go_enter func117,ntmps117;go_upto_region 1 with fail;refine G' (λx=>Eh x w.heap.size #[Ej J,Ej M,Ej Q] 100/\El w x) ⟨z19 _ _,bna⟩ ?_;rintro x ⟨hb,G⟩;obtain⟨Y,Z,aa⟩:=DQ hb;simp at Y Z aa;have z0:=Bc G I g0;have ac:=Bc G I g1;have ad:=Bc G I g2;have V:=y' G;clear hb G g0 g1 g2;go_quiet (fail);go_wp2;go_ret;exact⟨rfl,(d' V).trans (z36 (z11 _ _) _ |>.mono (d' V).size)⟩
theorem pE {tk:Nat} {F G:Bool} (z:Ja w p g tk F G free sh st c) (X:Nat->Nat):
  Qy w (((w.setCell ⟨p,1,none⟩ (Ej (X 0))).setCell ⟨p,2,none⟩ (Ej (X 1))).setCell ⟨p,3,none⟩ (Ej (X 2))) p X tk F G free sh st c:=by
 have H:∀ {w:World} {c:Av} {g:Nat->Nat} (i:Nat) (hi:i < 3) (v:Nat),Ja w p g tk F G free sh st c->Qy w (w.setCell ⟨p,1+i,none⟩ (Ej v)) p (λt=>if t=i then v else g t) tk F G free sh st c:=by
  intro w c g i hi v z;have J:=z.ks.sz;refine KX z (1+i) (Ej v) (.inl (by omega)) (λj hj=>?_) ?_ ?_ ?_;by_cases e:j=i;subst e;have:1+j < c.arr.size:=by omega
  simp[this];rw[z18 (by omega),z.ks.ag j hj,if_neg e];rw[z18 (by omega)];exact z.ks.at';rw[z18 (by omega)];exact z.ks.aw;rw[z18 (by omega)];exact z.ks.ae
 have h1:=H 0 (by omega) (X 0) z;have h2:=h1.trans (λI h=>H 1 (by omega) (X 1) h);have h3:=h2.trans (λI h=>H 2 (by omega) (X 2) h);obtain⟨I,h,r⟩:=h3;refine⟨I,⟨{h.ks with ag:=λi hi=>?_},h.stt,h.rl,h.len⟩,r⟩;rw[h.ks.ag i hi];obtain rfl|rfl|rfl:i=0\/i=1\/i=2:=by omega
 all_goals simp
end
section
variable {w x:World} {p:Nat} {g:Nat->Nat} {tk:Nat} {wel fen:Bool} {free:List Nat} {sh:Nat->List (Nat×Value)} {st:Stv} {c:Av} {a:Ag} {pl:Nat->List Nat}
theorem tV (z:Ja w p g tk wel fen free sh st c) (v:Bool):Qy w (w.setCell ⟨p,25,none⟩ (.bool v)) p g tk wel v free sh st c:=by
 have F:=z.ks.sz;refine KX z 25 (.bool v) (.inr (by omega)) (λj hj=>?_) ?_ ?_ ?_;rw[z18 (by omega)];exact z.ks.ag j hj;rw[z18 (by omega)];exact z.ks.at';rw[z18 (by omega)];exact z.ks.aw;have:25 < c.arr.size:=by omega
 simp[this]
theorem YZ (z:Ja w p g tk wel fen free sh st c) (v:Bool):Qy w (w.setCell ⟨p,24,none⟩ (.bool v)) p g tk v fen free sh st c:=by
 have F:=z.ks.sz;refine KX z 24 (.bool v) (.inr (by omega)) (λj hj=>?_) ?_ ?_ ?_;rw[z18 (by omega)];exact z.ks.ag j hj;rw[z18 (by omega)];exact z.ks.at';have:24 < c.arr.size:=by omega
 simp[this];rw[z18 (by omega)];exact z.ks.ae
theorem LA (z:Ja w p g tk wel fen free sh st c) (v:Nat):Qy w (w.setCell ⟨p,23,none⟩ (Ej v)) p g v wel fen free sh st c:=by
 have F:=z.ks.sz;refine KX z 23 (Ej v) (.inr (by omega)) (λj hj=>?_) ?_ ?_ ?_;rw[z18 (by omega)];exact z.ks.ag j hj;have:23 < c.arr.size:=by omega
 simp[this];rw[z18 (by omega)];exact z.ks.aw;rw[z18 (by omega)];exact z.ks.ae
theorem Jv.flags {op:Nat} (O:Jv a op g free sh pl) (tk:Nat) (wel fen:Bool):Jv {a with Qf:=tk,Qd:=wel,fenced:=fen} op g free sh pl:=
 ⟨O.ep,O.bs,O.pn,O.kp,O.sn,O.si,O.hd,O.hu,O.hl,O.nd,O.lt,O.sum⟩
end
def clr (sh:Nat->List (Nat×Value)) (j:Nat) (t:Nat):List (Nat×Value):=if t % 3≠0/\t < j * 3 then []else sh t
theorem Cu (sh:Nat->List (Nat×Value)):clr sh 0=sh:=by funext t;unfold clr;rw[if_neg (by omega)]
theorem Cv (sh:Nat->List (Nat×Value)) (j:Nat):(λt=>if t=j * 3+2 then([]:List (Nat×Value))else(λt=>if t=j * 3+1 then []else clr sh j t) t)=clr sh (j+1):=by
 funext t;unfold clr;by_cases h1:t=j * 3+2;rw[if_pos h1,if_pos (by omega)];rw[if_neg h1];show(if t=j * 3+1 then([]:List (Nat×Value))else _)= _;by_cases h2:t=j * 3+1;rw[if_pos h2,if_pos (by omega)];rw[if_neg h2];by_cases h3:t % 3≠0/\t < j * 3;rw[if_pos h3,if_pos (by omega)];rw[if_neg h3,if_neg (by omega)]
section
variable {w:World} {p:Nat} {g:Nat->Nat} {free:List Nat} {sh:Nat->List (Nat×Value)} {st:Stv} {c:Av} {a:Ag} {op:Nat} {pl:Nat->List Nat}
theorem tW (O:Jv a op g free sh pl):Jv {a with Qd:=true,fl:=Mq.fresh a.fl 3} op g free (clr sh 3) pl:=by
 have z:∀i,i < 3->Mq.fresh a.fl 3 i={a.fl i with kept:=(a.fl i).kept.map λr=>(r.1,0),held:=[]}:=λi hi=>by unfold Mq.fresh;rw[if_pos hi]
 refine⟨O.ep,λi hi=>?_,λi hi=>?_,λi hi=>?_,λi hi n=>?_,λi hi=>?_,λi hi n=>?_,λi hi=>?_,λi hi=>?_,O.nd,O.lt,?_⟩;show g i=(Mq.fresh a.fl 3 i).base;rw[z i hi];exact O.bs i hi;show(pl i).length=(Mq.fresh a.fl 3 i).kept.length;rw[z i hi];simpa using O.pn i hi;show clr sh 3 (i * 3)=BG (Mq.fresh a.fl 3 i).base (Mq.fresh a.fl 3 i).kept (pl i);unfold clr;rw[if_neg (by omega),z i hi,O.kp i hi];exact MR _ _ _ _ (by simp)
 .show AV (clr sh 3 (i * 3+1)) _=GH (Mq.fresh a.fl 3 i) n;unfold clr;rw[if_pos (by omega),z i hi];unfold GH;simp only
  split;rfl;cases h:((a.fl i).kept.map λr=>(r.1,0))[n - (a.fl i).base - 1]? with
  |none=>rfl
  |some x=>
   rw[z77]at h;cases G:(a.fl i).kept[n - (a.fl i).base - 1]? with
   |none=>rw[G]at h;cases h
   |some y=>rw[G]at h;cases h;rfl
 show YT (clr sh 3 (i * 3+1));unfold clr;rw[if_pos (by omega)];intro x F;cases F;show(AV (clr sh 3 (i * 3+2)) _).isSome=(Mq.fresh a.fl 3 i).held.contains n;unfold clr;rw[if_pos (by omega),z i hi];rfl;show kV (clr sh 3 (i * 3+2));unfold clr;rw[if_pos (by omega)];intro x F;cases F;show(clr sh 3 (i * 3+2)).length<=3;unfold clr;rw[if_pos (by omega)];simp;have h:=O.sum;have h2:Ag.room {a with Qd:=true,fl:=Mq.fresh a.fl 3}=a.room:=by simp[Ag.room,Mq.fresh]
 rw[h2];exact h
theorem Gr (b l:Nat) (n:Int):max (b:Int) (min n ((b+l:Nat):Int))=((b+min (n - b).toNat l:Nat):Int):=by omega
theorem ZA (G:Ja w p g a.Qf a.Qd a.fenced free sh st c) (O:Jv a st.Qe g free sh pl) (e:Nat) (s q:Int) (b:z10) (M:e≠a.Qa):
  Cp 76 #[C' p,.agg #[Ej 2,Ej e,Ej s,Ej q,.string b]] w λr z=>Rr r (Ej 0)/\El w z:=by
 have H:=λz (Q:El w z)=>y' (DW (G.below Q));obtain⟨ep,F⟩:=exq (a.Qa);have I:st.Qe=ep:=by rw[F];exact O.ep
 rw[I]at H;rw[<-F]at M;have J:=y' (JT w #[Ej 2,Ej e,Ej s,Ej q,.string b]);have aa:((e:Int) != (ep:Int))=true:=by simp;omega
 clear G O I F;unfold C' at *;go_enter func76,ntmps76;go_upto_region 1 with fail;refine G' (Xz w #[Ej 2,Ej e,Ej s,Ej q,.string b]) (d' J) ?_;clear J;intro x X;have V:=Bi 1 X.box;simp at V;have Y:=λn=>y' (d' (H (x.drewN n) (X.drewN n).bel));have Z:=y' X;clear X;go_quiet (first|(go_at_call 52;exact z58 (d' (Y _))));go_wp2;go_ret;exact⟨rfl,((d' Z).drewN _).bel⟩
end
theorem ZC (h0:cY []) (h1:∀l n,cY l->cY (l++[n])) (l:List Nat):cY l:=by
 have z:∀ (k:Nat) (l:List Nat),l.length=k->cY l:=by
  intro k;induction k with
  |zero=>intro l hl;rw[List.length_eq_zero_iff.1 hl];exact h0
  |succ k ih=>intro l hl;rcases xN l with rfl|⟨F,n,rfl⟩;simp at hl;rw[xM];exact h1 _ _ (ih _ (by simpa using hl))
 exact z _ l rfl
theorem MT (l:List Nat) (n:Nat):(l++[n]).foldl (λl n=>CY l n MQ) []=CY (l.foldl (λl n=>CY l n MQ) []) n MQ:=by simp
theorem tX:∀ (l:List Nat),kV (l.foldl (λl n=>CY l n MQ) []):=by
 refine ZC (λx z=>by cases z) (λl n ih=>?_);rw[MT];intro x z;rcases RP z with rfl|z;rfl;exact ih x z
theorem iN:∀ (l:List Nat),(l.foldl (λl n=>CY l n MQ) []).length<=l.length:=by
 refine ZC (by simp) (λl n ih=>?_);rw[MT];have:=NY (l.foldl (λl n=>CY l n MQ) []) n MQ;simp;omega
theorem tY:∀ (l:List Nat) (n:Nat),(AV (l.foldl (λl n=>CY l n MQ) []) (n:Int)).isSome=l.contains n:=by
 refine ZC (λn=>rfl) (λl m ih=>?_);intro n;rw[MT,OP];unfold WE;by_cases h:(n:Int)=(m:Int);have z:n=m:=by omega
 subst z;rw[if_pos rfl];simp;rw[if_neg h,ih n];have z:¬n=m:=by omega
 simp[z]
section
variable {g:Nat->Nat} {free:List Nat} {sh:Nat->List (Nat×Value)} {a:Ag} {op:Nat} {pl:Nat->List Nat}
theorem yI (O:Jv a op g free sh pl) (hs:w < 3) (l:List Nat) (hl:l.length<=3):
  Jv {a with fl:=upd a.fl w {a.fl w with held:=l}} op g free (λt=>if t=w * 3+2 then l.foldl (λl n=>CY l n MQ) []else sh t) pl:=by
 have z:∀j,upd a.fl w {a.fl w with held:=l} j=if j=w then {a.fl w with held:=l}else a.fl j:=λj=>rfl
 refine⟨O.ep,λj hj=>?_,λj hj=>?_,λj hj=>?_,λj hj n=>?_,λj hj=>?_,λj hj n=>?_,λj hj=>?_,λj hj=>?_,O.nd,O.lt,?_⟩;show g j=(upd a.fl w {a.fl w with held:=l} j).base;rw[z];by_cases e:j=w;subst e;rw[if_pos rfl];exact O.bs j hj;rw[if_neg e];exact O.bs j hj;show(pl j).length=(upd a.fl w {a.fl w with held:=l} j).kept.length;rw[z];by_cases e:j=w;subst e;rw[if_pos rfl];exact O.pn j hj;rw[if_neg e];exact O.pn j hj;show(if j * 3=w * 3+2 then _ else sh (j * 3))=BG (upd a.fl w {a.fl w with held:=l} j).base (upd a.fl w {a.fl w with held:=l} j).kept (pl j);rw[if_neg (by omega),z];by_cases e:j=w;subst e;rw[if_pos rfl];exact O.kp j hj;rw[if_neg e];exact O.kp j hj;show AV (if j * 3+1=w * 3+2 then _ else sh (j * 3+1)) _=GH (upd a.fl w {a.fl w with held:=l} j) n;rw[if_neg (by omega),z];by_cases e:j=w;subst e;rw[if_pos rfl];exact O.sn j hj n;rw[if_neg e];exact O.sn j hj n;show YT (if j * 3+1=w * 3+2 then _ else sh (j * 3+1));rw[if_neg (by omega)];exact O.si j hj;show(AV (if j * 3+2=w * 3+2 then _ else sh (j * 3+2)) _).isSome=(upd a.fl w {a.fl w with held:=l} j).held.contains n;rw[z];by_cases e:j=w;subst e;rw[if_pos rfl,if_pos rfl];exact tY l n;rw[if_neg (by omega),if_neg e];exact O.hd j hj n;show kV (if j * 3+2=w * 3+2 then _ else sh (j * 3+2));by_cases e:j=w;subst e;rw[if_pos rfl];exact tX l;rw[if_neg (by omega)];exact O.hu j hj;show(if j * 3+2=w * 3+2 then _ else sh (j * 3+2)).length<=3;by_cases e:j=w;subst e;rw[if_pos rfl];exact z26 (iN l) hl;rw[if_neg (by omega)];exact O.hl j hj;have h:=O.sum;obtain⟨f2,F⟩:=exq (({a.fl w with held:=l}:Js));have G:f2.kept.length=(a.fl w).kept.length:=by rw[F]
 have h2:=RV (a:=a) hs f2;rw[<-F];omega
end
theorem Mk (h:0 < z.size):z[0].toNat=(z.data.toList.getD 0 0).toNat:=by
 have F:0 < z.data.size:=h;simp[List.getD_eq_getElem?_getD,Array.getElem?_eq_getElem F,ByteArray.getElem_eq_getElem_data]
section
variable {w:World} {p:Nat} {g:Nat->Nat} {free:List Nat} {sh:Nat->List (Nat×Value)} {st:Stv} {c:Av} {a:Ag} {pl:Nat->List Nat}
theorem lA (z:Ja w p g a.Qf a.Qd a.fenced free sh st c) (O:Jv a st.Qe g free sh pl) (e:Nat) (s q:Int) (b:z10) (H:e≠a.Qa\/a.Qd=false):
  Cp 77 #[C' p,.agg #[Ej 4,Ej e,Ej s,Ej q,.string b]] w λr F=>Rr r (Ej 0)/\El w F:=by
 have I:=λF (aa:El w F)=>y' (DW (z.below aa));have ab:=z12 z.ks.blk;have J:w.cell? (Ea p 24)=some (.bool a.Qd):=by rw[D' z.ks.blk,z.ks.aw]
 obtain⟨ep,G⟩:=exq (a.Qa);have M:st.Qe=ep:=by rw[G];exact O.ep
 rw[M]at I;rw[<-G]at H;have Q:=y' (JT w #[Ej 4,Ej e,Ej s,Ej q,.string b]);generalize a.Qd=ac at *;clear z O M G;unfold C' at *;go_enter func77,ntmps77;go_upto_region 1 with fail;refine G' (Xz w #[Ej 4,Ej e,Ej s,Ej q,.string b]) (d' Q) ?_;clear Q;intro x X;have ad:=Bi 1 X.box;simp at ad;have d24:=Bc X.bel ab J;have V:=λn=>y' (d' (I (x.drewN n) (X.drewN n).bel));have Y:=y' X;clear X J;by_cases Z:e=ep
 .have ah:ac=false:=H.resolve_left (λh=>h Z);subst ah;have hn:((e:Int) != (ep:Int))=false:=by simp[Z]
  go_quiet (first|(go_at_call 52;exact z58 (d' (V _))))
  go_wp2;go_ret;exact⟨rfl,((d' Y).drewN _).bel⟩
 have hn:((e:Int) != (ep:Int))=true:=by simp;omega
 go_quiet (first|(go_at_call 52;exact z58 (d' (V _))))
 go_wp2;go_ret;exact⟨rfl,((d' Y).drewN _).bel⟩
end
theorem yJ (a b c:Int):(⟨(le4 a++le4 b++le4 c).toArray⟩:z10)=CH a++CH b++CH c:=by
 rw[<-nR]
theorem WI (z:Jo p w x.Qa x.Qc L H D) (e:Nat) (s q:Int) (b:z10) (I:e < x.Qa):
  Cp 87 #[C' w,.agg #[Ej 1,Ej e,Ej s,Ej q,.string b]] p λr Y=>
   r=.returned (.tuple #[.agg #[Ej 5,Ej x.Qa,Ej 0,Ej 0,.string ⟨#[]⟩],Ej 0])/\El p Y:=by
 have c1:p.cell? (Ea w 1)=some (Ej x.Qa):=by rw[D' z.ks.blk,z.ks.a1]
 have G:=z12 z.ks.blk;obtain⟨ep,J⟩:=exq (x.Qa);rw[<-J]at c1 I ⊢;have ak:(e:Int) < (ep:Int):=by omega
 have Z:=λy=>y' (VL ep y);have M:=y' (LZ p #[Ej 1,Ej e,Ej s,Ej q,.string b] zFr);clear z J I;unfold C';go_enter func87,ntmps87;go_upto_region 1 with fail;refine G' (Vw p #[Ej 1,Ej e,Ej s,Ej q,.string b] zFr) (d' M) ?_;clear M;intro ao X;have Q:=Bi 1 X.box;simp at Q;have V:=Bc X.bel G c1;have F:=y' X;clear X;go_quiet (fail);go_upto_region 2 with fail;refine G' (Vw p #[Ej 1,Ej e,Ej s,Ej q,.string b] zFr) ((d' F).drewN _) ?_;clear F Q V;intro aa X;have V:=Bc X.bel G c1;have F:=y' X;have aq:w < aa.heap.size:=z21 G X.bel.size;clear X;go_wp2_with (go_at_call 131;refine Cm (Z _) ?_;rintro r y ⟨rfl,hb⟩;have X:=(d' F).below hb;have ab:=Bi 0 X.res;have ac:=Bi 1 X.res;have ad:=Bi 2 X.res;have ah:=Bi 3 X.res;have ai:=Bi 4 X.res;have f0:=H' (i:=0) X.res;have f1:=H' (i:=1) X.res;have f2:=H' (i:=2) X.res;have f3:=H' (i:=3) X.res;have f4:=H' (i:=4) X.res;simp[zFr]at ab ac ad ah ai;have aj:=y' X;clear X hb);refine z47 (v:=.tuple #[.agg #[Ej 5,Ej ep,Ej 0,Ej 0,.string ⟨#[]⟩],Ej 0]) (by simp[results,results87,go_sem, *]) rfl ⟨rfl,?_⟩;have hb:=(d' aj).bel;refine((((hb.setCell (p:=⟨p.heap.size+1,0,none⟩) (by simp) _).setCell (p:=⟨p.heap.size+1,1,none⟩) (by simp) _).setCell (p:=⟨p.heap.size+1,2,none⟩) (by simp) _).setCell (p:=⟨p.heap.size+1,3,none⟩) (by simp) _).setCell (p:=⟨p.heap.size+1,4,none⟩) (by simp) _
theorem PD (z:Qw w p y r) (F:w<=a) (G:Eh p a #[y] 48):Qj w p (Es a 0 1 1) [y] [⟨r.toArray⟩] (λ_=>False):=by
 refine⟨rfl,⟨by simp,.inr ⟨a,1,_,rfl,F,G,by simp,by unfold maxLen;omega,by simp,by simp⟩⟩,?_,?_,λ_ _ h=>h⟩
 .intro j u hj;cases j with
  |zero=>simp at hj;subst hj;exact z
  |succ j=>simp at hj
 intro i j u I hi hj H;cases i with
 |zero=>
  cases j with
  |zero=>exact absurd rfl H
  |succ j=>simp at hj
 |succ i=>simp at hi
theorem EU (B:Nat) (z:World):Qj B z En [] [] (λ_=>False):=
 ⟨rfl,z20 _ _ _ _,λj v hj=>by simp at hj,λi j u v hi=>by simp at hi,λ_ _ h=>h⟩
theorem SD (n:Nat) (hn:n<=2147483647):Qb.proper 5 n 0 0 ⟨#[]⟩=true:=by
 simp[Qb.proper,Qb.isNum,ByteArray.size];omega
theorem LB (F:Qb.reads r=true):∃ (k:Int) (e s q:Nat) (b:z10),Jk r=k/\Jf r=e/\Qs r=s/\Xh r=q/\Jp r=b/\e<=2147483647/\s < 3/\q<=2147483647/\b.size<=20:=by
 have z:=F;unfold Qb.reads at z;rw[z56]at z;obtain⟨_,h2,h3,h4,h5⟩:=BZ z.2;exact⟨_,(Jf r).toNat,(Qs r).toNat,(Xh r).toNat,_,rfl,by omega,by omega,by omega,rfl,by omega,by omega,by omega,h5⟩
theorem ZD (F:Qb.reads r=true) (h1:Jk r=o) (h2:Jf r=w) (h3:Qs r=a) (h4:Xh r=q) (h5:Jp r=z):
  BN x r=(0,CK x o w a q z):=by
 unfold BN;rw[F,h1,h2,h3,h4,h5];rfl
theorem iO (z:Qb.reads r=false):BN x r=(1,x,[]):=by
 unfold BN;rw[z];rfl
theorem lB (z:CZ x) (k:Int) (e s q:Nat) (b:z10) (hs:s < 3) (hb:b.size<=20):CZ (CK x k e s q b).1:=by
 unfold CK;split;split;exact z;exact kQ z _;split;rename_i h3;subst h3;split;rename_i F;rw[F];exact kR z s q b hs hb;exact z;exact z
theorem pF (F:CZ x) (l:List UInt8):CZ (BN x l).2.1:=by
 cases z:Qb.reads l;rw[iO z];exact F;obtain⟨k,e,s,q,b,h1,h2,h3,h4,h5,g1,g2,H,G⟩:=LB z;rw[ZD z h1 h2 h3 h4 h5];exact lB F k e s q b g2 G
theorem tZ (F:Qb.reads r=true) (h1:Jk r=o) (h2:Jf r=w) (h3:Qs r=a) (h4:Xh r=q) (h5:Jp r=z):
  CJ c r=(0,c.Qv o w a q z):=by
 unfold CJ;rw[F,h1,h2,h3,h4,h5];rfl
theorem yK (z:Qb.reads r=false):CJ c r=(1,c):=by
 unfold CJ;rw[z];rfl
theorem lC (z:Qb.reads r=true):Qb.proper (Jk r) (Jf r) (Qs r) (Xh r) (Jp r)=true:=by
 unfold Qb.reads at z;rw[z56]at z;exact z.2
theorem fV (z:Jo p w a F L H D):
  Cp 55 #[C' w] p λr w'=>Rr r (Ej a)/\w'=p:=by
 have c1:p.cell? (Ea w 1)=some (Ej a):=by rw[D' z.ks.blk,z.ks.a1]
 clear z;unfold C';go_enter func55,ntmps55;go_wp2;go_ret;exact⟨rfl,rfl⟩
theorem fW (h:Ql p 9 1 y S.length (AF S)) (hl:S.length<=1000):
  Cp 72 #[y] p λr w'=>∃v',r=.returned v'/\w'.ownsRow p.heap.size 9 1 v' S.length (AF S)/\El p w':=by
 obtain⟨_,h2⟩:=h;rcases h2 with ⟨rfl,F⟩|⟨g,o,cap,G,rfl,H,M,Q,hs,I⟩;obtain rfl:S=[]:=List.length_eq_zero_iff.1 F;refine(Tryz.slices_Clone_string_nil 0 0 p).mono ?_;rintro r J ⟨rfl,rfl⟩;exact⟨_,rfl,z20 _ _ _ _,z11 _ _⟩;refine(Tryz.slices_Clone_string g o S.length cap S p (z16 _) (by omega) (λj hj=>?_)).mono ?_;have h0:((G.toList.drop o).take (S.length * 1))[j]? =(AF S)[j]? :=by rw[I]
 rw[z73,if_pos (by omega),z82]at h0;rw[D' H,<-Array.getElem?_toList,h0];simp[AF,hj,List.getD_eq_getElem?_getD];rintro r J ⟨v',rfl,z,_,hb⟩;exact⟨v',rfl,by rw[z48 (z16 _)]at z;exact z,hb⟩
def pG (s:Nat) (fv rv:Value):Array Value:= #[C' s,Ej 0,Ej 0,Ej 0,
 En,.map none,En,.map none,En,.map none,En,.map none,En,.map none,En,.map none,En,.map none,En,.map none,En,.map none,
 fv,Ej 0,.bool false,.bool false,rv]
theorem iP (s:Nat) (fv rv:Value):(∀i,i < 3->(pG s fv rv)[1+i]? =some (Ej 0))/\∀k,k < 9->(pG s fv rv)[4+k * 2]? =some En/\(pG s fv rv)[4+k * 2+1]? =some (.map none):=by
 refine⟨λi hi=>?_,λk z=>?_⟩
 .obtain rfl|rfl|rfl:i=0\/i=1\/i=2:=by omega
  all_goals rfl
 obtain rfl|rfl|rfl|rfl|rfl|rfl|rfl|rfl|rfl:k=0\/k=1\/k=2\/k=3\/k=4\/k=5\/k=6\/k=7\/k=8:=by omega
 all_goals exact⟨rfl,rfl⟩
def ag0:Ag:={Qa:=1,Qf:=0,Qd:=false,fenced:=false,fl:=λ_=>{base:=0,kept:=[],held:=[]}}
theorem Cw:(prog.info? 164).map (λi=>(i.zero,i.size,i.bytes))=some (some (.pointer none),1,8):=by kernel_rfl
def rr0:AY:={dead:=false,g0:=0,g1:=0,g2:=0,st:=0,ex:=En}
def EO:Array Value:= #[Ej 1,Ej 0,.bool false,.bool false,.bool false,Ej 0,En,En,Ej 0,En,En,Ej 0,En,En,Ej 0,Ej 0,Ej 0,Ej 0,En]
theorem yL (w:World) (p:Nat) (h:Eh w p EO 171):Qi w p ag0 rr0 (λ_=>En) (λ_=>En):=
 ⟨h,λ_ _=>BW _ _ _,λ_ _=>BW _ _ _,λ_ _ _ _ _ _ h=>by(cases h),λ_ _ _ _ _ _ h=>by(cases h),by simp[ag0],by simp[ag0],by simp[ag0],by simp[ag0],by simp[ag0]⟩
theorem pH (n:Nat):Jj n ag0:=⟨by simp[ag0],by simp[ag0],by simp[ag0],λs hs x z=>by simp[ag0]at z⟩
