/-
  Part 10 of a proof.
-/
import Derived.Test.YtamafdcnbcoegabGreatOa9
set_option maxRecDepth 100000
set_option maxHeartbeats 40000000
namespace Go.Proofs.YtamafdcnbcoegabGreat
attribute [local simp, local go_sem] Ev Ep Ei Eb Et Ej Ea En Er Es
open Qb Mq
abbrev SE:= @Nat.le_succ
open Go.RowKit Go.Proofs.Tryz
def uI (op:Nat×Nat) (w F:World) (p:Nat) (a':Ag) (c:Av) (lv:Value) (H:List Value) (I:List z10):Prop:=
 ∃z,Qj w.heap.size F lv H I (PaU p z)/\(∃g free sh G st,Ja F p g a'.Qf a'.Qd a'.fenced free sh st z/\Zx op st a' free G/\Jv a' st.Qe g free sh G)/\Far (PaU p c) w F/\(∀k,PaU p z k->PaU p c k\/w.heap.size<=k)/\z.s=c.s/\z.rv=c.rv
section
variable {w:World} {p:Nat} {g:Nat->Nat} {free:List Nat} {sh:Nat->List (Nat×Value)} {st:Stv} {c:Av} {a:Ag} {pl:Nat->List Nat} {op:Nat×Nat}
theorem ZN (z:Ja w p g a.Qf a.Qd a.fenced free sh st c) (hs:Zx op st a free pl) (O:Jv a st.Qe g free sh pl) (ac:a.Qf<=1000000000) (I:a.fenced=true):
  Cp 43 #[C' p] w λr Y=>Rr r En/\Zy op w Y p a.tick.1 c:=by
 have J:a.tick.1={a with Qf:=a.Qf+1}:=by unfold Ag.tick;rw[if_pos I]
 rw[J];have Z:w.cell? (Ea p 23)=some (Ej a.Qf):=by rw[D' z.ks.blk,z.ks.at']
 have f23:w.frozen? ⟨p,23,none⟩=false:=H' (i:=23) z.ks.blk;obtain⟨t2,G⟩:=exq (a.Qf+1);rw[<-G];have aa:=y' G;have H:=y' (z13 z (z13 hs O));clear z O hs J G;unfold C' at *;go_enter func43,ntmps43;go_upto_region 2 with fail;refine G' (λx=>Qy w x p g t2 a.Qd a.fenced free sh st c) ?_ ?_;rw[show((a.Qf:Int)+1)=((t2:Nat):Int) by have:=d' aa;omega];exact LA (d' H).1 t2;clear Z f23;rintro x hst;obtain⟨c1,F,M,Q,s1,V⟩:=hst;have d25:x.cell? (Ea p 25)=some (.bool true):=by rw[D' F.ks.blk,F.ks.ae,I]
 have ab:=y' (⟨c1,F,M,Q,s1,V⟩:Qy w x p g t2 a.Qd a.fenced free sh st c);clear F M Q s1 V;go_wp2;go_ret;exact⟨rfl,g,free,sh,pl,st,d' ab,(d' H).2.1.flags _ _ _,(d' H).2.2.flags t2 a.Qd a.fenced⟩
theorem gA (F:Ja w p g a.Qf a.Qd a.fenced free sh st c) (hs:Zx op st a free pl) (O:Jv a st.Qe g free sh pl) (aF:a.Qf<=1000000000) (aa:a.Qa<=2147483647) (ab:a.fenced=false) (ac:a.Qd=false):
  Cp 43 #[C' p] w λr ad=>∃lv aq x,r=.returned lv/\Zy op w x p a.tick.1 c/\El x ad/\Qj x.heap.size ad lv aq (a.tick.2.map λl=>⟨l.toArray⟩) (λ_=>False):=by
 have ah:a.tick=({a with Qf:=a.Qf+1},[Qb.bytes 1 a.Qa 0 0 []]):=by unfold Ag.tick;rw[if_neg (by rw[ab];decide),if_pos ac]
 rw[ah];simp only[List.map_cons,List.map_nil];have au:w.cell? (Ea p 23)=some (Ej a.Qf):=by rw[D' F.ks.blk,F.ks.at']
 have f23:w.frozen? ⟨p,23,none⟩=false:=H' (i:=23) F.ks.blk;obtain⟨t2,J⟩:=exq (a.Qf+1);rw[<-J];have av:=y' J;obtain⟨ep,G⟩:=exq (a.Qa);have ax:st.Qe=ep:=by rw[G];exact O.ep
 rw[<-G]at aa ⊢;have ay:=λy=>y' (JY 1 ep 0 0 ⟨#[]⟩ y (lD ep aa));have M:=y' (z13 F (z13 hs O));have az:=hs.dead;have aA:=y' G;clear F O hs ah J G;unfold C' at *;go_enter func43,ntmps43;go_upto_region 2 with fail;refine G' (λx=>Qy w x p g t2 a.Qd a.fenced free sh st c) ?_ ?_;rw[show((a.Qf:Int)+1)=((t2:Nat):Int) by have:=d' av;omega];exact LA (d' M).1 t2;clear au f23;rintro x hst;obtain⟨c1,z,ai,aj,s1,ak⟩:=hst;have d25:x.cell? (Ea p 25)=some (.bool false):=by rw[D' z.ks.blk,z.ks.ae,ab]
 have d24:x.cell? (Ea p 24)=some (.bool false):=by rw[D' z.ks.blk,z.ks.aw,ac]
 have d0:x.cell? (Ea p 0)=some (Er c1.s 0):=by rw[D' z.ks.blk,z.ks.a0];rfl
 have Q:=AN z.stt;rw[az]at Q;have aB:=y' Q;have V:=DW z;rw[ax]at V;have aC:=y' V;have aD:=y' (⟨c1,z,ai,aj,s1,ak⟩:Qy w x p g t2 a.Qd a.fenced free sh st c);clear z ai aj s1 ak Q V;unfold C' at *;go_wp2_with (first|(go_at_call 66;refine Cm aB ?_;rintro r y ⟨rfl,Y⟩;obtain rfl:x=y:=Y.symm)|(go_at_call 52;refine Cm aC ?_;rintro r y ⟨rfl,Y⟩;obtain rfl:x=y:=Y.symm)|(go_at_call 67;refine Cm (ay _) ?_;rintro r v ⟨aG,rfl,H,Z⟩;obtain⟨aH,cap,rfl,_⟩:=H.shape;replace H:=y' H;replace Z:=y' Z));go_ret;have I:=d' Z;have aE:=d' H;have e:=d' aA;subst e;have ao:x.heap.size<=v.heap.size:=by have:=I.size;first|omega|(simp at this;omega)
 exact⟨_,_,x,rfl,⟨g,free,sh,pl,st,d' aD,(d' M).2.1.flags _ _ _,(d' M).2.2.flags t2 a.Qd a.fenced⟩,(by first|exact I.alloc I.size _|exact(((z11 _ x).alloc (z16 _) _).trans (I.mono (by simp))).alloc ao _),PD (z52 (aE.mono (by omega)) _) ao (z19 _ _)⟩
theorem lJ (aa:Ja w p g a.Qf a.Qd a.fenced free sh st c) (hs:Zx op st a free pl) (O:Jv a st.Qe g free sh pl) (bp:a.Qf<=1000000000) (aC:∀i,i < 3->(a.fl i).base+(a.fl i).kept.length < 4294967296) (aD:∀i,i < 3->∀x∈ (a.fl i).kept,x.1.size<=20/\x.2<=1000000000000) (ak:a.fenced=false) (ao:a.Qd=true):
  Cp 43 #[C' p] w λr aP=>∃lv I,r=.returned lv/\uI op w aP p a.tick.1 c lv I (a.tick.2.map λl=>⟨l.toArray⟩):=by
 have aQ:w.cell? (Ea p 23)=some (Ej a.Qf):=by rw[D' aa.ks.blk,aa.ks.at']
 have f23:w.frozen? ⟨p,23,none⟩=false:=H' (i:=23) aa.ks.blk;obtain⟨t2,ac⟩:=exq (a.Qf+1);have aq:=pY a;rw[iR ak ao,<-ac]at aq;have aR:=y' aq;clear aq;rw[iR ak ao,<-ac];have aS:=y' ac;have aE:=λ(wr:World) (c2:Av) (J:Nat->List (Nat×Value)) (j:Nat) (hj:j < 3) (K:Ja wr p g (DF a t2 j).Qf (DF a t2 j).Qd (DF a t2 j).fenced free J st c2) (aT:Jv (DF a t2 j) st.Qe g free J pl)=>
  uD K aT j hj (by show t2≠0;omega) (by show t2<= _;omega) (by rw[OT];exact aC j hj) (by rw[OT];exact aD j hj)
 have aU:=y' aE;have au:=y' (z13 aa (z13 hs O));have aV:=hs.dead;clear aa O hs ac aE aC aD;unfold C' at *;go_enter func43,ntmps43;go_upto_region 2 with fail;refine G' (λx=>Qy w x p g t2 a.Qd a.fenced free sh st c) ?_ ?_;rw[show((a.Qf:Int)+1)=((t2:Nat):Int) by have:=d' aS;omega];exact LA (d' au).1 t2;clear aQ f23;rintro x hst;obtain⟨c1,G,aF,aG,s1,ad⟩:=hst;have d25:x.cell? (Ea p 25)=some (.bool false):=by rw[D' G.ks.blk,G.ks.ae,ak]
 have d24:x.cell? (Ea p 24)=some (.bool true):=by rw[D' G.ks.blk,G.ks.aw,ao]
 have d0:x.cell? (Ea p 0)=some (Er c1.s 0):=by rw[D' G.ks.blk,G.ks.a0];rfl
 have av:=AN G.stt;rw[aV]at av;have aH:=y' av;have aI:=y' (⟨c1,G,aF,aG,s1,ad⟩:Qy w x p g t2 a.Qd a.fenced free sh st c);clear G aF aG s1 ad av;unfold C' at *;go_wp2_with (go_at_call 66;refine Cm aH ?_;rintro r y ⟨rfl,aW⟩;obtain rfl:x=y:=aW.symm);go_loopw[3,4,33] (λv _ i wr=>∃j:Nat,j<=3/\i=.int .i64 j/\∃I c2 J,Qj w.heap.size wr v I (ZH a t2 j) (PaU p c2)/\Ja wr p g (DF a t2 j).Qf (DF a t2 j).Qd (DF a t2 j).fenced free J st c2/\Jv (DF a t2 j) st.Qe g free J pl/\Far (PaU p c) w wr/\(∀k,PaU p c2 k->PaU p c k\/w.heap.size<=k)/\c2.s=c.s/\c2.rv=c.rv) (λ_ _ i _=>3 - (intOf i).toNat)
 case atStart=>obtain⟨c2,aX,aY,aZ,s1,ad⟩:=d' aI;refine⟨0,by omega,rfl,[],c2,sh,⟨rfl,z20 _ _ _ _,(λj v hj=>by simp at hj),(λi j u v hi=>by simp at hi),λk Y=>?_⟩,aX,?_,aY,aZ,s1,ad⟩;rcases Y with h|⟨j,hj,_⟩;cases h;simp at hj;rw[pP];exact(d' au).2.2.flags t2 a.Qd a.fenced
 case round=>
  obtain⟨j,hj,rfl,I,c2,J,z,M,Z,F,H,Q,V⟩:=hrel;clear aI aH d0 d24 d25;by_cases ba:j < 3
  .have aJ:=y' ((d' aU) wr c2 J j ba M Z);have bq:(0:Int)<=(j:Int):=(by omega);have aK:(j:Int) < 3:=(by omega);have bb:=ZK a t2 j;have br:=ZJ (DF a t2 j) j (DF a t2 j).Qf;obtain⟨n1,ax⟩:=exq (I.length);have bt:n1<=8:=(by have:=z.len;omega);have bc:=y' ax;have bu:=F.size;have ah:=z.row;rw[<-ax]at ah;obtain⟨ai,cap,rfl,_⟩:=(CV ah).shape;have bd:=y' ah;clear ah ax bb;have ab:=y' (z13 z (z13 M (z13 F (z13 H (z13 Q V)))));clear z M Z F H Q V;unfold C' at aJ;go_upto_region 10 with fail;go_upto_region 11 with (first
    |(go_at_call 68;(refine Cm aJ ?_;rintro r y ⟨bw,ay,c3,be,rfl,k1,k2,k3,k4,k5,k6,k7⟩;obtain⟨n2,az⟩:=exq (ay.length);have bz:n2<=4:=(by have:=k1.len;omega);have aj:=k1.row;rw[<-az]at aj;have bf:=y' az;have bA:=k4.size;obtain⟨bg,bh,bi,_⟩:=(CV aj).shape;subst bi;have bj:=y' aj;clear aj az;have aA:=y' (z13 k1 (z13 k2 (z13 k3 (z13 k4 (z13 k5 (z13 k6 k7))))));clear k1 k2 k3 k4 k5 k6 k7))
    |(at_builtin;(refine ZI rfl (.tmp 36) (.tmp 39) 32 rfl w.heap.size 48 En 1 24 underlying32 (by kernel_rfl) rfl (by decide) (.slice ai n1 cap) n1 I (Q' (d' bd) (λk Y=>(d' aA).2.2.2.1.rest k ((d' ab).1.lt k (.inl Y)).2 ((d' ab).1.clear k (.inl Y)))) rfl wr.heap.size (.slice bg n2 bh) n2 ay (d' bj) rfl (d' aA).1.one (by unfold maxLen;omega) (by omega) (by omega) ?_;intro v' w1 aB aL aM;obtain⟨bB,bC,bk,_⟩:=(CV aB).shape;subst bk;have bl:=y' (z13 aB (z13 aL aM));clear aB aL aM)))
   go_wp2;go_roundw
   case rel=>obtain⟨z,M,F,H,Q,V⟩:=d' ab;obtain⟨k1,k2,k3,k4,k5,k6,k7⟩:=d' aA;obtain⟨bm,aN,bn⟩:=d' bl;have hF:=fX (lv:=.slice ai n1 cap) z k1 k4 k5 k2.lt F.size (by rw[<-d' bc,<-d' bf];exact bm) aN bn;have bo:∀k,PaU p c3 k->¬ (Value.slice ai n1 cap).ownBlock=some k:=λk hu e=>(by have h1:=z.lt k (.inl e);rcases k5 k hu with h2|h2;exact z.clear k (.inl e) h2;omega);have aO:=BU aN;refine⟨j+1,by omega,by go_num,I++ay,c3,be,?_,k2.far aO (λk hu e=>bo k hu (by simpa using e)),?_,(F.trans k4 (λk Y hu=>?_)).trans aO (λk Y e=>?_),λk hu=>?_,k6.trans Q,k7.trans V⟩;rw[VP];exact hF;have:=k3;rw[show(DF a t2 j).Qf=t2 from rfl,pO]at this;exact this;rcases H k hu with h|h;exact h;omega;have:=(z.lt k (.inl (by simpa using e))).1;omega;rcases k5 k hu with h|h;exact H k h;exact .inr (by omega)
   case measure=>simp[intOf];omega
  have aK:j=3:=by omega
  subst aK;have ab:=y' (z13 z (z13 M (z13 Z (z13 F (z13 H (z13 Q V))))));obtain⟨ai,cap,rfl,_⟩:=(CV z.row).shape;clear z M Z F H Q V;go_wp2;go_ret;obtain⟨z,M,Z,F,H,Q,V⟩:=d' ab;exact⟨_,I,rfl,c2,z,⟨g,free,J,pl,st,M,(d' au).2.1.same (λi _=>(d' aR) i),Z⟩,F,H,Q,V⟩
end
variable{aA:Nat×Nat}{p f B:World}{w a q b Q:Nat}{c:Ag}{aL:Av}{y u:Value}{C:List Value}{S:List z10}{r:List UInt8}{t:Hd}{U:List Rc}{O:Nat -> Nat}{X:Ld}{l:Array Value}{m I:Nat -> Value}
theorem iU (h:Zy aA p f w c aL) (hb:El f B) (F:Qj f.heap.size B y C S (λ_=>False)):uI aA p B w c aL y C S:=by
 obtain⟨g,free,sh,G,st,⟨H,K,z,N,s1,I⟩,hs,O⟩:=h;exact⟨H,F.up z.size K.lt,⟨g,free,sh,G,st,K.below hb,hs,O⟩,z.trans (I' hb) Ih,N,s1,I⟩
section
variable {w:World} {p:Nat} {g:Nat->Nat} {free:List Nat} {sh:Nat->List (Nat×Value)} {st:Stv} {c:Av} {a:Ag} {pl:Nat->List Nat} {op:Nat×Nat}
theorem pZ {N:Nat} (G:Ja w p g a.Qf a.Qd a.fenced free sh st c) (hs:Zx op st a free pl) (O:Jv a st.Qe g free sh pl) (z:Jj N a) (Y:N < 1000000000):
  Cp 43 #[C' p] w λr H=>∃lv I,r=.returned lv/\uI op w H p a.tick.1 c lv I (a.tick.2.map λl=>⟨l.toArray⟩):=by
 have J:a.Qf<=1000000000:=by have:=z.tk;omega
 cases F:a.fenced with
 |true=>
  refine(ZN G hs O J F).mono ?_;rintro r H ⟨rfl,h⟩;have V:a.tick.2=[]:=by unfold Ag.tick;rw[if_pos F]
  rw[V];exact⟨_,[],rfl,iU h (z11 _ _) ⟨rfl,z20 _ _ _ _,(λj v hj=>by simp at hj),(λi j u v hi=>by simp at hi),λk Z=>λh=>h⟩⟩
 |false=>
  cases M:a.Qd with
  |false=>refine(gA G hs O J z.ep F M).mono ?_;rintro r H ⟨lv,I,x,rfl,h1,h2,h3⟩;exact⟨lv,I,rfl,iU h1 h2 h3⟩
  |true=>exact lJ G hs O J (λi hi=>by have:=z.sum i hi;omega) (λi hi x Q=>⟨(z.bod i hi x Q).1,by have:=(z.bod i hi x Q).2;omega⟩) F M
end
theorem ZO:(prog.info? 188).map (·.size)=some 2:=by kernel_rfl
theorem KJ (S:List UInt8) (F:S.length=64) (g:Nat) (t:TypeId) (w:World) (h:w.heap[g]? =some (.cells (bv S).toArray t (0,0))) (i n cap:Nat) (hi:i+4<=64) (hn:4<=n):
  Cp 109 #[Es g i n cap] w λe w'=>Rr e (.int .u32 (Qh S i))/\El w w':=by
 have z:∀j,j < 64->w.cell? (Ea g j)=some (.int .u8 (S.getD j 0).toNat):=λj hj=>by rw[D' h,vR (by omega)]
 refine(JJ g i n cap (S.getD i 0) (S.getD (i+1) 0) (S.getD (i+2) 0) (S.getD (i+3) 0) w hn (z _ (by omega)) (z _ (by omega)) (z _ (by omega)) (z _ (by omega))).mono ?_;rintro r y ⟨rfl,k,rfl⟩;exact⟨rfl,z36 (z11 _ _) k⟩
theorem ID (S:List UInt8) (i:Nat):((Qh S i).toNat:Int)=Qh S i:=by have:=Jq S i;omega
theorem Dg (S:List UInt8):(Vd S:Int)=Qh S 4+Qh S 8 * 4294967296:=by
 unfold Vd;have:=ID S 4;have:=ID S 8;omega
theorem Mm (S:List UInt8):bits BinOp.or IntKind.u64 (Qh S 4) (Qh S 8 * 4294967296)=(Vd S:Int):=by
 have h1:=Jq S 4;have h2:=Jq S 8;rw[u64_or32 _ _ h1.1 h1.2 (by omega) (by omega) (by omega),Dg]
theorem VR (S:List UInt8) (I:S.length=64) (w:World):
  Cp 197 #[.agg (bv S).toArray] w λr w'=>Rr r (.agg #[.int .u32 (Xy S),.int .u64 (Vd S)])/\El w w':=by
 have Y:=λ(y:World) (h:y.heap[w.heap.size]? =some (.cells (bv S).toArray 214 (0,0)))=>y' (KJ S I w.heap.size _ y h 0 64 64 (by omega) (by omega));have Z:=λ(y:World) (h:y.heap[w.heap.size]? =some (.cells (bv S).toArray 214 (0,0)))=>y' (KJ S I w.heap.size _ y h 4 60 60 (by omega) (by omega));have aa:=λ(y:World) (h:y.heap[w.heap.size]? =some (.cells (bv S).toArray 214 (0,0)))=>y' (KJ S I w.heap.size _ y h 8 56 56 (by omega) (by omega));have J:=y' (Mm S);have ab:Hid ((Xy S:Int)=Qh S 0):=ID S 0;obtain⟨ct,ac⟩:=exq (Vd S);obtain⟨on,ad⟩:=exq (Xy S);rw[<-ac]at J ⊢;rw[<-ad]at ab ⊢;clear ac ad;have ao:=Jq S 4;have b2:=Jq S 8;obtain⟨aF,aG⟩:=ao;obtain⟨aH,aI⟩:=b2;go_enter func197,ntmps197;go_upto_region 1 with fail;refine G' (λx=>x.heap[w.heap.size]? =some (.cells (bv S).toArray 214 (0,0))/\Eh x (w.heap.size+1) #[.int .u32 0,.int .u64 0] 188/\El w x) (FD _ _ _) ?_;rintro x ⟨h0,h1,ah⟩;have aq:=z12 h1;have au:=y' h0;have av:=y' h1;have ai:=y' ah;clear h0 h1 ah;generalize aJ:Qh S 0=n0,aK:Qh S 4=G,aL:Qh S 8=F at *;have aM:IntKind.u64.wrap G=G:=by rw[Bu];omega
 have aN:IntKind.u64.wrap F=F:=by rw[Bu];omega
 have aO:IntKind.u64.wrap (F * 4294967296)=F * 4294967296:=by rw[Bu];omega
 refine Z'
  [Ev (Es w.heap.size 0 64 64),Ev (.int .u32 n0),Ev (Es w.heap.size 4 60 60),Ev (.int .u32 G),Ev (.int .u64 G),
   Ev (Es w.heap.size 8 56 56),Ev (.int .u32 F),Ev (.int .u64 F),Ev (.int .u64 (F * 4294967296)),Ev (.int .u64 ct),Ev (.agg #[.int .u32 n0,.int .u64 ct]),Et]
  [[1],[1003],[1],[3005],[4006],[1],[6008],[7009],[8010],[5007,9011],[2004,10012],[2,11013]] [4,5,6,7,8,9,10,11,12,13,14,0] [3,11]
  11 _ rfl rfl ?_ ?_
 .refine⟨?_,?_,?_,?_,?_,?_,?_,?_,?_,?_,?_,trivial⟩;all_goals
   intro a y hb ax;have H:=(hb.block _ (by omega:w.heap.size < x.heap.size)).trans (d' au);have ay:=Y y H;have az:=Z y H;have aA:=aa y H;clear hb H Y Z aa;simp[J']at ax
  .go_simp;first|exact z11 _ _|exact⟨_,rfl,z11 _ _,rfl⟩
  .go_simp;refine Cm ay ?_;rintro r w1 ⟨rfl,z⟩;first|exact z|exact⟨rfl,z⟩|exact⟨_,rfl,z,rfl⟩
  .go_simp;first|exact z11 _ _|exact⟨_,rfl,z11 _ _,rfl⟩
  .go_simp;refine Cm az ?_;rintro r w1 ⟨rfl,z⟩;first|exact z|exact⟨rfl,z⟩|exact⟨_,rfl,z,rfl⟩
  .go_simp;first|exact z11 _ _|exact⟨_,rfl,z11 _ _,rfl⟩
  .go_simp;first|exact z11 _ _|exact⟨_,rfl,z11 _ _,rfl⟩
  .go_simp;refine Cm aA ?_;rintro r w1 ⟨rfl,z⟩;first|exact z|exact⟨rfl,z⟩|exact⟨_,rfl,z,rfl⟩
  .go_simp;first|exact z11 _ _|exact⟨_,rfl,z11 _ _,rfl⟩
  .go_simp;first|exact z11 _ _|exact⟨_,rfl,z11 _ _,rfl⟩
  .go_simp;first|exact⟨by rw[d' J],z11 _ _⟩|exact⟨_,rfl,z11 _ _,by rw[<-d' J]⟩
  go_simp;first|exact z11 _ _|exact⟨_,rfl,z11 _ _,rfl⟩
 intro f y M Q;simp only[AJ,List.take]at Q;have aB:=Q.2.2.2.2.2.2.2.2.2.2.1;have V:=(M.block _ aq).trans (d' av);have aj:=y' ((d' ai).trans (M.mono (d' ai).size));clear Q M;simp only[V',aB];refine RH 188 (.tmp 2) (.tmp 13) rfl (w.heap.size+1) #[.int .u32 n0,.int .u64 ct] (by simp[Act.eval]) (by simp[Act.eval]) 188 _ V (by rw[ZO];rfl) (by simp) (by rw[z43];intro u hu;simp at hu;rcases hu with rfl|rfl <;> rfl) ?_;have ak:=z91 y (w.heap.size+1) _ #[.int .u32 n0,.int .u64 ct] 188 (0,0) V;have aC:=y' (CN y (w.heap.size+1) #[.int .u32 n0,.int .u64 ct]);generalize y.setRow (w.heap.size+1) #[.int .u32 n0,.int .u64 ct]=aP at *;obtain⟨aD,aE⟩:=LG ak;clear ak V;go_simp;go_wp2;refine z47 (v:=.agg #[.int .u32 n0,.int .u64 ct]) (by simp[results,results197,go_sem,aD,aE]) rfl ⟨by rw[d' ab],?_⟩;exact(d' aj).trans ((d' aC).below (d' aj).size (λk aQ e=>by omega))
theorem VS (o c:Nat) (w:World):Cp 198 #[.agg #[.int .u32 o,.int .u64 c]] w λr w'=>Rr r (.bool (Qq o))/\El w w':=by
 by_cases h1:(1:Int)<=(o:Int)
 .by_cases h2:(o:Int)<=1073741824
  .go_enter func198,ntmps198;go_wp2;go_ret;exact⟨BR (by simp[Qq];omega),bna⟩
  go_enter func198,ntmps198;go_wp2;go_ret;exact⟨BR (by simp[Qq];omega),bna⟩
 go_enter func198,ntmps198;go_wp2;go_ret;exact⟨BR (by simp[Qq];omega),bna⟩
def PE (h:Hd):Value:=.agg #[.int .u32 h.o,.int .u64 h.c,Ej h.a,Ej h.b,Ej h.d]
def hdK (o c a b d k:Nat):Array Value:= #[.int .u32 o,.int .u64 c,Ej (if 0 < k then a else 0:Nat),Ej (if 1 < k then b else 0:Nat),Ej (if 2 < k then d else 0:Nat)]
theorem ED:Zc=CF:=rfl
theorem gB (S:List UInt8) (aD:S.length=64) (aN:S≠CF) (w:World):Cp 159 #[.agg (bv S).toArray] w λr w'=>
  ∃h:Hd,r=.returned (.tuple #[PE h,.bool (Xb S)])/\(Xb S=true->h=Yw S)/\El w w':=by
 have aS:=λy=>TQ (S:=S) (T:=CF) aD BD y;rw[z53 aN]at aS;have aE:Xb S=((Yw S).small&& (Qq (Xy S) &&decide (Zh (Yw S)=S))):=by unfold Xb;rw[ED,z53 aN,Gi]
 have aL:=λ(i n cap:Nat) (hi:i+4<=64) (hn:4<=n) (y:World) (h:y.heap[w.heap.size]? =some (.cells (bv S).toArray 214 (0,0)))=>KJ S aD w.heap.size _ y h i n cap hi hn;have ao:=λy h=>y' (aL 12 52 52 (by omega) (by omega) y h);have aq:=λy h=>y' (aL 16 48 48 (by omega) (by omega) y h);have au:=λy h=>y' (aL 20 44 44 (by omega) (by omega) y h);rw[<-ID S 12]at ao;rw[<-ID S 16]at aq;rw[<-ID S 20]at au;have bh:=Jq S 12;have bi:=Jq S 16;have b2:=Jq S 20;have aT:=λy=>y' (VR S aD y);have aU:=opOf_lt S;have aV:=ctOf_lt S;have aB:=λy=>y' (VS (Xy S) (Vd S) y);have aW:=λy=>y' (RK (Xy S) (Vd S) (Qh S 12).toNat (Qh S 16).toNat (Qh S 20).toNat y aU aV (by omega) (by omega) (by omega));have aX:=Ze (Yw S);have av:=λy=>TQ (S:=Zh (Yw S)) (T:=S) aX aD y;have aO:Yw S=⟨Xy S,Vd S,(Qh S 12).toNat,(Qh S 16).toNat,(Qh S 20).toNat⟩:=rfl;have aY:(Yw S).small=(decide ((Qh S 12).toNat<=2147483647) && (decide ((Qh S 16).toNat<=2147483647) &&decide ((Qh S 20).toNat<=2147483647))):=rfl;rw[aY]at aE;have Q:∀y,Hid (Cp 164 #[PE (Yw S)] y λr w'=>Rr r (.agg (bv (Zh (Yw S))).toArray)/\El y w'):=aW;rw[aO]at Q av ⊢;unfold PE at Q;simp only at Q;have br:(Qh S 12).toNat < 4294967296:=by omega
 have hb:(Qh S 16).toNat < 4294967296:=by omega
 have hd:(Qh S 20).toNat < 4294967296:=by omega
 rw[aO]at aE;clear aW aL aO aY bh bi b2 aX;generalize (Qh S 12).toNat=a,(Qh S 16).toNat=b,(Qh S 20).toNat=d,Xy S=o,Vd S=c at *;obtain⟨T,aZ⟩:=exq (Zh ⟨o,c,a,b,d⟩);rw[<-aZ]at Q av aE;clear aZ;obtain⟨ok,ba⟩:=exq (Xb S);rw[<-ba]at aE ⊢;clear ba;have Z:=y' aE;clear aE aN aU aV;go_enter func159,ntmps159;go_upto_region 1 with fail;refine G' (λx=>x.heap[w.heap.size]? =some (.cells (bv S).toArray 214 (0,0))/\Eh x (w.heap.size+1) #[.int .u32 0,.int .u64 0,Ej 0,Ej 0,Ej 0] 199/\El w x) (FD _ _ _) ?_;rintro x ⟨h0,h1,I⟩;have aF:=y' h0;have aG:=y' h1;have aH:=y' I;clear h0 h1 I;go_upto_region 4 with (first
  |(refine EF rfl (.tmp 1) rfl w.heap.size rfl 214 S aD (d' aF) ?_)
  |(refine EL rfl rfl ?_;go_simp)
  |(go_at_call 197;refine Cm (aT _) ?_;rintro r y ⟨rfl,z⟩))
 have bj:=z.size;obtain⟨G,aP⟩:=exq (y.heap.size);rw[<-aP];have bt:w.heap.size+1 < G:=by have:=z12 (d' aG);omega
 refine G' (λx=>x.heap[w.heap.size]? =some (.cells (bv S).toArray 214 (0,0))/\Eh x (w.heap.size+1) #[.int .u32 0,.int .u64 0,Ej 0,Ej 0,Ej 0] 199/\Eh x G (hdK o c a b d 0) 199/\El w x) ?_ ?_;have bk:=z12 (d' aF);have aQ:=z12 (d' aG);refine⟨(hao _ _ (by omega)).trans ((z.block _ bk).trans (d' aF)),(hao _ _ (by omega)).trans ((z.block _ aQ).trans (d' aG)),by rw[aP];exact z19 _ _,((d' aH).trans (z.mono (d' aH).size)).alloc (by omega) _⟩;clear z bj aP aF aG aH aS aT x;rintro x ⟨h0,h1,h4,I⟩;have bb:=y' (z13 h0 (z13 h1 (z13 h4 I)));clear h0 h1 h4 I y;go_wp2;go_loopw[5,6,14] (λ_ _ i wr=>∃k:Nat,k<=3/\i=.int .i64 k/\(wr.heap[w.heap.size]? =some (.cells (bv S).toArray 214 (0,0))/\wr.heap[w.heap.size+1]? =some (.cells #[.int .u32 0,.int .u64 0,.int .i64 0,.int .i64 0,.int .i64 0] 199 (0,0))/\wr.heap[G]? =some (.cells (hdK o c a b d k) 199 (0,0))/\Below w.heap.size w wr)/\(0 < k->a<=2147483647)/\(1 < k->b<=2147483647)/\(2 < k->d<=2147483647)) (λ_ _ i _=>3 - (intOf i).toNat)
 case atStart=>exact⟨0,by omega,rfl,d' bb,by omega,by omega,by omega⟩
 case round=>
  obtain⟨k,bl,rfl,⟨h0,h1,h4,I⟩,k0,k1,k2⟩:=hrel;clear bb;have aM:=z12 h4;have f0:∀i,wr.frozen? ⟨G,i,none⟩=false:=λi=>H' h4;have aa:∀i,wr.frozen? ⟨w.heap.size+1,i,none⟩=false:=λi=>H' h1;have aQ:=z12 h1;have ab:∀ (n:Nat) (y:World),2147483647 < n->El wr y->Hid (Eh y (w.heap.size+1) #[.int .u32 0,.int .u64 0,Ej 0,Ej 0,Ej 0] 199/\El w y):=λn y _ hb=>⟨(hb.block _ aQ).trans h1,I.trans (hb.mono I.size)⟩;have ac:∀ (v:Value) (j:Nat) (y:World),Eh wr G (hdK o c a b d j) 199->(hdK o c a b d j).setIfInBounds (2+j) v=hdK o c a b d (j+1)->El wr y->
    (y.setCell ⟨G,2+j,none⟩ v).heap[w.heap.size]? =some (.cells (bv S).toArray 214 (0,0))/\(y.setCell ⟨G,2+j,none⟩ v).heap[w.heap.size+1]? =some (.cells #[.int .u32 0,.int .u64 0,Ej 0,Ej 0,Ej 0] 199 (0,0))/\(y.setCell ⟨G,2+j,none⟩ v).heap[G]? =some (.cells (hdK o c a b d (j+1)) 199 (0,0))/\El w (y.setCell ⟨G,2+j,none⟩ v):=by
   intro v j y h4 bm hb;have hs:=T' y G (2+j) v;refine⟨hs.blk ((hb.block _ (by omega)).trans h0) (by omega),hs.blk ((hb.block _ (by omega)).trans h1) (by omega),?_,(I.trans (hb.mono I.size)).setCell (by show w.heap.size<=G;omega) _⟩;rw[<-bm];exact AA ((hb.block _ aM).trans h4)
  obtain rfl|rfl|rfl|rfl:k=0\/k=1\/k=2\/k=3:=by omega
  .have hn:=y' (d' (ao wr h0));by_cases bc:(2147483647:Int) < (a:Int)
   .have ax:=λy hb=>ab a y (by omega) hb;have ay:=Z;clear h0 h4 I f0 ao aq au ab ac h1 aa aB Q av Z k0 k1 k2;go_upto_region 8 with (go_at_call 109;refine Cm hn ?_;rintro r y ⟨rfl,z⟩);obtain⟨V,az⟩:=d' (ax y z);have aI:=y' az;obtain⟨ad,ah,ai,aj,ak⟩:=GL V;have aa:∀i,y.frozen? ⟨w.heap.size+1,i,none⟩=false:=λi=>H' V;simp at ad ah ai aj ak;clear z ax V az hn;go_wp2;refine z47 (v:=.tuple #[.agg #[.int .u32 0,.int .u64 0,Ej 0,Ej 0,Ej 0],.bool false]) (by simp[results,results159,go_sem,ad,ah,ai,aj,ak]) rfl ⟨⟨0,0,0,0,0⟩,?_,λh=>?_,?_⟩;have:ok=false:=(by rw[d' ay,z53 (show ¬a<=2147483647 by omega)];simp);rw[this];rfl;have:ok=false:=(by rw[d' ay,z53 (show ¬a<=2147483647 by omega)];simp);rw[this]at h;cases h;exact(((((d' aI).setCell (p:=⟨w.heap.size+1,0,none⟩) (by simp) _).setCell (p:=⟨w.heap.size+1,1,none⟩) (by simp) _).setCell (p:=⟨w.heap.size+1,2,none⟩) (by simp) _).setCell (p:=⟨w.heap.size+1,3,none⟩) (by simp) _).setCell (p:=⟨w.heap.size+1,4,none⟩) (by simp) _
   have aA:=λy hb=>y' (ac (Ej a) 0 y h4 rfl hb);have J:=y' (z13 k0 (z13 k1 k2));have bd:IntKind.i64.wrap (a:Int)=(a:Int):=(by rw[z28];omega);clear h0 h1 I aa ao aq au ab ac aB Q av Z k0 k1 k2 f0;go_upto_region 8 with (go_at_call 109;refine Cm hn ?_;rintro r y ⟨rfl,z⟩);have Y:=(z.block _ aM).trans h4;have f4:∀i,y.frozen? ⟨G,i,none⟩=false:=λi=>H' Y;have be:y.cell? (Ea G 2)=some (Ej 0):=(by rw[D' Y];rfl);have aJ:=y' (d' (aA y z));clear h4 z Y aA hn;go_wp2;go_roundw
   case rel=>exact⟨1,by omega,rfl,d' aJ,by first|omega|(intro _;exact(d' J).1 (by omega)),by first|omega|(intro _;exact(d' J).2.1 (by omega)),by first|omega|(intro _;exact(d' J).2.2 (by omega))⟩
   case measure=>simp[intOf]
  .have hn:=y' (d' (aq wr h0));by_cases bc:(2147483647:Int) < (b:Int)
   .have ax:=λy hb=>ab b y (by omega) hb;have ay:=Z;clear h0 h4 I f0 ao aq au ab ac h1 aa aB Q av Z k0 k1 k2;go_upto_region 8 with (go_at_call 109;refine Cm hn ?_;rintro r y ⟨rfl,z⟩);obtain⟨V,az⟩:=d' (ax y z);have aI:=y' az;obtain⟨ad,ah,ai,aj,ak⟩:=GL V;have aa:∀i,y.frozen? ⟨w.heap.size+1,i,none⟩=false:=λi=>H' V;simp at ad ah ai aj ak;clear z ax V az hn;go_wp2;refine z47 (v:=.tuple #[.agg #[.int .u32 0,.int .u64 0,Ej 0,Ej 0,Ej 0],.bool false]) (by simp[results,results159,go_sem,ad,ah,ai,aj,ak]) rfl ⟨⟨0,0,0,0,0⟩,?_,λh=>?_,?_⟩;have:ok=false:=(by rw[d' ay,z53 (show ¬b<=2147483647 by omega)];simp);rw[this];rfl;have:ok=false:=(by rw[d' ay,z53 (show ¬b<=2147483647 by omega)];simp);rw[this]at h;cases h;exact(((((d' aI).setCell (p:=⟨w.heap.size+1,0,none⟩) (by simp) _).setCell (p:=⟨w.heap.size+1,1,none⟩) (by simp) _).setCell (p:=⟨w.heap.size+1,2,none⟩) (by simp) _).setCell (p:=⟨w.heap.size+1,3,none⟩) (by simp) _).setCell (p:=⟨w.heap.size+1,4,none⟩) (by simp) _
   have aA:=λy hb=>y' (ac (Ej b) 1 y h4 rfl hb);have J:=y' (z13 k0 (z13 k1 k2));have bd:IntKind.i64.wrap (b:Int)=(b:Int):=(by rw[z28];omega);clear h0 h1 I aa ao aq au ab ac aB Q av Z k0 k1 k2 f0;go_upto_region 8 with (go_at_call 109;refine Cm hn ?_;rintro r y ⟨rfl,z⟩);have Y:=(z.block _ aM).trans h4;have f4:∀i,y.frozen? ⟨G,i,none⟩=false:=λi=>H' Y;have be:y.cell? (Ea G 3)=some (Ej 0):=(by rw[D' Y];rfl);have aJ:=y' (d' (aA y z));clear h4 z Y aA hn;go_wp2;go_roundw
   case rel=>exact⟨2,by omega,rfl,d' aJ,by first|omega|(intro _;exact(d' J).1 (by omega)),by first|omega|(intro _;exact(d' J).2.1 (by omega)),by first|omega|(intro _;exact(d' J).2.2 (by omega))⟩
   case measure=>simp[intOf]
  .have hn:=y' (d' (au wr h0));by_cases bc:(2147483647:Int) < (d:Int)
   .have ax:=λy hb=>ab d y (by omega) hb;have ay:=Z;clear h0 h4 I f0 ao aq au ab ac h1 aa aB Q av Z k0 k1 k2;go_upto_region 8 with (go_at_call 109;refine Cm hn ?_;rintro r y ⟨rfl,z⟩);obtain⟨V,az⟩:=d' (ax y z);have aI:=y' az;obtain⟨ad,ah,ai,aj,ak⟩:=GL V;have aa:∀i,y.frozen? ⟨w.heap.size+1,i,none⟩=false:=λi=>H' V;simp at ad ah ai aj ak;clear z ax V az hn;go_wp2;refine z47 (v:=.tuple #[.agg #[.int .u32 0,.int .u64 0,Ej 0,Ej 0,Ej 0],.bool false]) (by simp[results,results159,go_sem,ad,ah,ai,aj,ak]) rfl ⟨⟨0,0,0,0,0⟩,?_,λh=>?_,?_⟩;have:ok=false:=(by rw[d' ay,z53 (show ¬d<=2147483647 by omega)];simp);rw[this];rfl;have:ok=false:=(by rw[d' ay,z53 (show ¬d<=2147483647 by omega)];simp);rw[this]at h;cases h;exact(((((d' aI).setCell (p:=⟨w.heap.size+1,0,none⟩) (by simp) _).setCell (p:=⟨w.heap.size+1,1,none⟩) (by simp) _).setCell (p:=⟨w.heap.size+1,2,none⟩) (by simp) _).setCell (p:=⟨w.heap.size+1,3,none⟩) (by simp) _).setCell (p:=⟨w.heap.size+1,4,none⟩) (by simp) _
   have aA:=λy hb=>y' (ac (Ej d) 2 y h4 rfl hb);have J:=y' (z13 k0 (z13 k1 k2));have bd:IntKind.i64.wrap (d:Int)=(d:Int):=(by rw[z28];omega);clear h0 h1 I aa ao aq au ab ac aB Q av Z k0 k1 k2 f0;go_upto_region 8 with (go_at_call 109;refine Cm hn ?_;rintro r y ⟨rfl,z⟩);have Y:=(z.block _ aM).trans h4;have f4:∀i,y.frozen? ⟨G,i,none⟩=false:=λi=>H' Y;have be:y.cell? (Ea G 4)=some (Ej 0):=(by rw[D' Y];rfl);have aJ:=y' (d' (aA y z));clear h4 z Y aA hn;go_wp2;go_roundw
   case rel=>exact⟨3,by omega,rfl,d' aJ,by first|omega|(intro _;exact(d' J).1 (by omega)),by first|omega|(intro _;exact(d' J).2.1 (by omega)),by first|omega|(intro _;exact(d' J).2.2 (by omega))⟩
   case measure=>simp[intOf]
  have aF:=y' h0;have aG:=y' h1;have bn:Hid (Eh wr G #[.int .u32 o,.int .u64 c,Ej a,Ej b,Ej d] 199):=h4;have aH:=y' I;have J:=y' (z13 (k0 (by omega)) (z13 (k1 (by omega)) (k2 (by omega))));clear h0 h1 h4 I f0 aa ao aq au ab ac k0 k1 k2;go_upto_region 12 with fail;have M:ok=(Qq o&&decide (T=S)):=by rw[d' Z,z49 (d' J).1,z49 (d' J).2.1,z49 (d' J).2.2];simp only[Bool.true_and]
  cases H:Qq o;all_goals
   rw[H]at M;simp only[Bool.true_and,Bool.false_and]at M;refine AH
    [Ev (.agg #[.int .u32 o,.int .u64 c,Ej a,Ej b,Ej d]),Ep G 0,Ev (.agg #[.int .u32 o,.int .u64 c]),Eb (Qq o),Eb (Qq o),λv _=>Qq o=true->v=.agg #[.int .u32 o,.int .u64 c,Ej a,Ej b,Ej d],λv _=>Qq o=true->v=.agg (bv T).toArray,λv _=>Qq o=true->v=.agg (bv S).toArray,λv _=>Qq o=true->v=.bool (decide (T=S)),Eb ok,λ_ aK=>Eh aK (w.heap.size+1) #[.int .u32 o,.int .u64 c,Ej a,Ej b,Ej d] 199,Eb ok]
    [[4],[4],[2032],[3033],[4034],[4,5035],[6036,5035],[1,5035],[7037,8038,5035],[5035,9039],[2,1031],[10040]] [32,33,34,35,36,37,38,39,40,41,0,4] [3,1,27,10]
    [(10,λk=>k=w.heap.size+1)] ?_ ?_ (hst:=by repeat' (first|exact Y' _|exact(λ_ _ _ h _=>h)|exact ac' _ _|exact trivial|apply z13)) (hstF:=by repeat' (first|exact trivial|exact .inl rfl|exact .inr (.inr (ab' _ _))|exact .inr (.inr (λ_ _ _ h _=>h))|apply z13))
   .refine⟨?_,?_,?_,?_,?_,?_,?_,?_,?_,?_,?_,?_,trivial⟩;all_goals
     intro a' aK hb F;have z0:=hb.blk (d' aF) (AS (by intro (e:w.heap.size=w.heap.size+1);omega));have z4:=hb.blk (d' bn) (AS (by intro (e:G=w.heap.size+1);omega));obtain⟨bu,bw,bz,bA,bB⟩:=GW z4;have bo:=y' z0;clear z0 z4;simp[J',H]at F
    iterate 3
     .clear hb;go_simp;first|exact Far.refl _ _|exact⟨_,rfl,Far.refl _ _,rfl⟩|exact⟨_,rfl,Far.refl _ _,by simp[H,M]⟩|simp[H,M,Far.refl]
    .clear hb;go_simp;refine Cm (aB aK) ?_;rintro r w1 ⟨rfl,z⟩;exact⟨_,rfl,I' z,by first|rfl|(rw[H];rfl)⟩
    .clear hb;go_simp;first|exact Far.refl _ _|exact⟨_,rfl,Far.refl _ _,rfl⟩|exact⟨_,rfl,Far.refl _ _,by simp[H,M]⟩|simp[H,M,Far.refl]
    .clear hb;first
      |(have aC:a'.tmps[35]? =some (.bool false):=JM (by first|exact F|exact F.2|exact F.2.2)
        go_simp;try simp[H])
      |(have aC:a'.tmps[35]? =some (.bool true):=JM (by first|exact F|exact F.2|exact F.2.2)
        go_simp;first|exact Far.refl _ _|exact⟨_,rfl,Far.refl _ _,rfl⟩|exact⟨_,rfl,Far.refl _ _,by simp[H,M]⟩|simp[H,M,Far.refl])
    .clear hb;first
      |(have aC:a'.tmps[35]? =some (.bool false):=JM (by first|exact F|exact F.2|exact F.2.2)
        go_simp;try simp[H])
      |(have aC:a'.tmps[35]? =some (.bool true):=JM (by first|exact F|exact F.2|exact F.2.2)
        go_simp;refine Cm (Q aK) ?_;rintro r w1 ⟨rfl,z⟩;exact⟨_,rfl,I' z,by first|rfl|exactλ_=>rfl⟩)
    .clear hb;first
      |(have aC:a'.tmps[35]? =some (.bool false):=JM (by first|exact F|exact F.2|exact F.2.2)
        go_simp;try simp[H])
      |(have aC:a'.tmps[35]? =some (.bool true):=JM (by first|exact F|exact F.2|exact F.2.2)
        rw[if_pos (by go_simp)];exact FH (.tmp 1) rfl w.heap.size (by simp[Act.eval,F]) 214 S aD (d' bo) ⟨_,rfl,Far.refl _ _,by first|rfl|exactλ_=>rfl⟩)
    .clear hb;first
      |(have aC:a'.tmps[35]? =some (.bool false):=JM (by first|exact F|exact F.2|exact F.2.2)
        go_simp;try simp[H])
      |(have aC:a'.tmps[35]? =some (.bool true):=JM (by first|exact F|exact F.2|exact F.2.2)
        go_simp;first|exact Far.refl _ _|exact⟨_,rfl,Far.refl _ _,rfl⟩|exact⟨_,rfl,Far.refl _ _,by simp[H,M]⟩|simp[H,M,Far.refl])
    .clear hb;go_simp;first|exact Far.refl _ _|exact⟨_,rfl,Far.refl _ _,rfl⟩|exact⟨_,rfl,Far.refl _ _,by simp[H,M]⟩|simp[H,M,Far.refl]
    have bf:=hb.blk (d' aG) DG;clear hb;rw[if_pos (by rfl)];refine RH 199 (.tmp 2) (.tmp 31) rfl (w.heap.size+1) #[.int .u32 o,.int .u64 c,Ej a,Ej b,Ej d] (by simp[Act.eval,F]) (by simp[Act.eval,F]) 199 _ bf (by rw[TX];rfl) (by simp) (by rw[z43];intro u hu;simp at hu;rcases hu with rfl|rfl|rfl|rfl|rfl <;> rfl) ?_;exact⟨_,rfl,AQ (.head _) (CN _ _ _),z91 _ _ _ _ _ _ bf⟩;clear hb;go_simp;first|exact Far.refl _ _|exact⟨_,rfl,Far.refl _ _,rfl⟩|exact⟨_,rfl,Far.refl _ _,by simp[H,M]⟩|simp[H,M,Far.refl]
   .intro f aK hF aR;have bg:=aR.2.2.2.2.2.2.2.2.2.2.1;have bp:=aR.2.2.2.2.2.2.2.2.2.2.2.1;obtain⟨ad,ah,ai,aj,ak⟩:=GW bg;have bq:=y' ((d' aH).trans ((IH hF).below (d' aH).size (λk bl (h:k=w.heap.size+1)=>by omega)));clear aR hF bg M H;simp only[V',bp];go_simp;go_wp2;exact z47 (v:=.tuple #[.agg #[.int .u32 o,.int .u64 c,Ej a,Ej b,Ej d],.bool ok]) (by simp[results,results159,go_sem,ad,ah,ai,aj,ak]) rfl ⟨⟨o,c,a,b,d⟩,rfl,λ_=>rfl,d' bq⟩
theorem SF (S:List UInt8) (F:S.length=64) (w:World):Cp 159 #[.agg (bv S).toArray] w λr w'=>
  ∃h:Hd,r=.returned (.tuple #[PE h,.bool (Xb S)])/\(Xb S=true->h=Qo S)/\El w w':=by
 by_cases z:S=CF;subst z;refine(fP w).mono ?_;rintro r y ⟨rfl,hb⟩;have:=Zk;rw[ED]at this;exact⟨Mq.hd0,by rw[this.1];rfl,λ_=>this.2.symm,hb⟩;refine(gB S F z w).mono ?_;rintro r y ⟨h,rfl,h2,hb⟩;refine⟨h,rfl,λG=>?_,hb⟩;rw[h2 G];unfold Qo;rw[ED,if_neg z]
theorem qB:(prog.info? 150).map (·.size)=some 3:=by kernel_rfl
def Dh (r:Rc):Value:=.agg #[Ej r.s,Ej r.q,.string r.b]
theorem WJ (S:List UInt8) (ac:S.length=64) (aG:S≠CF) (last:Nat) (w:World):Cp 162 #[.agg (bv S).toArray,.int .u32 last] w λr w'=>
  ∃h:Rc,r=.returned (.tuple #[Dh h,.bool (Xx S last)])/\(Xx S last=true->h=Vy S)/\El w w':=by
 have bw:=λy=>TQ (S:=S) (T:=CF) ac BD y;rw[z53 aG]at bw;have Y:Xx S last=((decide (Mq.lenOf S<=20) && (decide ((S.getD 12 0).toNat < 3) && (decide (1<=(Qh S 14).toNat) &&decide ((Qh S 14).toNat<=2147483647)))) && (Qq (Xy S) && (decide (Xy S<=last) &&decide (Xq (Xy S) (Vd S) (Vy S)=S)))):=by unfold Xx;rw[ED,z53 aG,Gi];rfl
 have ax:=λ(y:World) (h:y.heap[w.heap.size]? =some (.cells (bv S).toArray 214 (0,0)))=>y' (KJ S ac w.heap.size _ y h 14 50 50 (by omega) (by omega));rw[<-ID S 14]at ax;have aV:=λy=>y' (VR S ac y);have aW:=opOf_lt S;have aX:=ctOf_lt S;have bz:=Jq S 14;have aY:=λy=>y' (VS (Xy S) (Vd S) y);have aZ:(S.getD 13 0).toNat=Mq.lenOf S:=rfl;have ay:∀ (y:World) (j:Nat),j < 64->y.heap[w.heap.size]? =some (.cells (bv S).toArray 214 (0,0))->y.cell? (Ea w.heap.size j)=some (.int .u8 (S.getD j 0).toNat):=λy j hj h=>by rw[D' h,vR (by omega)]
 have aH:=λy h=>y' (ay y 12 (by omega) h);have az:=λy h=>y' (ay y 13 (by omega) h);rw[aZ]at az;have ba:Vy S=⟨(S.getD 12 0).toNat,(Qh S 14).toNat,⟨((S.drop 18).take (Mq.lenOf S)).toArray⟩⟩:=rfl;have aI:Mq.lenOf S<=20->(⟨((S.drop 18).take (Mq.lenOf S)).toArray⟩:z10).size<=20:=λh=>by simp[ByteArray.size];omega
 have aJ:Mq.lenOf S<=20->∀ (y:World) (n cap:Nat),n=Mq.lenOf S->y.heap[w.heap.size]? =some (.cells (bv S).toArray 214 (0,0))->(convert 48 9 (Es w.heap.size 18 n cap)).run prog y=.ok (.string ⟨((S.drop 18).take (Mq.lenOf S)).toArray⟩) y:=by intro hl y n cap hn h;subst hn;refine JX (by simp;omega) (λi hi=>?_);rw[ay y (18+i) (by omega) h];simp[List.getD_eq_getElem?_getD,hi,List.getElem?_drop]
 have ai:=λ(h3:(S.getD 12 0).toNat < 3) (hl:Mq.lenOf S<=20) (y:World)=>y' (NV (Xy S) (Vd S) (S.getD 12 0).toNat (Qh S 14).toNat ⟨((S.drop 18).take (Mq.lenOf S)).toArray⟩ y aW aX (by omega) (by omega) (aI hl));have bb:Xq (Xy S) (Vd S) (Vy S)=Xd (Xy S) (Vd S) (Zd (S.getD 12 0).toNat (Qh S 14).toNat (⟨((S.drop 18).take (Mq.lenOf S)).toArray⟩:z10).data.toList):=rfl;have bc:Mq.lenOf S<=20->(Xq (Xy S) (Vd S) (Vy S)).length=64:=λhl=>Yg (aI hl);have aK:=λ(hl:Mq.lenOf S<=20) y=>TQ (S:=Xq (Xy S) (Vd S) (Vy S)) (T:=S) (bc hl) ac y;have bS:=(S.getD 12 0).toNat_lt;have bT:Mq.lenOf S < 256:=(S.getD 13 0).toNat_lt;rw[ba];rw[<-bb]at ai;clear bb bc aI ay aZ ba aG;obtain⟨b,hb⟩:=exq (⟨((S.drop 18).take (Mq.lenOf S)).toArray⟩:z10);rw[<-hb]at aJ ai ⊢;clear hb;obtain⟨T,bd⟩:=exq (Xq (Xy S) (Vd S) (Vy S));rw[<-bd]at ai aK Y;clear bd;obtain⟨ok,be⟩:=exq (Xx S last);rw[<-be]at Y ⊢;clear be;have bU:(Qh S 14).toNat < 4294967296:=by omega
 clear bz;generalize (Qh S 14).toNat=q,(S.getD 12 0).toNat=sm,Xy S=o,Vd S=c,Mq.lenOf S=H at *;have bA:IntKind.i64.wrap (H:Int)=(H:Int):=by rw[z28];omega
 have aL:=y' Y;have aj:=y' aJ;have aA:=y' ai;have aB:=y' aK;clear Y aW aX aJ ai aK;go_enter func162,ntmps162;go_upto_region 1 with fail;refine G' (λx=>x.heap[w.heap.size]? =some (.cells (bv S).toArray 214 (0,0))/\Eh x (w.heap.size+1) #[Ej 0,Ej 0,.string ⟨#[]⟩] 150/\El w x) (FD _ _ _) ?_;rintro x ⟨h0,h1,F⟩;have aC:=y' h0;have bf:=y' h1;have aM:=y' F;have bg:=z12 h1;clear h0 h1 F;go_upto_region 3 with (first
  |(refine EF rfl (.tmp 2) rfl w.heap.size rfl 214 S ac (d' aC) ?_)
  |(refine EL rfl rfl ?_;go_simp))
 refine Z'
  [Ep w.heap.size 13,Ev (.int .u8 H),Ei H,Ev (Es w.heap.size 14 50 50),Ev (.int .u32 q),Ev (.agg (bv S).toArray),Ev (.agg #[.int .u32 o,.int .u64 c]),
   λv Z=>∃g,v=Er g 0/\w.heap.size+1 < g/\Eh Z g #[.int .u32 0,.int .u64 0] 188,Ei H,Ev (.int .u32 q),Et]
  [[2],[1014],[2015],[2],[4017],[2],[6019],[],[3016],[5018],[8008,7020]] [15,16,17,18,19,20,21,9,7,8,0] [6,3,5,7,42]
  10 _ rfl rfl ?_ ?_ (hst:=by repeat' (first|exact Y' _|exact aa'|exact(λ_ y Z h hb=>h.imp λg h=>⟨h.1,h.2.1,(hb.block _ (z12 h.2.2)).trans h.2.2⟩)|exact trivial|apply z13))
 .refine⟨?_,?_,?_,?_,?_,?_,?_,?_,?_,?_,trivial⟩;all_goals
   intro a' y hb z;have J:=(hb.block _ (by omega:w.heap.size < x.heap.size)).trans (d' aC);have bB:=hb.size;have d13:=d' (az y J);have bC:=ax y J;have ak:=y' J;clear hb J ax aH az;simp[J']at z
  .go_simp;first|exact z11 _ _|exact⟨_,rfl,z11 _ _,rfl⟩
  .go_simp;first|exact z11 _ _|exact⟨_,rfl,z11 _ _,rfl⟩
  .go_simp;first|exact z11 _ _|exact⟨_,rfl,z11 _ _,rfl⟩
  .go_simp;first|exact z11 _ _|exact⟨_,rfl,z11 _ _,rfl⟩
  .go_simp;refine Cm bC ?_;rintro r w1 ⟨rfl,Q⟩;first|exact Q|exact⟨rfl,Q⟩|exact⟨_,rfl,Q,rfl⟩
  rw[if_pos (by rfl)];exact FH (.tmp 2) rfl w.heap.size (by simp[Act.eval,z]) 214 S ac (d' ak) ⟨_,rfl,z11 _ _,rfl⟩
  .go_simp;refine Cm (aV y) ?_;rintro r w1 ⟨rfl,Q⟩;first|exact Q|exact⟨rfl,Q⟩|exact⟨_,rfl,Q,rfl⟩
  .go_simp;exact⟨_,rfl,bna,_,rfl,by omega,z19 _ _⟩
  .go_simp;first|exact z11 _ _|exact⟨_,rfl,z11 _ _,rfl⟩
  go_simp;first|exact z11 _ _|exact⟨_,rfl,z11 _ _,rfl⟩
 intro f y V M;simp only[AJ,List.take]at M;have bh:=M.2.2.2.2.2.2.1;obtain⟨ah,bi,bV,aN⟩:=M.2.2.2.2.2.2.2.1;have bj:=M.2.2.2.2.2.2.2.2.1;have ao:=M.2.2.2.2.2.2.2.2.2.1;have J:=(V.block _ (by omega:w.heap.size < x.heap.size)).trans (d' aC);have ab:=(V.block _ bg).trans (d' bf);have ad:=y' ((d' aM).trans (V.mono (d' aM).size));clear M V;simp only[V',bh,bi,bj,ao];refine RH 188 (.tmp 8) (.tmp 20) rfl ah #[.int .u32 o,.int .u64 c] (by simp[Act.eval]) (by simp[Act.eval]) 188 _ aN (by rw[ZO];rfl) (by simp) (by rw[z43];intro u hu;simp at hu;rcases hu with rfl|rfl <;> rfl) ?_;have bk:=z91 y ah _ #[.int .u32 o,.int .u64 c] 188 (0,0) aN;have hF:=CN y ah #[.int .u32 o,.int .u64 c];generalize f 14=bW;generalize f 15=bX;generalize f 16=bY;generalize f 17=bZ;generalize f 18=ca;generalize f 19=cb;generalize y.setRow ah #[.int .u32 o,.int .u64 c]=Z at *;have z0:=hF.blk J (by omega);have aD:=hF.blk ab (by omega);have bl:=(d' ad).trans (hF.below (d' ad).size (λk bm e=>by omega));clear hF J ab ad aN bh bi bj ao aC bf aM bg aV ax az;have d12:=d' (aH Z z0);clear aH;have aE:=y' z0;have aF:=y' bk;have aq:=y' bl;obtain⟨aO,aP,aQ⟩:=DQ aD;simp at aO aP aQ;have bD:∀i,Z.frozen? ⟨w.heap.size+1,i,none⟩=false:=λi=>H' aD;have aR:=y' aD;clear z0 bk bl aD;go_simp;go_upto_region 4 with fail;have aS:20 < H\/3<=sm\/q < 1\/2147483647 < q->ok=false:=λh=>by rw[d' aL];rcases h with h|h|h|h;rw[z53 (show ¬H<=20 by omega)];simp;rw[z53 (show ¬sm < 3 by omega)];simp;rw[z53 (show ¬1<=q by omega)];simp;rw[z53 (show ¬q<=2147483647 by omega)];simp
 have aS:=y' aS;rcases(by omega:20 < (H:Int)\/¬20 < (H:Int)/\3<=(sm:Int)\/¬20 < (H:Int)/\¬3<=(sm:Int)/\(q:Int) < 1\/¬20 < (H:Int)/\¬3<=(sm:Int)/\¬ (q:Int) < 1/\2147483647 < (q:Int)\/¬20 < (H:Int)/\¬3<=(sm:Int)/\¬ (q:Int) < 1/\¬2147483647 < (q:Int))with c1|⟨c1,c2⟩|⟨c1,c2,c3⟩|⟨c1,c2,c3,c4⟩|⟨c1,c2,c3,c4⟩;rotate_right
 .have aT:H<=20:=by omega
  have aj:=y' ((d' aj) aT);have aA:=y' ((d' aA) (by omega) aT);have aB:=y' ((d' aB) aT);go_upto_region 6 with fail;have bE:=z12 (d' aF);have bF:=z12 (d' aR);have w1:IntKind.i64.wrap (18+(H:Int))=18+(H:Int):=by rw[z28];omega
  have bG:IntKind.i64.wrap (sm:Int)=(sm:Int):=by rw[z28];omega
  have bH:IntKind.i64.wrap (q:Int)=(q:Int):=by rw[z28];omega
  have bI:(18:Int)<=18+(H:Int):=by omega
  have bJ:18+(H:Int)<=64:=by omega
  have i3:(0:Int)<=18+(H:Int):=by omega
  have i4:(18+(H:Int)).toNat=18+H:=by omega
  refine Z'
   [Ep w.heap.size 12,Ev (.int .u8 sm),Ei sm,Ev (.int .u32 q),Ei q,Ei H,Ei (18+(H:Int)),Ev (Es w.heap.size 18 H 46),Ev (.string b),Ev (.agg #[Ej sm,Ej q,.string b]),
    λv y=>∃g,v=Er g 0/\Z.heap.size<=g/\Eh y g #[Ej 0,Ej 0,.string ⟨#[]⟩] 150,Et]
   [[2],[1037],[2038],[7],[4040],[6],[6042],[2,7043],[8044],[3039,5041,9045],[],[11009,10046]] [38,39,40,41,42,43,44,45,46,47,10,0] [9,1,27,10,16]
   11 _ rfl rfl ?_ ?_ (hst:=by repeat' (first|exact Y' _|exact aa'|exact(λ_ y Z h hb=>h.imp λg h=>⟨h.1,h.2.1,(hb.block _ (z12 h.2.2)).trans h.2.2⟩)|exact(λ_ _ _ h _=>h)|exact trivial|apply z13))
  .refine⟨?_,?_,?_,?_,?_,?_,?_,?_,?_,?_,?_,trivial⟩;all_goals
    intro a' y hb z;have J:=(hb.block _ (by omega:w.heap.size < Z.heap.size)).trans (d' aE);have d12:=Bc hb (by show w.heap.size < _;omega) d12;have bB:=hb.size;have ak:=y' J;clear hb J;simp[J']at z
   iterate 7
    .go_simp;first|exact z11 _ _|exact⟨_,rfl,z11 _ _,rfl⟩
   .go_simp;first|exact z11 _ _|exact⟨_,rfl,z11 _ _,rfl⟩
   .have cc:=(d' aj) y H 46 rfl (d' ak);go_simp;first|exact z11 _ _|exact⟨_,rfl,z11 _ _,rfl⟩
   .go_simp;first|exact z11 _ _|exact⟨_,rfl,z11 _ _,rfl⟩
   go_simp;exact⟨_,rfl,bna,_,rfl,by omega,z19 _ _⟩
  intro f y V M;simp only[AJ,List.take]at M;have ao:=M.2.2.2.2.2.2.2.2.2.1;obtain⟨au,bn,cd,aU⟩:=M.2.2.2.2.2.2.2.2.2.2.1;have J:=(V.block _ (by omega:w.heap.size < Z.heap.size)).trans (d' aE);have ab:=(V.block _ bF).trans (d' aR);have av:=(V.block _ bE).trans (d' aF);have ad:=y' ((d' aq).trans (V.mono (d' aq).size));have ce:=(d' aq).size;clear M V;simp only[V',ao,bn];refine RH 150 (.tmp 9) (.tmp 46) rfl au #[Ej sm,Ej q,.string b] (by simp[Act.eval]) (by simp[Act.eval]) 150 _ aU (by rw[qB];rfl) (by simp) (by rw[z43];intro u hu;simp at hu;rcases hu with rfl|rfl|rfl <;> rfl) ?_;have bo:=z91 y au _ #[Ej sm,Ej q,.string b] 150 (0,0) aU;have hF:=CN y au #[Ej sm,Ej q,.string b];generalize f 37=cf;generalize f 38=cg;generalize f 39=ch;generalize f 40=ci;generalize f 41=cj;generalize f 42=ck;generalize f 43=cl;generalize f 44=cm;generalize f 45=cn;generalize y.setRow au #[Ej sm,Ej q,.string b]=u at *;have u0:=hF.blk J (by omega);have u1:=hF.blk ab (by omega);have u8:=hF.blk av (by omega);have bp:=(d' ad).trans (hF.below (d' ad).size (λk bm e=>by omega));clear hF J ab av ad aU ao bn aE aR aF aq d12 aO aP aQ bD aj bI bJ i3 i4 w1 bG bH bA;have bK:=y' u0;have bL:=y' u1;have bM:=y' u8;have bN:=y' bo;have bq:=y' bp;clear u0 u1 u8 bo bp;go_simp;go_upto_region 7 with fail;have Y:ok=(Qq o&& (decide (o<=last) &&decide (T=S))):=by rw[d' aL,z49 (show H<=20 by omega),z49 (show sm < 3 by omega),z49 (show 1<=q by omega),z49 (show q<=2147483647 by omega)];simp only[Bool.true_and]
  have bO:(Qq o=false/\ok=false)\/(Qq o=true/\decide (o<=last)=true/\(o:Int)<=(last:Int)/\ok=decide (T=S))\/(Qq o=true/\decide (o<=last)=false/\¬ (o:Int)<=(last:Int)/\ok=false):=by cases h:Qq o;exact .inl ⟨rfl,by rw[Y,h];rfl⟩;by_cases h2:o<=last;exact .inr (.inl ⟨rfl,z49 h2,by omega,by rw[Y,h,z49 h2];rfl⟩);exact .inr (.inr ⟨rfl,z53 h2,by omega,by rw[Y,h,z53 h2];rfl⟩)
  clear Y;obtain⟨cp,br⟩:=exq (decide (o<=last));rcases bO with ⟨G,I⟩|⟨G,F,bP,I⟩|⟨G,F,bP,I⟩
  case' inl=>have F:=br.symm
  all_goals
   have cq:=y' I;clear br;refine AH
    [Ev (.agg #[Ej sm,Ej q,.string b]),Ev (.agg #[.int .u32 o,.int .u64 c]),Eb (Qq o),Eb (Qq o),λv _=>Qq o=true->v=Er ah 0,λv _=>Qq o=true->v=.int .u32 o,λv _=>Qq o=true->v=.int .u32 last,λv _=>Qq o=true->v=.bool (decide (o<=last)),Eb (Qq o&&decide (o<=last)),Eb (Qq o&&decide (o<=last)),λv _=>(Qq o&&decide (o<=last))=true->v=.agg #[.int .u32 o,.int .u64 c],λv _=>(Qq o&&decide (o<=last))=true->v=.agg #[Ej sm,Ej q,.string b],λv _=>(Qq o&&decide (o<=last))=true->v=.agg (bv T).toArray,λv _=>(Qq o&&decide (o<=last))=true->v=.agg (bv S).toArray,λv _=>(Qq o&&decide (o<=last))=true->v=.bool (decide (T=S)),Eb ok,λ_ y=>Eh y (w.heap.size+1) #[Ej sm,Ej q,.string b] 150,Eb ok]
    [[9],[8],[2048],[3049],[8,4050],[5051,4050],[1,4050],[6052,7053,4050],[4050,8054],[9055],[8,10056],[9,10056],[11057,12058,10056],[2,10056],[13059,14060,10056],[10056,15061],[4,1047],[16062]] [48,49,50,51,52,53,54,55,56,57,58,59,60,61,62,63,0,6] [5,1,41,16]
    [(16,λk=>k=w.heap.size+1)] ?_ ?_ (hst:=by repeat' (first|exact Y' _|exact(λ_ _ _ h _=>h)|exact ac' _ _|exact trivial|apply z13)) (hstF:=by repeat' (first|exact trivial|exact .inl rfl|exact .inr (.inr (ab' _ _))|exact .inr (.inr (λ_ _ _ h _=>h))|apply z13))
   .refine⟨?_,?_,?_,?_,?_,?_,?_,?_,?_,?_,?_,?_,?_,?_,?_,?_,?_,?_,trivial⟩;all_goals
     intro a' y hb z;have J:=hb.blk (d' bK) (AS (by intro (e:w.heap.size=w.heap.size+1);omega));have av:=hb.blk (d' bM) (AS (by intro (e:ah=w.heap.size+1);omega));have bt:=hb.blk (d' bN) (AS (by intro (e:au=w.heap.size+1);omega));obtain⟨cr,cs⟩:=LG av;obtain⟨r0,cu,cv⟩:=PM bt;have ak:=y' J;clear J av bt;simp[J',G,F]at z
    iterate 2
     .clear hb;go_simp;first|exact Far.refl _ _|exact⟨_,rfl,Far.refl _ _,rfl⟩|exact⟨_,rfl,Far.refl _ _,by simp[G,F,I]⟩|simp[G,F,I,Far.refl]
    .clear hb;go_simp;refine Cm (aY y) ?_;rintro r w1 ⟨rfl,Q⟩;exact⟨_,rfl,I' Q,by first|rfl|(rw[G];rfl)⟩
    .clear hb;go_simp;first|exact Far.refl _ _|exact⟨_,rfl,Far.refl _ _,rfl⟩|exact⟨_,rfl,Far.refl _ _,by simp[G,F,I]⟩|simp[G,F,I,Far.refl]
    iterate 4
     .clear hb;first
       |(have aa:a'.tmps[50]? =some (.bool false):=JM (by first|exact z|exact z.2|exact z.2.2)
         go_simp;try simp[G,F])
       |(have aa:a'.tmps[50]? =some (.bool true):=JM (by first|exact z|exact z.2|exact z.2.2)
         go_simp;first|exact Far.refl _ _|exact⟨_,rfl,Far.refl _ _,rfl⟩|exact⟨_,rfl,Far.refl _ _,by simp[G,F,I]⟩|simp[G,F,I,Far.refl])
    iterate 2
     .clear hb;go_simp;first|exact Far.refl _ _|exact⟨_,rfl,Far.refl _ _,rfl⟩|exact⟨_,rfl,Far.refl _ _,by simp[G,F,I]⟩|simp[G,F,I,Far.refl]
    iterate 2
     .clear hb;first
       |(have aa:a'.tmps[56]? =some (.bool false):=JM (by first|exact z|exact z.2|exact z.2.2)
         go_simp;try simp[G,F])
       |(have aa:a'.tmps[56]? =some (.bool true):=JM (by first|exact z|exact z.2|exact z.2.2)
         go_simp;first|exact Far.refl _ _|exact⟨_,rfl,Far.refl _ _,rfl⟩|exact⟨_,rfl,Far.refl _ _,by simp[G,F,I]⟩|simp[G,F,I,Far.refl])
    .clear hb;first
      |(have aa:a'.tmps[56]? =some (.bool false):=JM (by first|exact z|exact z.2|exact z.2.2)
        go_simp;try simp[G,F])
      |(have aa:a'.tmps[56]? =some (.bool true):=JM (by first|exact z|exact z.2|exact z.2.2)
        go_simp;refine Cm ((d' aA) y) ?_;rintro r w1 ⟨rfl,Q⟩;exact⟨_,rfl,I' Q,by first|rfl|exactλ_=>rfl⟩)
    .clear hb;first
      |(have aa:a'.tmps[56]? =some (.bool false):=JM (by first|exact z|exact z.2|exact z.2.2)
        go_simp;try simp[G,F])
      |(have aa:a'.tmps[56]? =some (.bool true):=JM (by first|exact z|exact z.2|exact z.2.2)
        rw[if_pos (by go_simp)];exact FH (.tmp 2) rfl w.heap.size (by simp[Act.eval,z]) 214 S ac (d' ak) ⟨_,rfl,Far.refl _ _,by first|rfl|exactλ_=>rfl⟩)
    .clear hb;have cw:=(d' aB) y;first
      |(have aa:a'.tmps[56]? =some (.bool false):=JM (by first|exact z|exact z.2|exact z.2.2)
        go_simp;try simp[G,F])
      |(have aa:a'.tmps[56]? =some (.bool true):=JM (by first|exact z|exact z.2|exact z.2.2)
        go_simp;first|exact Far.refl _ _|exact⟨_,rfl,Far.refl _ _,rfl⟩|exact⟨_,rfl,Far.refl _ _,by simp[G,F,I]⟩|simp[G,F,I,Far.refl])
    .clear hb;go_simp;first|exact Far.refl _ _|exact⟨_,rfl,Far.refl _ _,rfl⟩|exact⟨_,rfl,Far.refl _ _,by simp[G,F,I]⟩|simp[G,F,I,Far.refl]
    have ab:=hb.blk (d' bL) DG;clear hb;rw[if_pos (by rfl)];refine RH 150 (.tmp 4) (.tmp 47) rfl (w.heap.size+1) #[Ej sm,Ej q,.string b] (by simp[Act.eval,z]) (by simp[Act.eval,z]) 150 _ ab (by rw[qB];rfl) (by simp) (by rw[z43];intro u hu;simp at hu;rcases hu with rfl|rfl|rfl <;> rfl) ?_;exact⟨_,rfl,AQ (.head _) (CN _ _ _),z91 _ _ _ _ _ _ ab⟩;clear hb;go_simp;first|exact Far.refl _ _|exact⟨_,rfl,Far.refl _ _,rfl⟩|exact⟨_,rfl,Far.refl _ _,by simp[G,F,I]⟩|simp[G,F,I,Far.refl]
   .intro f y hF M;have bu:=M.2.2.2.2.2.2.2.2.2.2.2.2.2.2.2.2.1;have bQ:=M.2.2.2.2.2.2.2.2.2.2.2.2.2.2.2.2.2.1;obtain⟨k0,k1,k2⟩:=PM bu;have bR:=y' ((d' bq).trans ((IH hF).below (d' bq).size (λk bm (h:k=w.heap.size+1)=>by omega)));clear M hF bu I G F;simp only[V',bQ];go_simp;go_wp2;refine z47 (v:=.tuple #[.agg #[Ej sm,Ej q,.string b],.bool ok]) (by simp[results,results162,go_sem,k0,k1,k2]) rfl ⟨⟨sm,q,b⟩,rfl,(λ_=>rfl),d' bR⟩
 all_goals
  clear aj aA aB aY aE aF aL;go_wp2;have I:=(d' aS) (by omega);refine z47 (v:=.tuple #[.agg #[Ej 0,Ej 0,.string ⟨#[]⟩],.bool false]) (by simp[results,results162,go_sem,aO,aP,aQ]) rfl ⟨⟨0,0,⟨#[]⟩⟩,(by rw[I];rfl),(λh=>(by rw[I]at h;cases h)),?_⟩;exact(((d' aq).setCell (p:=⟨w.heap.size+1,0,none⟩) (by simp) _).setCell (p:=⟨w.heap.size+1,1,none⟩) (by simp) _).setCell (p:=⟨w.heap.size+1,2,none⟩) (by simp) _
theorem uJ (o c a b d:Nat) (F:o≠0) (w:World):(Op.equalIn 10000 199 (.agg #[.int .u32 o,.int .u64 c,Ej a,Ej b,Ej d]) (.agg #[.int .u32 0,.int .u64 0,Ej 0,Ej 0,Ej 0])).run prog w=.ok false w:=by
 have z:((o:Int) ==0)=false:=by simp;omega
 rw[run_equalIn_struct w 9999 199 _ _ (by kernel_rfl) (by kernel_rfl)];simp[go_sem,z]
theorem yU (h g:Hd):newer h.o h.c g.o g.c=Vo h g:=rfl
def Di (L:List UInt8) (w:World) (r:Ending) (w':World):Prop:=
 ∃ (h:Hd) (k:Nat),r=.returned (.tuple #[PE h,Ej k,.bool (Mq.Xk L).isSome])/\(∀z F,Mq.Xk L=some (z,F)->h=z/\k=F)/\El w w'
theorem ZP (h:Mq.Xk r=none) (h2:Hd) (k:Nat) (hb:El p f):Di r p (.returned (.tuple #[PE h2,Ej k,.bool false])) f:=
 ⟨h2,k,(by rw[h];rfl),(λz F e=>(by rw[h]at e;cases e)),hb⟩
theorem UF {h2:Hd} (h:Mq.Xk r=some (h2,w)) (hb:El p f):Di r p (.returned (.tuple #[PE h2,Ej w,.bool true])) f:=
 ⟨h2,w,(by rw[h];rfl),(λz F e=>(by rw[h]at e;cases e;exact⟨rfl,rfl⟩)),hb⟩
theorem MU (hb:El p f) (z:p.heap.size<=w) (a b c d e:Value):El p (((((f.setCell ⟨w,0,none⟩ a).setCell ⟨w,1,none⟩ b).setCell ⟨w,2,none⟩ c).setCell ⟨w,3,none⟩ d).setCell ⟨w,4,none⟩ e):=
 ((((hb.setCell (p:=⟨w,0,none⟩) z _).setCell (p:=⟨w,1,none⟩) z _).setCell (p:=⟨w,2,none⟩) z _).setCell (p:=⟨w,3,none⟩) z _).setCell (p:=⟨w,4,none⟩) z _
theorem ZQ (w:World) (v:Value) (L:List UInt8) (bw:Qk w v L) (bY:128<=L.length) (bH:L.length<=10000):
  Cp 111 #[v] w (Di L w):=by
 have aY:=λ(k:Nat) (aZ:64 * k+64<=L.length) y (hb:El w y)=>y' (RS y v L k (bw.below hb) aZ bH);have ba:=aY 0 (by omega);have bb:=aY 1 (by omega);have bc:=λy=>y' (SF (Mq.sec L 0) (Wc (by omega)) y);have bd:=λy=>y' (SF (Mq.sec L 1) (Wc (by omega)) y);have aL:Mq.Xk L=if Xb (Mq.sec L 0)=true/\Xb (Mq.sec L 1)=true then
  if Vo (Qo (Mq.sec L 1)) (Qo (Mq.sec L 0))=true then some (Qo (Mq.sec L 1),1)
  else if Vo (Qo (Mq.sec L 0)) (Qo (Mq.sec L 1))=true then some (Qo (Mq.sec L 0),0)
  else if(Qo (Mq.sec L 0)).o=0/\(Qo (Mq.sec L 1)).o=0 then some (Mq.hd0,0)else none
 else none:=rfl
 have be:Xb (Mq.sec L 0)=true->(Qo (Mq.sec L 0)).o=0->Qo (Mq.sec L 0)=Mq.hd0:=λh e=>by rcases Vf h with ⟨_,ac⟩|⟨ac,_⟩;exact ac;rw[e]at ac;cases ac
 have aC:Xb (Mq.sec L 1)=true->(Qo (Mq.sec L 1)).o=0->Qo (Mq.sec L 1)=Mq.hd0:=λh e=>by rcases Vf h with ⟨_,ac⟩|⟨ac,_⟩;exact ac;rw[e]at ac;cases ac
 obtain⟨bf,aM⟩:=exq (Mq.sec L 0);obtain⟨bg,aN⟩:=exq (Mq.sec L 1);unfold Mq.sec at aM aN;rw[<-aM]at ba;rw[<-aN]at bb;have aO:Mq.sec L 0=bf:=aM.symm;have aP:Mq.sec L 1=bg:=aN.symm;rw[aO]at bc aL be;rw[aP]at bd aL aC;clear aY aM aN aO aP bw;generalize Xb bf=k0,Xb bg=k1,Qo bf=bI,Qo bg=bJ at *;have au:=y' aL;have av:=y' be;have ay:=y' aC;clear aL be aC;go_enter func111,ntmps111;go_upto_region 2 with (first
  |(go_at_call 160;refine Cm (ba _ bna) ?_;rintro r y ⟨rfl,aQ⟩)
  |(go_at_call 159;refine Cm (bc _) ?_;rintro r bh ⟨f,rfl,bz,aR⟩;unfold PE))
 have aE:=y' bz;clear bz;have aC:=aQ.size;have bK:=aR.size;simp only[World.size_alloc]at aC;have bA:Eh bh w.heap.size #[.int .u32 0,.int .u64 0,Ej 0,Ej 0,Ej 0] 199:=(aR.block _ (by omega)).trans ((aQ.block _ (by simp)).trans (z19 w _));have bB:El w bh:=(bna.trans (aQ.mono (by simp))).trans (aR.mono (by omega));obtain⟨G,bi⟩:=exq (bh.heap.size);rw[<-bi];refine G' (λx=>Eh x w.heap.size #[.int .u32 0,.int .u64 0,Ej 0,Ej 0,Ej 0] 199/\Eh x G #[.int .u32 f.o,.int .u64 f.c,Ej f.a,Ej f.b,Ej f.d] 199/\El w x) ?_ ?_;exact⟨(hao _ _ (by omega)).trans bA,by rw[bi];exact z19 _ _,bB.alloc (by omega) _⟩;have bZ:w.heap.size < G:=by omega
 clear bA bB aC bK aQ aR bi;rintro x ⟨h0,h5,aF⟩;have ad:=y' h0;have J:=y' h5;have I:=y' aF;have bL:=z12 h5;clear h0 h5 aF;go_upto_region 3 with (first
  |(go_at_call 160;refine Cm (bb x (d' I)) ?_;rintro r ca ⟨rfl,bj⟩)
  |(go_at_call 159;refine Cm (bd _) ?_;rintro r bC ⟨s,rfl,bD,bk⟩;unfold PE))
 have aG:=y' bD;have bE:=bj.size;have bM:=bk.size;obtain⟨H,bl⟩:=exq (bC.heap.size);rw[<-bl];refine G' (λx=>Eh x w.heap.size #[.int .u32 0,.int .u64 0,Ej 0,Ej 0,Ej 0] 199/\Eh x G #[.int .u32 f.o,.int .u64 f.c,Ej f.a,Ej f.b,Ej f.d] 199/\Eh x H #[.int .u32 s.o,.int .u64 s.c,Ej s.a,Ej s.b,Ej s.d] 199/\El w x) ?_ ?_;have hb:El x bC:=bj.trans (bk.mono bE);exact⟨(hao _ _ (by omega)).trans ((hb.block _ (by omega)).trans (d' ad)),(hao _ _ (by omega)).trans ((hb.block _ (by omega)).trans (d' J)),by rw[bl];exact z19 _ _,((d' I).trans (hb.mono (by omega))).alloc (by omega) _⟩;have cb:G < H:=by omega
 clear ad J I bj bk bE bM bl bL bD ba bb bc bd;rintro bm ⟨h0,h5,aS,aF⟩;obtain⟨M,Q,V,Y,Z⟩:=GW h0;have aH:∀i,bm.frozen? ⟨w.heap.size,i,none⟩=false:=λi=>H' h0;obtain⟨ah,ai⟩:=LG h5;obtain⟨aj,ak⟩:=LG aS;have ad:=y' h0;have J:=y' h5;have ao:=y' aS;have I:=y' aF;have cc:=z12 aS;clear h0 h5 aS aF;cases k0 with
 |false=>clear aE aG av ay ah ai aj ak J ao;go_wp2;refine z47 (v:=.tuple #[.agg #[.int .u32 0,.int .u64 0,Ej 0,Ej 0,Ej 0],Ej 0,.bool false]) (by simp[results,results111,go_sem,M,Q,V,Y,Z]) rfl ?_;exact ZP (by rw[d' au];simp) Mq.hd0 0 (MU (d' I) (z16 _) _ _ _ _ _)
 |true=>
  obtain rfl:f=bI:=(d' aE) rfl;cases k1 with
  |false=>clear aE aG av ay ah ai aj ak J ao;go_wp2;refine z47 (v:=.tuple #[.agg #[.int .u32 0,.int .u64 0,Ej 0,Ej 0,Ej 0],Ej 0,.bool false]) (by simp[results,results111,go_sem,M,Q,V,Y,Z]) rfl ?_;exact ZP (by rw[d' au];simp) Mq.hd0 0 (MU (d' I) (z16 _) _ _ _ _ _)
  |true=>
   obtain rfl:s=bJ:=(d' aG) rfl;have az:=λy=>y' (VJ s.o s.c f.o f.c y);have aD:=λy=>y' (VJ f.o f.c s.o s.c y);rw[yU]at az aD;cases n1:Vo s f with
   |true=>
    go_upto_region 6 with (go_at_call 161;refine Cm (az _) ?_;rw[n1];rintro r bn ⟨rfl,F⟩)
    have bF:=F.size;have aA:=(F.block _ (by omega)).trans (d' ad);have aT:=(F.block _ (by omega)).trans (d' J);have aU:=(F.block _ (by omega)).trans (d' ao);have ax:=y' ((d' I).trans (F.mono (d' I).size));clear F ah ai aj ak M Q V Y Z aH az aD av ay;obtain⟨aO,aP,ac,bN,bO⟩:=GW aU;obtain⟨M,Q,V,Y,Z⟩:=GW aA;have aH:∀i,bn.frozen? ⟨w.heap.size,i,none⟩=false:=λi=>H' aA;clear aA aT aU ad J ao I;have aV:=y' n1;clear n1;go_wp2;refine z47 (v:=.tuple #[.agg #[.int .u32 s.o,.int .u64 s.c,Ej s.a,Ej s.b,Ej s.d],Ej 1,.bool true]) (by simp[results,results111,go_sem,M,Q,V,Y,Z]) rfl ?_;exact UF (by rw[d' au,d' aV];simp) (MU (d' ax) (z16 _) _ _ _ _ _)
   |false=>
    cases n2:Vo f s with
    |true=>
     go_upto_region 7 with (go_at_call 161;refine Cm (az _) ?_;rw[n1];rintro r bn ⟨rfl,F⟩)
     have ah:=Bc F (by show G < _;omega) ah;have ai:=Bc F (by show G < _;omega) ai;have aj:=Bc F (by show H < _;omega) aj;have ak:=Bc F (by show H < _;omega) ak;have bo:=F.size;have aI:=y' F;clear F;go_upto_region 8 with (go_at_call 161;refine Cm (aD _) ?_;rw[n2];rintro r aW ⟨rfl,aJ⟩);have hb:El bm aW:=(d' aI).trans (aJ.mono bo);clear aJ aI;have bF:=hb.size;have aA:=(hb.block _ (by omega)).trans (d' ad);have aT:=(hb.block _ (by omega)).trans (d' J);have aU:=(hb.block _ (by omega)).trans (d' ao);have ax:=y' ((d' I).trans (hb.mono (d' I).size));clear hb ah ai aj ak M Q V Y Z aH az aD av ay;obtain⟨aO,aP,ac,bN,bO⟩:=GW aT;obtain⟨M,Q,V,Y,Z⟩:=GW aA;have aH:∀i,aW.frozen? ⟨w.heap.size,i,none⟩=false:=λi=>H' aA;clear aA aT aU ad J ao I;have aV:=y' (z13 n1 n2);clear n1 n2;go_wp2;refine z47 (v:=.tuple #[.agg #[.int .u32 f.o,.int .u64 f.c,Ej f.a,Ej f.b,Ej f.d],Ej 0,.bool true]) (by simp[results,results111,go_sem,M,Q,V,Y,Z]) rfl ?_;exact UF (by rw[d' au,(d' aV).1,(d' aV).2];simp) (MU (d' ax) (z16 _) _ _ _ _ _)
    |false=>
     go_upto_region 7 with (go_at_call 161;refine Cm (az _) ?_;rw[n1];rintro r bn ⟨rfl,F⟩)
     have ah:=Bc F (by show G < _;omega) ah;have ai:=Bc F (by show G < _;omega) ai;have aj:=Bc F (by show H < _;omega) aj;have ak:=Bc F (by show H < _;omega) ak;have bo:=F.size;have aI:=y' F;clear F;go_upto_region 9 with (go_at_call 161;refine Cm (aD _) ?_;rw[n2];rintro r aW ⟨rfl,aJ⟩);have hb:El bm aW:=(d' aI).trans (aJ.mono bo);clear aJ aI;have bF:=hb.size;have ad:=y' ((hb.block _ (by omega)).trans (d' ad));have J:=y' ((hb.block _ (by omega)).trans (d' J));have ao:=y' ((hb.block _ (by omega)).trans (d' ao));have ax:=y' ((d' I).trans (hb.mono (d' I).size));clear hb ah ai aj ak M Q V Y Z aH az aD I;by_cases aB:f.o=0
     .have bp:s.o=0:=(by have aX:=(d' av) (by trivial) aB;rw[aX]at n1;unfold Vo Mq.hd0 at n1;simp only at n1;by_cases h:s.o=0;exact h;rw[if_pos h,z49 (by omega)]at n1;cases n1);have aX:=(d' av) (by trivial) aB;have bG:=(d' ay) (by trivial) bp;have bq:Hid (Mq.Xk L=some (Mq.hd0,0)):=(by show _= _;rw[d' au,n1,n2];simp[aB,bp]);rw[aX]at J;rw[bG]at ao;clear au av ay aE aG n1 n2 aX bG aB bp;have bP:∀y:World,(Op.equalIn 10000 199 (.agg #[.int .u32 0,.int .u64 0,Ej 0,Ej 0,Ej 0]) (.agg #[.int .u32 0,.int .u64 0,Ej 0,Ej 0,Ej 0])).run prog y=.ok true y:=λy=>(by kernel_rfl);refine AH
       [Ev (.agg #[.int .u32 0,.int .u64 0,Ej 0,Ej 0,Ej 0]),Ev (.agg #[.int .u32 0,.int .u64 0,Ej 0,Ej 0,Ej 0]),Ev (.agg #[.int .u32 0,.int .u64 0,Ej 0,Ej 0,Ej 0]),Eb true,Eb true,Ev (.agg #[.int .u32 0,.int .u64 0,Ej 0,Ej 0,Ej 0]),Ev (.agg #[.int .u32 0,.int .u64 0,Ej 0,Ej 0,Ej 0]),Eb true,Eb true,λ_ z=>Eh z w.heap.size #[.int .u32 0,.int .u64 0,Ej 0,Ej 0,Ej 0] 199,Ei 0,Eb true]
       [[],[5],[],[2044,3045],[4046],[7,5047],[5047],[6048,7049,5047],[5047,8050],[2,1043],[],[9051]] [44,45,46,47,48,49,50,51,52,0,4,5] [3,2,38,9]
       [(9,λk=>k=w.heap.size)] ?_ ?_ (hst:=by repeat' (first|exact Y' _|exact aa'|exact ac' _ _|exact trivial|apply z13))
      .refine⟨?_,?_,?_,?_,?_,?_,?_,?_,?_,?_,?_,?_,trivial⟩;all_goals
        intro a z hb aa;have z5:=hb.blk (d' J) (AS (by intro (e:G=w.heap.size);omega));have ab:=hb.blk (d' ao) (AS (by intro (e:H=w.heap.size);omega));have ah:z.cell? (Ea G 0)=some (.int .u32 0):=Bi 0 z5;have aj:z.cell? (Ea H 0)=some (.int .u32 0):=Bi 0 ab;have ai:z.cell? (Ea G 1)=some (.int .u64 0):=Bi 1 z5;have ak:z.cell? (Ea H 1)=some (.int .u64 0):=Bi 1 ab;have bQ:z.cell? (Ea G 2)=some (Ej 0):=Bi 2 z5;have bR:z.cell? (Ea H 2)=some (Ej 0):=Bi 2 ab;have bS:z.cell? (Ea G 3)=some (Ej 0):=Bi 3 z5;have bT:z.cell? (Ea H 3)=some (Ej 0):=Bi 3 ab;have bU:z.cell? (Ea G 4)=some (Ej 0):=Bi 4 z5;have bV:z.cell? (Ea H 4)=some (Ej 0):=Bi 4 ab;clear z5 ab;simp[J']at aa
       iterate 5
        .clear hb;go_simp;exact⟨_,rfl,Far.refl _ _,rfl⟩
       iterate 3
        .clear hb;have bW:a.tmps[47]? =some (.bool true):=JM (by first|exact aa|exact aa.2|exact aa.2.2);go_simp;exact⟨_,rfl,Far.refl _ _,rfl⟩
       .clear hb;go_simp;exact⟨_,rfl,Far.refl _ _,rfl⟩
       have z0:=hb.blk (d' ad) DG;clear hb;rw[if_pos (by rfl)];refine RH 199 (.tmp 2) (.tmp 43) rfl w.heap.size #[.int .u32 0,.int .u64 0,Ej 0,Ej 0,Ej 0] (by simp[Act.eval,aa]) (by simp[Act.eval,aa]) 199 _ z0 (by rw[TX];rfl) (by simp) (by rw[z43];intro u hu;simp at hu;rcases hu with rfl|rfl|rfl <;> rfl) ?_;exact⟨_,rfl,AQ (.head _) (CN _ _ _),z91 _ _ _ _ _ _ z0⟩;iterate 2
        .clear hb;go_simp;exact⟨_,rfl,Far.refl _ _,rfl⟩
      intro bX z hF aq;have aK:=aq.2.2.2.2.2.2.2.2.2.1;have br:=aq.2.2.2.2.2.2.2.2.2.2.1;have bt:=aq.2.2.2.2.2.2.2.2.2.2.2.1;obtain⟨M,Q,V,Y,Z⟩:=GW aK;have bu:=y' ((d' ax).trans ((IH hF).below (d' ax).size (λk aZ (h:k=w.heap.size)=>by omega)));clear aq hF aK;simp only[V',br,bt];go_simp;go_wp2;refine z47 (v:=.tuple #[.agg #[.int .u32 0,.int .u64 0,Ej 0,Ej 0,Ej 0],Ej 0,.bool true]) (by simp[results,results111,go_sem,M,Q,V,Y,Z]) rfl ?_;exact UF (h2:=Mq.hd0) (d' bq) (d' bu)
     .have bq:Hid (Mq.Xk L=none):=(by show _= _;rw[d' au,n1,n2];simp[aB]);have bP:=λy=>uJ f.o f.c f.a f.b f.d aB y;clear au av ay aE aG n1 n2 aB;refine AH
       [Ev (.agg #[.int .u32 0,.int .u64 0,Ej 0,Ej 0,Ej 0]),Ev (.agg #[.int .u32 f.o,.int .u64 f.c,Ej f.a,Ej f.b,Ej f.d]),Ev (.agg #[.int .u32 0,.int .u64 0,Ej 0,Ej 0,Ej 0]),Eb false,Eb false,Et,Et,Et,Eb false,λ_ z=>Eh z w.heap.size #[.int .u32 0,.int .u64 0,Ej 0,Ej 0,Ej 0] 199,Ei 0,Eb false]
       [[],[5],[],[2044,3045],[4046],[7,5047],[5047],[6048,7049,5047],[5047,8050],[2,1043],[],[9051]] [44,45,46,47,48,49,50,51,52,0,4,5] [3,2,38,9]
       [(9,λk=>k=w.heap.size)] ?_ ?_ (hst:=by repeat' (first|exact Y' _|exact aa'|exact ac' _ _|exact trivial|apply z13))
      .refine⟨?_,?_,?_,?_,?_,?_,?_,?_,?_,?_,?_,?_,trivial⟩;all_goals
        intro a z hb aa;have z5:=hb.blk (d' J) (AS (by intro (e:G=w.heap.size);omega));have ab:=hb.blk (d' ao) (AS (by intro (e:H=w.heap.size);omega));have ah:z.cell? (Ea G 0)=some (.int .u32 f.o):=Bi 0 z5;have aj:z.cell? (Ea H 0)=some (.int .u32 s.o):=Bi 0 ab;have ai:z.cell? (Ea G 1)=some (.int .u64 f.c):=Bi 1 z5;have ak:z.cell? (Ea H 1)=some (.int .u64 s.c):=Bi 1 ab;have bQ:z.cell? (Ea G 2)=some (Ej f.a):=Bi 2 z5;have bR:z.cell? (Ea H 2)=some (Ej s.a):=Bi 2 ab;have bS:z.cell? (Ea G 3)=some (Ej f.b):=Bi 3 z5;have bT:z.cell? (Ea H 3)=some (Ej s.b):=Bi 3 ab;have bU:z.cell? (Ea G 4)=some (Ej f.d):=Bi 4 z5;have bV:z.cell? (Ea H 4)=some (Ej s.d):=Bi 4 ab;clear z5 ab;simp[J']at aa
       iterate 5
        .clear hb;go_simp;exact⟨_,rfl,Far.refl _ _,rfl⟩
       iterate 3
        .clear hb;have bW:a.tmps[47]? =some (.bool false):=JM (by first|exact aa|exact aa.2|exact aa.2.2);go_simp;try trivial
       .clear hb;go_simp;exact⟨_,rfl,Far.refl _ _,rfl⟩
       have z0:=hb.blk (d' ad) DG;clear hb;rw[if_pos (by rfl)];refine RH 199 (.tmp 2) (.tmp 43) rfl w.heap.size #[.int .u32 0,.int .u64 0,Ej 0,Ej 0,Ej 0] (by simp[Act.eval,aa]) (by simp[Act.eval,aa]) 199 _ z0 (by rw[TX];rfl) (by simp) (by rw[z43];intro u hu;simp at hu;rcases hu with rfl|rfl|rfl <;> rfl) ?_;exact⟨_,rfl,AQ (.head _) (CN _ _ _),z91 _ _ _ _ _ _ z0⟩;iterate 2
        .clear hb;go_simp;exact⟨_,rfl,Far.refl _ _,rfl⟩
      intro bX z hF aq;have aK:=aq.2.2.2.2.2.2.2.2.2.1;have br:=aq.2.2.2.2.2.2.2.2.2.2.1;have bt:=aq.2.2.2.2.2.2.2.2.2.2.2.1;obtain⟨M,Q,V,Y,Z⟩:=GW aK;have bu:=y' ((d' ax).trans ((IH hF).below (d' ax).size (λk aZ (h:k=w.heap.size)=>by omega)));clear aq hF aK;simp only[V',br,bt];go_simp;go_wp2;refine z47 (v:=.tuple #[.agg #[.int .u32 0,.int .u64 0,Ej 0,Ej 0,Ej 0],Ej 0,.bool false]) (by simp[results,results111,go_sem,M,Q,V,Y,Z]) rfl ?_;exact ZP (d' bq) Mq.hd0 0 (d' bu)
theorem ZR (S:List UInt8) (F:S.length=64) (last:Nat) (w:World):Cp 162 #[.agg (bv S).toArray,.int .u32 last] w λr w'=>
  ∃h:Rc,r=.returned (.tuple #[Dh h,.bool (Xx S last)])/\(Xx S last=true->h=Zv S)/\El w w':=by
 by_cases z:S=CF;subst z;refine(WG w last).mono ?_;rintro r y ⟨rfl,hb⟩;have h1:Xx CF last=true:=by unfold Xx;rw[ED];simp
 refine⟨rc0,(by rw[h1];rfl),λ_=>?_,hb⟩;unfold Zv;rw[ED,if_pos rfl];refine(WJ S F z last w).mono ?_;rintro r y ⟨h,rfl,h2,hb⟩;refine⟨h,rfl,λG=>?_,hb⟩;rw[h2 G];unfold Zv;rw[ED,if_neg z]
def GN:List Rc->List Value
 |[]=>[]
 |r::l=>.int .i64 r.s:: .int .i64 r.q:: .string r.b::GN l
theorem JQ:∀l,(GN l).length=l.length * 3
 |[]=>rfl
 |r::l=>by simp[GN,JQ l];omega
theorem iV:∀ (l k:List Rc),GN (l++k)=GN l++GN k
 |[],k=>rfl
 |r::l,k=>by simp[GN,iV l k]
theorem UG:∀ (l:List Rc) (j:Nat) (r:Rc),l[j]? =some r->(GN l)[j * 3]? =some (Ej r.s)/\(GN l)[j * 3+1]? =some (Ej r.q)/\(GN l)[j * 3+2]? =some (.string r.b)
 |[],j,r,h=>by simp at h
 |x::l,0,r,h=>by simp at h;subst h;exact⟨rfl,rfl,rfl⟩
 |x::l,j+1,r,h=>by have:=UG l j r (by simpa using h);rw[show(j+1) * 3=j * 3+1+1+1 by omega,show j * 3+1+1+1+1=j * 3+1+1+1+1 from rfl];exact this
def KM (L:List UInt8) (k:Nat):List Rc:=(List.range k).map λx=>Zv (Mq.sec L (2+x))
theorem qC (L:List UInt8) (k:Nat):KM L (k+1)=KM L k++[Zv (Mq.sec L (2+k))]:=by
 simp[KM,List.range_succ]
theorem SG {L:List UInt8} {last:Nat}:∀ (n x:Nat),(∀y,x<=y->y < x+n->Xx (Mq.sec L (2+y)) last=true)->Mq.recsFrom L last x n=some ((List.range n).map λj=>Zv (Mq.sec L (2+(x+j))))
 |0,_,_=>rfl
 |n+1,x,h=>by have ih:=SG n (x+1) (λy z F=>h y (by omega) (by omega));rw[Mq.recsFrom,if_pos (h x (z16 _) (by omega)),ih,Lm];simp;intro a _;rw[Fk,Iu 1 a]
theorem qD (h:∀y,y < a->Xx (Mq.sec r (2+y)) w=true):Mq.recsFrom r w 0 a=some (KM r a):=by
 have:=SG (L:=r) (last:=w) a 0 (λy _ z=>h y (by omega));simpa[KM]using this
theorem lK {y:Nat} (z:y < a) (h:Xx (Mq.sec r (2+y)) w=false):Mq.recsFrom r w 0 a=none:=by
 cases F:Mq.recsFrom r w 0 a with
 |none=>rfl
 |some rs=>have:=((Xo a 0 F).2 y z).1;rw[z45,h]at this;cases this
theorem WK (w:World) (v:Value) (L:List UInt8) (m:Nat) (last:Nat) (ay:Qk w v L) (az:L.length=m * 64) (bg:2<=m) (bh:m<=150):
  Cp 112 #[v,.int .u32 last] w λr w'=>∃rv,r=.returned (.tuple #[rv,.bool (Mq.recsFrom L last 0 (m - 2)).isSome])/\(∀rs,Mq.recsFrom L last 0 (m - 2)=some rs->w'.ownsRow w.heap.size 150 3 rv (m - 2) (GN rs))/\El w w':=by
 obtain⟨i0,hi,F,G,H⟩:=AT Bz;have I:=λ(k:Nat) (aa:64 * k+64<=L.length) y (hb:El w y)=>y' (RS y v L k (ay.below hb) aa (by omega));have J:=λ(k:Nat) (aa:k * 64+64<=L.length)=>Wc aa;obtain⟨bi,cap,rfl,aA,aB,aW⟩:=ay;clear aW;have aX:(((m * 64:Nat):Int)).tdiv 64=(m:Int):=by rw[Int.natCast_mul];exact Int.mul_tdiv_cancel _ (by omega)
 obtain⟨n,hn⟩:=exq (m * 64);rw[az]at aA aB I J ⊢;rw[<-hn]at aX I J aA aB ⊢;have ab:∀j,j < m->64 * j+64<=n:=by intro j hj;omega
 clear hn az;go_enter func112,ntmps112;go_wp2;go_loopw[6,7,8,9] (λv6 i _ _ wr=>∃j:Nat,2<=j/\j<=m/\i=.int .i64 j/\wr.ownsRow w.heap.size 150 3 v6 (j - 2) (GN (KM L (j - 2)))/\Below w.heap.size w wr/\∀y,y < j - 2->Xx (Mq.sec L (2+y)) last=true) (λ_ i _ _ _=>m - (intOf i).toNat)
 case atStart=>exact⟨2,by omega,by omega,rfl,z20 _ _ _ _,z11 _ _,λy aY=>by omega⟩
 case round=>
  obtain⟨j,bj,bk,rfl,M,hb,Q⟩:=hrel;by_cases aC:j < m
  .have ac:=d' (I j (ab j aC) wr hb);have aD:=λy=>y' (ZR (Mq.sec L j) (J j (by have:=ab j aC;omega)) last y);have aE:Mq.sec L j=(L.drop (j * 64)).take 64:=rfl;rw[<-aE]at ac;have V:2+(j - 2)=j:=(by omega);have aF:KM L (j - 2+1)=KM L (j - 2)++[Zv (Mq.sec L j)]:=(by rw[qC,V]);have aG:Xx (Mq.sec L j) last=false->Mq.recsFrom L last 0 (m - 2)=none:=λh=>lK (y:=j - 2) (by omega) (by rw[V];exact h);have aH:Xx (Mq.sec L j) last=true->∀y,y < j+1 - 2->Xx (Mq.sec L (2+y)) last=true:=λh y aY=>by
    by_cases e:y < j - 2;exact Q y e;obtain rfl:y=j - 2:=by omega
    rw[V];exact h
   clear aE V Q;generalize Xx (Mq.sec L j) last=ok,Zv (Mq.sec L j)=R at *;generalize Mq.sec L j=S at *;obtain⟨ad,Y⟩:=exq (GN (KM L (j - 2)));have aI:ad.length=(j - 2) * 3:=by rw[Y,JQ];simp[KM]
   have aJ:GN (KM L (j - 2+1))=ad++[Ej R.s,Ej R.q,.string R.b]:=(by rw[aF,iV,<-Y];rfl);rw[<-Y]at M;clear Y aF;have ah:=y' M;have aK:=y' ac;have aL:=y' hb;have aZ:=hb.size;have ba:=y' aI;have Z:=y' (z13 aJ (z13 aG aH));clear M hb ac I J ab aI aJ aG aH;have aM:=y' (z13 hi (z13 F (z13 G H)));clear hi F G H;go_upto_region 6 with (first
    |(go_at_call 160;refine Cm aK ?_;rintro r y ⟨rfl,ai⟩)
    |(go_at_call 162;refine Cm (aD _) ?_;rintro r aN ⟨z,rfl,aO,aP⟩;unfold Dh))
   have aj:El wr aN:=ai.trans (aP.mono ai.size);have bb:=y' aO;obtain⟨bc,ak⟩:=exq (aN.heap.size);rw[<-ak];refine G' (λx=>Eh x bc #[Ej z.s,Ej z.q,.string z.b] 150/\El wr x) ?_ ?_;exact⟨by rw[ak];exact z19 _ _,aj.alloc aj.size _⟩;clear ai aP aj ak aD aO;rintro x ⟨aQ,ao⟩;obtain⟨bl,bm,bn⟩:=PM aQ;have aR:=BA (w':=x) (d' ah) (λg bd=>ao.block g (z14 (d' ah) g bd).2);have aq:El w x:=(d' aL).trans (ao.mono aZ);have au:=y' aR;have aS:=y' aq;have be:=aq.size;clear aQ ao aR aq ah aL;cases ok with
   |false=>have aT:=(d' Z).2.1 rfl;clear Z au aM ba aK;go_wp2;go_ret2;refine⟨En,by rw[aT];rfl,λrs h=>?_,d' aS⟩;rw[aT]at h;cases h
   |true=>obtain rfl:z=R:=(d' bb) (by trivial);go_upto_region 4 with (at_builtin;obtain⟨hi,F,G,H⟩:=d' aM;refine z67 _ rfl (.tmp 27) (.tmp 29) 141 rfl w.heap.size 150 i0 _ 3 32 underlying141 hi F G H rfl (by decide) u6 (j - 2) ad rfl ((d' au).alloc _) ⟨x.heap.size,0,none⟩ 1 1 [Ej z.s,Ej z.q,.string z.b] rfl rfl AW (by intro u hu;simp at hu;rcases hu with rfl|rfl|rfl <;> rfl) (by unfold maxLen;omega) (by omega) (by simp;omega) ?_;intro v' w1 av aU _;have ax:Below w.heap.size x w1:=((z11 _ x).alloc be _).trans (AB (B:=w.heap.size) aU (by simp;omega) (λg' bf=>(z14 (d' au) g' bf).1));replace av:=y' av;replace ax:=y' ax;clear aU hi F G H;go_simp);have bo:IntKind.i64.wrap ((j:Int)+1)=(j:Int)+1:=(by rw[z28];omega);go_wp2;refine⟨⟨j+1,by omega,by omega,by go_num,?_,(d' aS).trans (d' ax),(d' Z).2.2 (by trivial)⟩,?_⟩;have e:j+1 - 2=(j - 2)+1:=(by omega);rw[e,(d' Z).1];exact d' av;simp[intOf];omega
  have e:j=m:=by omega
  subst e;have aV:=y' (qD Q);clear Q;go_wp2;go_ret2;refine⟨_,by rw[d' aV];rfl,λrs h=>?_,hb⟩;rw[d' aV]at h;cases h;exact M
def lL (o h:Nat) (B:Nat) (L:List UInt8) (s:Nat) (w:World):Prop:=∃p,oN B L p w/\B<=s/\w.heap[s]? =some (.cells #[C' p,.int .u32 o,.int .u64 0,Ej h] 190 (0,0))
theorem aI' (z:lL w a q r b p) (hb:El p f):lL w a q r b f:=z.imp λ_ a=>⟨al' a.1 hb,a.2.1,(hb.block _ (z12 a.2.2)).trans a.2.2⟩
theorem PF (z:World) (v:Value) (L:List UInt8) (m:Nat) (au:Qk z v L) (aU:L.length=m * 64) (bA:2<=m) (bB:m<=150) (aV:Mq.openSt L=some (t,w,U)):
  Cp 74 #[v] z λr w'=>∃s dp lv aa rv,r=.returned (.tuple #[C' s,.agg #[Ej t.a,Ej t.b,Ej t.d,rv],Ej 0])/\
   Zp w' s dp ((⟨t.o+1,0,w,⟨L,0,false⟩⟩:Stv).Qp t.a t.b t.d).2 lv aa/\(∀k,StU s dp lv aa k->z.heap.size<=k)/\w'.ownsRow z.heap.size 150 3 rv (m - 2) (GN U)/\El z w':=by
 obtain⟨ai,aF⟩:=Vg aV;obtain⟨aW,aX,aY,_⟩:=Vs ai;have aZ:=Vk aX;rw[<-aY]at aZ;rw[show L.length / 64=m by omega]at aF;have ba:=y' (λy (hb:El z y)=>ZQ y v L (au.below hb) (by omega) (by omega));have aG:=y' (λy (hb:El z y)=>WK y v L m t.o (au.below hb) aU bA bB);rw[aF]at aG;have bb:=y' ai;have bC:=y' aW;obtain⟨bW,bD,bX,bY,bZ⟩:=aZ;have bc:128<=L.length/\L.length<=10000:=by omega
 have bd:=y' (λy (hb:El z y)=>oM y v L (au.below hb) bc.1 bc.2);clear au aU aV ai aF aY aX bD aW;have w1:IntKind.u32.wrap ((t.o:Int)+1)=((t.o+1:Nat):Int):=by rw[Kv];omega
 unfold C';go_enter func74,ntmps74;go_upto_region 2 with (go_at_call 111;refine((d' ba) _ bna).mono ?_;rintro r y ⟨h2,k2,rfl,be,av⟩;obtain⟨bE,ax⟩:=be _ _ (d' bb);rw[d' bb];subst bE;subst ax;clear be;unfold PE);have bf:=av.size;simp only[World.size_alloc]at bf;have bg:El z y:=bna.trans (av.mono (by simp));have bh:=(av.block z.heap.size (by simp)).trans (z19 z _);obtain⟨G,aH⟩:=exq (y.heap.size);rw[<-aH];refine G' (λx=>x.heap[z.heap.size]? =some (.cells #[Ej 0,Ej 0,Ej 0,En] 143 (0,0))/\x.heap[G]? =some (.cells #[.int .u32 h2.o,.int .u64 h2.c,Ej h2.a,Ej h2.b,Ej h2.d] 199 (0,0))/\El z x) ?_ ?_;exact⟨(hao _ _ (by omega)).trans bh,by rw[aH];exact z19 _ _,bg.alloc (by omega) _⟩;have ca:z.heap.size < G:=by omega
 clear bh bg bf av aH ba;rintro x ⟨h0,h5,bi⟩;have bj:x.cell? ⟨G,0,none⟩=some (.int .u32 h2.o):=Bi 0 h5;have bk:=y' h0;have bl:=y' h5;have aI:=y' bi;have bF:=z12 h5;clear h0 h5 bi;go_upto_region 7 with (go_at_call 112;refine((d' aG) _ (d' aI)).mono ?_;rintro r aJ ⟨rv,rfl,Q,ay⟩;replace Q:=Q _ rfl);have Q:=AP Q (B':=z.heap.size) (by omega);have aK:El z aJ:=(d' aI).trans (ay.mono (by omega));have bm:=(ay.block _ (by omega)).trans (d' bk);have aL:=(ay.block _ (by omega)).trans (d' bl);obtain⟨ab,ac,rfl,_⟩:=(Ql.Jc (AP Q (z54 _))).shape;have aM:=y' Q;have aN:=y' aK;have bn:=y' bm;have aO:=y' aL;have bo:=aK.size;have bG:=z12 aL;clear Q aK bm aL ay aI bk bl aG bj bF;refine AH
  [Ev v,λu F=>∃p,u=Er p 0/\oN z.heap.size L p F,Ep G 0,Ep G 0,Ev (.int .u32 h2.o),Ev (.int .u32 (h2.o+1:Nat)),Ev (.agg #[.int .u32 (h2.o+1:Nat),.int .u64 0]),Ei k2,
   λu F=>∃p,u=.agg #[Er p 0,.int .u32 (h2.o+1:Nat),.int .u64 0,Ej k2]/\oN z.heap.size L p F,λu F=>∃s,u=Er s 0/\lL (h2.o+1) k2 z.heap.size L s F,λu F=>∃s,u=Er s 0/\lL (h2.o+1) k2 z.heap.size L s F]
  [[0],[1030],[5],[3032],[4033],[5034],[6035],[6],[2031,7036,8037],[9038],[10039]] [31,32,33,34,35,36,37,38,39,40,10] [9,1,20,10,9]
  [] ?_ ?_ (hst:=by repeat' (first|exact Y' _|exact(λ_ _ _ t hb=>t.imp λ_ t=>⟨t.1,al' t.2 hb⟩)|exact(λ_ _ _ t hb=>t.imp λ_ t=>⟨t.1,aI' t.2 hb⟩)|exact trivial|apply z13)) (hstF:=by exact trivial)
 .refine⟨?_,?_,?_,?_,?_,?_,?_,?_,?_,?_,?_,trivial⟩;all_goals
   intro a F hb J;have z5:=hb.blk (d' aO) (FK (by intro q aj;cases aj));have M:El z F:=(d' aN).trans ((hb.below (B:=aJ.heap.size) (z16 _) (λj _ t=>by obtain⟨q,aj,_⟩:=t;cases aj)).mono bo);have bj:F.cell? ⟨G,0,none⟩=some (.int .u32 h2.o):=Bi 0 z5;have ad:=y' M;clear z5 hb M;simp[J']at J
  .go_simp;exact⟨_,rfl,Far.refl _ _,rfl⟩
  .have bp:=y' ((d' bd) F (d' ad));have az:=(d' ad).size;unfold C' at bp;go_simp;refine Cm bp ?_;rintro r aA ⟨p,lv,rfl,k1,k2,k3⟩;exact⟨_,rfl,I' k2,p,rfl,lv,k1,λk V=>z26 az (k3 k V)⟩
  iterate 6
   .go_simp;exact⟨_,rfl,Far.refl _ _,rfl⟩
  .obtain⟨⟨p,I,hn⟩,J⟩:=J;have ak:=y' hn;clear hn;go_simp;exact⟨_,rfl,Far.refl _ _,p,rfl,d' ak⟩
  .obtain⟨p,I,hn⟩:=J;have ak:=y' hn;have az:=(d' ad).size;clear hn;go_simp;refine⟨_,rfl,I' bna,_,rfl,p,al' (d' ak) bna,az,z19 _ _⟩
  obtain⟨s,hs,hn⟩:=J;have ak:=y' hn;clear hn;go_simp;exact⟨_,rfl,Far.refl _ _,s,rfl,d' ak⟩
 intro f F hF Y;obtain⟨s,bH,dp,⟨lv,ah,bI⟩,bJ,Z⟩:=Y.2.2.2.2.2.2.2.2.2.2.1;have M:El aJ F:=hF.below (z16 _) (λj _ t=>by obtain⟨q,aj,_⟩:=t;cases aj);have ST:Zp F s dp ⟨h2.o+1,0,k2,⟨L,0,false⟩⟩ lv En:=⟨Z,ah,by show h2.o+1 < _;omega,by simp,d' bC⟩;have aB:∀k,StU s dp lv En k->z.heap.size<=k:=by rintro k (rfl|V);exact bJ;exact bI k V
 have z0:=(M.block _ (by omega)).trans (d' bn);have z5:=(M.block _ bG).trans (d' aO);have ax:F.cell? ⟨G,2,none⟩=some (Ej h2.a):=Bi 2 z5;have bq:F.cell? ⟨G,3,none⟩=some (Ej h2.b):=Bi 3 z5;have br:F.cell? ⟨G,4,none⟩=some (Ej h2.d):=Bi 4 z5;have aP:=y' (EY F s dp _ lv _ ST h2.a h2.b h2.d (by omega) (by omega) (by omega));have ao:=BA (w':=F) (d' aM) (λg H=>M.block g (z14 (d' aM) g H).2);have aQ:=y' ao;have ad:=y' ((d' aN).trans (M.mono bo));have bt:=y' z0;have bu:=y' z5;have aC:¬StU s dp lv En z.heap.size:=by rintro(t|t);rw[<-t,z0]at Z;cases Z;exact KW ah z0 (by decide) (by decide) (by decide) t
 have bK:¬StU s dp lv En G:=by rintro(t|t);rw[<-t,z5]at Z;cases Z;exact KW ah z5 (by decide) (by decide) (by decide) t
 have bL:∀g,(Value.slice ab (m - 2) ac).ownBlock=some g->¬StU s dp lv En g:=by rintro g H (t|t|t|t);exact(Ql.Jc (AP ao (z54 _))).ne Z (by decide) (by rw[H,t]);exact(Ql.Jc (AP ao (z54 _))).ne ah.blk (by decide) (by rw[H,t]);exact(Ql.Jc (AP ao (z54 _))).ty (Ql.Jc ah.row) (by decide) H t;cases t
 have az:=M.size;clear Y hF M z0 z5 ah Z ao aM aN bn aO bd ST;simp only[V',bH];go_simp;unfold C' at aP;go_upto_region 9 with (go_at_call 114;refine Cm aP ?_;rintro r aA ⟨rfl,aa,k1,k2,k3⟩;replace k1:=y' k1;replace k2:=y' k2;replace k3:=y' k3);have aq:=d' k3;have z0:=aq.blk (d' bt) aC;have z5:=aq.blk (d' bu) bK;have bw:=BA (w':=aA) (d' aQ) (λg H=>aq.rest g (z14 (d' aQ) g H).2 (bL g H));have aR:El z aA:=(d' ad).trans (aq.below (by omega) (λk V t=>by have:=aB k t;omega));have aS:=y' bw;have bM:=y' aR;have aT:=y' z0;have bN:=y' z5;have cb:=aR.size;have cc:=z12 z5;have cd:=z12 z0;clear aq z0 z5 bw aR aQ ad bt bu ax bq br aP;refine AH
  [Ep s 0,Ep G 2,Ev (.agg #[Ej h2.a,Ej h2.b,Ej h2.d]),Ev (.slice ab (m - 2) ac),Ev (.agg #[Ej h2.a,Ej h2.b,Ej h2.d,.slice ab (m - 2) ac]),Ep s 0,
   λ_ q=>q.heap[z.heap.size]? =some (.cells #[Ej h2.a,Ej h2.b,Ej h2.d,.slice ab (m - 2) ac] 143 (0,0)),Ei 0]
  [[9],[5],[2045],[8],[3046,4047],[1044],[3,5048],[]] [45,46,47,48,49,3,0,5] [2,1,1,1,39,5]
  [(6,λk=>k=z.heap.size)] ?_ ?_ (hst:=by repeat' (first|exact Y' _|exact ac' _ _|exact trivial|apply z13))
 .refine⟨?_,?_,?_,?_,?_,?_,?_,?_,trivial⟩;all_goals
   intro a q hb J;have aD:=hb.blk (d' bN) (FK (by intro p I;simp at I;subst I;intro (e:G=z.heap.size);omega));have ax:q.cell? ⟨G,2,none⟩=some (Ej h2.a):=Bi 2 aD;have bq:q.cell? ⟨G,3,none⟩=some (Ej h2.b):=Bi 3 aD;have br:q.cell? ⟨G,4,none⟩=some (Ej h2.d):=Bi 4 aD;clear aD;simp[J']at J
  iterate 6
   .clear hb;go_simp;exact⟨_,rfl,Far.refl _ _,rfl⟩
  have aE:=hb.blk (d' aT) (by rintro⟨p,I,g1,g2,ce⟩;simp at I;subst I;exact g1 rfl);clear hb;rw[if_pos (by rfl)];refine RH 143 (.tmp 3) (.tmp 48) rfl z.heap.size #[Ej h2.a,Ej h2.b,Ej h2.d,.slice ab (m - 2) ac] (by simp[Act.eval,J]) (by simp[Act.eval,J]) 143 _ aE (by rw[fQ];rfl) (by simp) (by rw[z43];intro u hu;simp at hu;rcases hu with rfl|rfl|rfl|rfl <;> rfl) ?_;exact⟨_,rfl,AQ (.head _) (CN _ _ _),z91 _ _ _ _ _ _ aE⟩;clear hb;go_simp;exact⟨_,rfl,Far.refl _ _,rfl⟩
 intro f q hF Y;have bO:=Y.2.2.2.2.2.1;have bz:=Y.2.2.2.2.2.2.1;have bP:=Y.2.2.2.2.2.2.2.1;obtain⟨aE,bQ,bR,bS⟩:=Kg bz;have hF:Far (λk=>k=z.heap.size) aA q:=hF.mono (λk _ t=>by obtain⟨p,I,t⟩:=t;simp at I;subst I;exact t);have bT:=y' hF;clear Y hF bz;simp only[V',bO,bP];go_simp;go_wp2;refine z47 (v:=.tuple #[Er s 0,.agg #[Ej h2.a,Ej h2.b,Ej h2.d,.slice ab (m - 2) ac],Ej 0]) (by simp[results,results74,go_sem,aE,bQ,bR,bS]) rfl ?_;have hF:=d' bT;have bU:=d' k2;have bV:∀k,StU s dp lv aa k->z.heap.size<=k:=by rintro k (t|t|t|t);exact aB k (.inl t);exact aB k (.inr (.inl t));exact aB k (.inr (.inr (.inl t)));rcases bU with k2|k2|⟨g,k2,k5⟩;rw[k2]at t;cases t;rw[k2]at t;cases t;rw[k2]at t;cases t;omega
 have ai:¬StU s dp lv aa z.heap.size:=by rintro(t|t|t|t);exact aC (.inl t);exact aC (.inr (.inl t));exact aC (.inr (.inr (.inl t)));exact(d' k1).dk.un.ne (d' aT) (by decide) t
 exact⟨s,dp,lv,aa,_,rfl,(d' k1).far hF (λk V e=>ai (by rw[<-e];exact V)),bV,BA (d' aS) (λg H=>hF.rest g (z14 (d' aS) g H).2 (λe=>(Ql.Jc (AP (d' aS) (z54 _))).ne (d' aT) (by decide) (by rw[H,e]))),(d' bM).trans (hF.below (by omega) (λk V e=>by omega))⟩
section
variable {w x y:World} {p:Nat} {g g2:Nat->Nat} {tk tk2:Nat} {wel wel2 fen fen2:Bool} {free free2:List Nat} {sh sh2:Nat->List (Nat×Value)} {arr:Array Value} {s:Nat} {nv mv:Nat->Value} {fv rv:Value}
theorem Mn (F:UB w p g tk wel fen free sh arr s nv mv fv rv) {i:Nat} (hi:i < 9) {Y:List (Nat×Value)} (h:EC w x p (4+i * 2) 116 arr (nv i) (mv i) Y):
  ∃Z nv' mv',UB x p g tk wel fen free (λt=>if t=i then Y else sh t) Z s nv' mv' fv rv/\(∀k,KaU p nv' mv' fv k->KaU p nv mv fv k\/w.heap.size<=k)/\Far (λk=>k=p\/ShU (nv i) (mv i) k) w x:=by
 obtain⟨⟨nv',mv',S,hn,aa⟩,hF⟩:=h;have ab:=F.sz;have G:∀j,j≠4+i * 2->j≠4+i * 2+1->((arr.setIfInBounds (4+i * 2) nv').setIfInBounds (4+i * 2+1) mv')[j]? =arr[j]? :=λj h1 h2=>by rw[z18 (by omega),z18 (by omega)]
 have M:∀k,ShU nv' mv' k->ShU (nv i) (mv i) k\/w.heap.size<=k:=by rintro k (z|z);rcases hn with h|h|⟨g,h,I⟩;rw[h]at z;cases z;exact .inl (.inl (by rw[<-h];exact z));rw[h]at z;cases z;exact .inr I;rcases aa with h|⟨g,h,I⟩;exact .inl (.inr (by rw[<-h];exact z));rw[h]at z;cases z;exact .inr I
 have ac:fv.ownBlock≠some p:=F.fr.ne F.blk (by decide);refine⟨(arr.setIfInBounds (4+i * 2) nv').setIfInBounds (4+i * 2+1) mv',λt=>if t=i then nv' else nv t,λt=>if t=i then mv' else mv t,
  ⟨S.blk,by simpa using ab,?_,?_,?_,?_,?_,?_,?_,?_,?_,?_,?_,?_,?_⟩,?_,hF⟩
 rw[G _ (by omega) (by omega)];exact F.a0;intro j hj;rw[G _ (by omega) (by omega)];exact F.ag j hj;intro j hj;show _=some (if j=i then nv' else nv j);by_cases e:j=i;subst e;rw[if_pos rfl];exact S.c0;rw[if_neg e,G _ (by omega) (by omega)];exact F.an j hj;intro j hj;show _=some (if j=i then mv' else mv j);by_cases e:j=i;subst e;rw[if_pos rfl];exact S.c1;rw[if_neg e,G _ (by omega) (by omega)];exact F.am j hj;rw[G _ (by omega) (by omega)];exact F.af;rw[G _ (by omega) (by omega)];exact F.at';rw[G _ (by omega) (by omega)];exact F.aw;rw[G _ (by omega) (by omega)];exact F.ae;rw[G _ (by omega) (by omega)];exact F.ar;exact F.fr.far hF (λg I h=>h.elim (λh=>ac (by rw[I,h])) (λh=>F.apf i hi g h I));intro j hj;show Jl x (if j=i then nv' else nv j) (if j=i then mv' else mv j) (if j=i then Y else sh j);by_cases e:j=i;rw[if_pos e,if_pos e,if_pos e];exact S.sh;rw[if_neg e,if_neg e,if_neg e];refine(F.shs j hj).far hF (λk z h=>?_);rcases h with h|h;exact(F.shs j hj).ne F.blk (by decide) (by rw[<-h];exact z);exact F.aps j i hj hi e k z h;intro j hj b hb;replace hb:ShU (if j=i then nv' else nv j) (if j=i then mv' else mv j) b:=hb;by_cases e:j=i;rw[if_pos e,if_pos e]at hb;rcases M b hb with h|h;exact F.apf i hi b h;intro ad;have:=F.fr.lt b ad;omega;rw[if_neg e,if_neg e]at hb;exact F.apf j hj b hb;intro j H hj Q J k z;replace z:ShU (if j=i then nv' else nv j) (if j=i then mv' else mv j) k:=z;show ¬ShU (if H=i then nv' else nv H) (if H=i then mv' else mv H) k;by_cases h1:j=i;subst h1;rw[if_pos rfl,if_pos rfl]at z;rw[if_neg (λe=>J e.symm),if_neg (λe=>J e.symm)];intro V;rcases M k z with h|h;exact F.aps j H hj Q J k h V;have:=(F.shs H Q).lt k V;omega;rw[if_neg h1,if_neg h1]at z;by_cases h2:H=i;subst h2;rw[if_pos rfl,if_pos rfl];intro V;rcases M k V with h|h;exact F.aps j H hj Q J k z h;have:=(F.shs j hj).lt k z;omega;rw[if_neg h2,if_neg h2];exact F.aps j H hj Q J k z;rintro k (rfl|z|⟨j,hj,z⟩);exact .inl (.inl rfl);exact .inl (.inr (.inl z));have z:ShU (if j=i then nv' else nv j) (if j=i then mv' else mv j) k:=z;by_cases e:j=i;rw[if_pos e,if_pos e]at z;exact(M k z).elim (λh=>.inl (.inr (.inr ⟨i,hi,h⟩))) .inr;rw[if_neg e,if_neg e]at z;exact .inl (.inr (.inr ⟨j,hj,z⟩))
theorem Gz (z:UB w p g tk wel fen free sh arr s nv mv fv rv) (v:Value) (hF:Far (λk=>fv.ownBlock=some k) w x) (I:Ql x 3 1 v free2.length (O' free2)) (hl:Loc w fv v):
  ∃V,UB (x.setCell ⟨p,22,none⟩ v) p g tk wel fen free2 sh V s nv mv v rv/\(∀k,KaU p nv mv v k->KaU p nv mv fv k\/w.heap.size<=k)/\Far (λk=>k=p\/fv.ownBlock=some k) w (x.setCell ⟨p,22,none⟩ v):=by
 have hs:=T' x p 22 v;have G:∀j,j≠22->(arr.setIfInBounds 22 v)[j]? =arr[j]? :=λj hj=>z18 (λe=>hj e.symm);have Y:22 < arr.size:=by rw[z.sz];omega
 have Z:fv.ownBlock≠some p:=z.fr.ne z.blk (by decide);have J:=hF.blk z.blk Z;have aa:v.ownBlock≠some p:=I.ne J (by decide);have M:Far (λk=>k=p\/fv.ownBlock=some k) w (x.setCell ⟨p,22,none⟩ v):=(hF.mono (λ_ _ h=>.inr h)).trans hs (λ_ _ h=>.inl h);refine⟨arr.setIfInBounds 22 v,⟨AA J,by simpa using z.sz,?_,?_,?_,?_,?_,?_,?_,?_,?_,?_,?_,?_,z.aps⟩,?_,M⟩;rw[G _ (by omega)];exact z.a0;intro j hj;rw[G _ (by omega)];exact z.ag j hj;intro j hj;rw[G _ (by omega)];exact z.an j hj;intro j hj;rw[G _ (by omega)];exact z.am j hj;simp[Y];rw[G _ (by omega)];exact z.at';rw[G _ (by omega)];exact z.aw;rw[G _ (by omega)];exact z.ae;rw[G _ (by omega)];exact z.ar;exact I.far hs (λg ab e=>aa (by rw[ab,e]));intro j hj;refine(z.shs j hj).far M (λk F e=>?_);rcases e with rfl|e;exact(z.shs j hj).ne z.blk (by decide) F;exact z.apf j hj k F e;intro j hj b hb H;rcases hl with h|h|⟨g',h,Q⟩;rw[h]at H;cases H;rw[h]at H;exact z.apf j hj b hb H;rw[h]at H;cases H;have:=(z.shs j hj).lt b hb;omega;rintro k (rfl|F|F);exact .inl (.inl rfl);rcases hl with h|h|⟨g',h,Q⟩;rw[h]at F;cases F;exact .inl (.inr (.inl (by rw[<-h];exact F)));rw[h]at F;cases F;exact .inr Q;exact .inl (.inr (.inr F))
end
def toV (e:Pe):Nat×Value:=(e.1,JD e.2.1 e.2.2)
theorem iW:∀ (b:Nat) (k:List (z10×Nat)) (p:List Nat),BG b k p=(Mq.keptP b k p).map toV
 | _,[],_=>by simp[BG,Mq.keptP]
 | _,_:: _,[]=>by simp[BG,Mq.keptP]
 |b,x::r,q::z=>by rw[BQ,Mq.keptP,z50,iW (b+1) r z];rfl
theorem qE (e:Pe):∀l:List Pe,CY (l.map toV) e.1 (JD e.2.1 e.2.2)=(Mq.insP l e).map toV
 |[]=>rfl
 |y::r=>by
  rw[z50,CY,Mq.insP];have h1:(toV y).1=y.1:=rfl;rw[h1];rcases Nat.lt_trichotomy e.1 y.1 with c|c|c
  .have c1:¬e.1=y.1:=(by omega);simp[c,c1,toV]
  .have c2:¬e.1 < y.1:=(by omega);simp[c,toV]
  .have c1:¬e.1=y.1:=(by omega);have c2:¬e.1 < y.1:=(by omega);simp[c1,c2,qE e r]
theorem Dj (l:List Pe):(l.map toV).map (·.1)=l.map (·.1):=by
 rw[rZ];rfl
theorem Dl (l:List Pe):kM (l.map toV):=λx z=>by
 obtain⟨e,_,rfl⟩:=z66.1 z;exact⟨e.2.1,e.2.2,rfl⟩
def LO (l:Ld) (k:Nat):List (Nat×Value):=if k % 3=0 then(l.sh (k / 3)).map toV else []
theorem JV (l:Ld) (i:Nat):LO l (i * 3)=(l.sh i).map toV:=by
 unfold LO;rw[if_pos (by omega),show i * 3 / 3=i by omega]
theorem Dm (l:Ld) (i:Nat) (z:List Pe):(λt=>if t=i * 3 then z.map toV else LO l t)=LO {l with sh:=λj=>if j=i then z else l.sh j}:=by
 funext t;unfold LO;by_cases h:t=i * 3;subst h;rw[if_pos rfl,if_pos (by omega),show i * 3 / 3=i by omega];simp;rw[if_neg h];by_cases h2:t % 3=0;rw[if_pos h2,if_pos h2];have:¬t / 3=i:=by omega
 simp[this];rw[if_neg h2,if_neg h2]
namespace Mq
theorem insP_length (e:Pe):∀l:List Pe,(insP l e).length<=l.length+1
 |[]=>by simp[insP]
 |y::r=>by
  have:=insP_length e r;unfold insP;split
  .simp
  .split
   .simp
   .simp;omega
theorem ldAll_app (g:Nat->Nat):∀ (rs z:List Rc) (x:Nat) (l:Ld),ldAll g (rs++z) x l=match ldAll g rs x l with
  |none=>none
  |some F=>ldAll g z (x+rs.length) F
 |[],z,x,l=>by simp[ldAll]
 |r::rs,z,x,l=>by
  rw[Im,ldAll,ldAll,z60,show x+(rs.length+1)=x+1+rs.length by omega];cases Xt g x r l with
  |none=>rfl
  |some F=>exact ldAll_app g rs z (x+1) F
variable{T:Rc}{cU:Ld}{aY dL:Pe}
theorem ldAll_step (z:U[w]? =some T) (h:ldAll O (U.take w) 0 ld0=some X):ldAll O (U.take (w+1)) 0 ld0=Xt O w T X:=by
 obtain⟨hj,e⟩:=z25.1 z;rw[z84 hj,e,ldAll_app,h];simp only[List.length_take];rw[show 0+min w U.length=w by omega];unfold ldAll;cases Xt O w T X with
 |none=>rfl
 |some F=>rfl
theorem ldAll_bad (h:ldAll O (U.take w) 0 ld0=none):ldAll O U 0 ld0=none:=by
 have:=ldAll_app O (U.take w) (U.drop w) 0 ld0;rw[Cc,h]at this;exact this
theorem ldStep_len (h:Xt O w T X=some cU):cU.free.length<=X.free.length+1/\∀i,(cU.sh i).length<=(X.sh i).length+1:=by
 unfold Xt at h;split at h;cases h;exact⟨by simp,λi=>SE _⟩;split at h;cases h;cases h;refine⟨by simp,λi=>?_⟩;simp only
 split;rename_i e;have:=insP_length (T.q,T.b,w) (X.sh T.s);rw[e];exact this;omega
theorem ldAll_len:∀ (rs:List Rc) (x:Nat) (l z:Ld),ldAll O rs x l=some z->z.free.length<=l.free.length+rs.length/\∀i,(z.sh i).length<=(l.sh i).length+rs.length
 |[],_,l,z,h=>by cases h;exact⟨by simp,λi=>by simp⟩
 |r::rs,x,l,z,h=>by
  unfold ldAll at h;cases hs:Xt O x r l with
  |none=>rw[hs]at h;cases h
  |some F=>rw[hs]at h;obtain⟨a1,a2⟩:=ldStep_len hs;obtain⟨G,b2⟩:=ldAll_len rs (x+1) F z h;refine⟨by simp;omega,λi=>?_⟩;have:=a2 i;have:=b2 i;simp;omega
theorem insP_mem:∀ {l:List Pe},dL∈insP l aY->dL=aY\/dL∈l
 |[],h=>by simp[insP]at h;exact .inl h
 |z::r,h=>by
  unfold insP at h;split at h
  .cases h with
   |head=>exact .inl rfl
   |tail _ h=>exact .inr (.tail _ h)
  .split at h
   .cases h with
    |head=>exact .inl rfl
    |tail _ h=>exact .inr h
   .cases h with
    |head=>exact .inr (.head _)
    |tail _ h=>exact(insP_mem h).imp id (λh=>.tail _ h)
theorem ldAll_inv (R:Nat->Pe->Prop):∀ (rs:List Rc) (x:Nat) (l F:Ld),ldAll O rs x l=some F->(∀i,∀e∈l.sh i,R i e)->(∀j r,rs[j]? =some r->¬r.q<=O r.s->R r.s (r.q,r.b,x+j))->∀i,∀e∈F.sh i,R i e
 |[],_,l,F,h,h1,_=>by cases h;exact h1
 |r::rs,x,l,F,h,h1,h2=>by
  unfold ldAll at h;cases hs:Xt O x r l with
  |none=>rw[hs]at h;cases h
  |some H=>
   rw[hs]at h;refine ldAll_inv R rs (x+1) H F h ?_ (λj r' hj G=>by have:=h2 (j+1) r' (by simpa using hj) G;rw[show x+1+j=x+(j+1) by omega];exact this);unfold Xt at hs;split at hs
   .cases hs;exact h1
   .rename_i G;split at hs
    .cases hs
    .cases hs;intro i e z;simp only at z;split at z
     .rename_i hi;subst hi;rcases insP_mem z with rfl|z
      .exact h2 0 r rfl G
      .exact h1 _ e z
     .exact h1 i e z
def Yb (g:Nat->Nat) (rs:List Rc):Option Ld:=match ldAll g rs 0 ld0 with
 |none=>none
 |some l=>if okP (l.sh 0) (g 0)=true/\okP (l.sh 1) (g 1)=true/\okP (l.sh 2) (g 2)=true then some l else none
end Mq
def Yz (w x:World) (p s:Nat) (g:Nat->Nat) (l:Ld):Prop:=
 ∃arr nv mv fv,UB x p g 0 false false l.free (LO l) arr s nv mv fv En/\Far (λk=>k=p) w x/\∀k,KaU p nv mv fv k->k=p\/w.heap.size<=k
theorem Yz.below {w x y:World} {p s:Nat} {g:Nat->Nat} {l:Ld} (h:Yz w x p s g l) (hb:El x y):Yz w y p s g l:=by
 obtain⟨arr,nv,mv,fv,h1,h2,h3⟩:=h;exact⟨arr,nv,mv,fv,h1.far (fbF hb) Ih,h2.trans (fbF hb) (λ_ _ h=>h.elim),h3⟩
theorem uK (K:UB p w O 0 false false X.free (LO X) l a m I y u) (hi:q < 3):
  Cp 79 #[C' w,Ej q] p λr w'=>Rr r (Ej (Vz (X.sh q) (O q):Nat))/\∃n,w'=p.drewN n:=by
 have z:=iG K.blk (K.an (q * 3) (by omega)) (K.shs (q * 3) (by omega));rw[JV,show 4+q * 3 * 2=4+q * 6 by omega]at z;obtain⟨F,H,G,z⟩:∃ (F:Nat) (H:Bool),max F (O q)=Vz (X.sh q) (O q)/\Cp 122 #[Er w (4+q * 6)] p λe w'=>Rr e (.tuple #[Ej F,.bool H])/\∃n,w'=p.drewN n:=by
  unfold Vz;rw[List.getLast?_map]at z;cases J:(X.sh q).getLast? with
  |none=>rw[J]at z;exact⟨0,false,rfl,z⟩
  |some x=>rw[J]at z;exact⟨x.1,true,rfl,z⟩
 have M:p.cell? (Ea w (1+q))=some (Ej (O q)):=by rw[D' K.blk,K.ag q hi]
 obtain⟨n,hn⟩:=exq (Vz (X.sh q) (O q));rw[<-hn]at G ⊢;obtain⟨b,hb⟩:=exq (O q);rw[<-hb]at G M;have Q:max (F:Int) (b:Int)=(n:Int):=by omega
 have V:=y' z;have Z:(0:Int)<=(q:Int):=by omega
 have aa:(q:Int) < 3:=by omega
 clear K z hn hb G;unfold C';go_enter func79,ntmps79;go_wp2_with (go_at_call 122;refine Cm V ?_;rintro r ab ⟨rfl,Y,rfl⟩);go_ret;exact⟨by first|rfl|simp[Q],Y,rfl⟩
theorem Dn (hb:Eh p w l 116) (G:l=(((pG a En En).setIfInBounds 1 (Ej (O 0))).setIfInBounds 2 (Ej (O 1))).setIfInBounds 3 (Ej (O 2))):Yz p p w a O ld0:=by
 have H:l.size=27:=by rw[G];rfl
 have I:∀k,LO ld0 k=[]:=λk=>by unfold LO ld0;split <;> rfl
 have z:∀j,j≠1->j≠2->j≠3->l[j]? =(pG a En En)[j]? :=λj h1 h2 h3=>by rw[G,z18 (λe=>h3 e.symm),z18 (λe=>h2 e.symm),z18 (λe=>h1 e.symm)]
 refine⟨l,λ_=>En,λ_=>.map none,En,⟨hb,H,?_,λi hi=>?_,λk F=>?_,λk F=>?_,?_,?_,?_,?_,?_,BW _ _ _,λk F=>by rw[I];exact NZ _,λk F j hj=>?_,λj k _ _ _ b hb=>?_⟩,Far.refl _ _,?_⟩;rw[z _ (by omega) (by omega) (by omega)];rfl
 .obtain rfl|rfl|rfl:i=0\/i=1\/i=2:=by omega
  all_goals
   rw[G];rfl
 rw[z _ (by omega) (by omega) (by omega)];exact((iP a _ _).2 k F).1;rw[z _ (by omega) (by omega) (by omega)];exact((iP a _ _).2 k F).2;rw[z _ (by omega) (by omega) (by omega)];rfl;rw[z _ (by omega) (by omega) (by omega)];rfl;rw[z _ (by omega) (by omega) (by omega)];rfl;rw[z _ (by omega) (by omega) (by omega)];rfl;rw[z _ (by omega) (by omega) (by omega)];rfl;rcases hj with h|h <;> cases h;rcases hb with h|h <;> cases h;rintro k (h|h|⟨i,_,h⟩);exact .inl h;cases h;rcases h with h|h <;> cases h
theorem uL (aU:Yz p p w a O ld0) (aV:p.ownsRow 0 150 3 (.slice (some ⟨q,0,none⟩) Q b) Q (GN U)) (bB:U.length=Q) (cM:Q<=24)
  (bC:∀r∈U,r=rc0\/r.fits) (bD:∀i,i < 3->O i<=2147483647):
  Cp 75 #[C' w,.slice (some ⟨q,0,none⟩) Q b] p λr w'=>Rr r (.bool (Yb O U).isSome)/\Far (λk=>k=w) p w'/\∀l,Yb O U=some l->Yz p w' w a O l:=by
 have Z:∃arr,p.heap[w]? =some (.cells arr 116 (0,0)):=by obtain⟨arr,_,_,_,K,_⟩:=aU;exact⟨arr,K.blk⟩
 obtain⟨cN,Z⟩:=Z;have bE:0 < Q->q≠w:=λ_ e=>by have:=(Ql.Jc aV).ne Z (by decide);exact this (by rw[e];rfl)
 have bF:∀j r,U[j]? =some r->p.cell? ⟨q,j * 3,none⟩=some (Ej r.s)/\p.cell? ⟨q,j * 3+1,none⟩=some (Ej r.q)/\p.cell? ⟨q,j * 3+2,none⟩=some (.string r.b):=by intro j r hj;have bG:=(z25.1 hj).1;obtain⟨cO,cP,e,_,_,ax⟩:=(Ql.Jc aV).shape;obtain⟨g',cQ,aI,ax⟩:=ax (by omega);rw[aI]at e;injection e with e;injection e with e;injection e with e ch;subst e ch;have aW:=JQ U;have:=UG U j r hj;refine⟨?_,?_,?_⟩;have h:=ax (j * 3) (by omega);rw[z45]at h;rw[h];exact this.1;have h:=ax (j * 3+1) (by omega);rw[z45]at h;rw[h];exact this.2.1;have h:=ax (j * 3+2) (by omega);rw[z45]at h;rw[h];exact this.2.2
 have ci:=y' bF;have cj:=y' bE;have cR:=z12 Z;have bH:=y' aU;have bI:=y' bC;have aX:=y' bB;have bJ:=y' bD;clear aV bF bE aU bC bB bD Z;unfold C';go_enter func75,ntmps75;go_wp2;go_loopw[5,6,7,12] (λ_ _ _ i wr=>∃j:Nat,j<=Q/\i=.int .i64 j/\∃l,Mq.ldAll O (U.take j) 0 ld0=some l/\Yz p wr w a O l) (λ_ _ _ i _=>Q - (intOf i).toNat)
 case atStart=>exact⟨0,by omega,rfl,_,rfl,d' bH⟩
 case round=>
  obtain⟨j,hj,rfl,l,ay,G⟩:=hrel;clear bH;by_cases ck:j < Q
  .obtain⟨r,ao⟩:∃r,U[j]? =some r:=⟨_,z17 (by have:=d' aX;omega)⟩;obtain⟨aY,bK,aI⟩:=(d' ci) j r ao;have hst:=ldAll_step ao ay;have aZ:=ldAll_len _ _ _ _ ay;have ba:=(d' bI) r (z65 ao);have cl:r.s < 3:=(by rcases ba with h|h;rw[h];show 0 < 3;omega;exact h.1);have cm:q < p.heap.size:=z69 _ _ aY;have aJ:wr.heap[q]? =p.heap[q]? :=(by obtain⟨_,_,_,_,_,hF,_⟩:=G;exact hF.rest q cm ((d' cj) (by omega)));have cn:=(z46 (w:=p) aJ:wr.cell? ⟨q,j * 3,none⟩= _).trans aY;have cp:=(z46 (w:=p) aJ:wr.cell? ⟨q,j * 3+1,none⟩= _).trans bK;have bb:=(z46 (w:=p) aJ:wr.cell? ⟨q,j * 3+2,none⟩= _).trans aI;have cS:l.free.length<=24:=(by have:=aZ.1;simp[ld0]at this;omega);have cT:(l.sh r.s).length<=24:=(by have:=aZ.2 r.s;simp[ld0]at this;omega);have F:=y' G;have aq:=y' hst;have bL:=y' ba;clear aJ aY bK aI G ay hst ao aZ ba;obtain⟨aK,bc⟩:=exq (wr.heap.size);have cq:w < wr.heap.size:=(by obtain⟨_,_,_,_,K,_⟩:=d' F;exact z12 K.blk);have cU:aK≠w:=(by omega);go_upto_region 4 with fail;rw[<-bc];refine G' (λx=>x.heap[aK]? =some (.cells #[Ej r.s,Ej r.q,.string r.b] 150 (0,0))/\Yz p x w a O l) ?_ ?_;rw[bc];exact⟨z19 _ _,(d' F).below bna⟩;clear cn cp bb bc F cq;rintro x ⟨H,aL⟩;obtain⟨r0,aa,az⟩:=DQ H;simp at r0 aa az;have ad:=y' H;have F:=y' aL;obtain⟨arr,nv,mv,fv,K,z,N⟩:=aL;have bd:x.cell? ⟨w,1+r.s,none⟩=some (Ej (O r.s)):=(by rw[D' K.blk,K.ag r.s cl]);have s0:(0:Int)<=(r.s:Int):=(by omega);have s3:(r.s:Int) < 3:=(by omega);obtain⟨be,bf⟩:=exq (O r.s);rw[<-bf]at bd;have bM:=y' bf;clear K z N H bf;by_cases ab:r.q<=be
   .have bg:(r.q:Int)<=(be:Int):=(by omega);have bh:Hid (Mq.ldAll O (U.take (j+1)) 0 ld0=some {l with free:=l.free++[j]}):=(by show _= _;rw[d' aq];unfold Xt;rw[if_pos (by rw[<-d' bM];exact ab)]);clear aq ab;go_quiet (fail);go_upto_region 5 with fail;refine G' (λy=>Yz p y w a O l) ((d' F).below (z36 (z11 _ _) _)) ?_;clear r0 aa az ad F bd bg;intro y G;obtain⟨arr,nv,mv,fv,K,z,N⟩:=G;obtain⟨I,bi⟩:=exq (l.free.length);obtain⟨aA,aB,ah,_⟩:=K.fr.shape;have aC:=K.fr;rw[<-bi]at ah aC;have cV:I<=24:=(by omega);have d22:y.cell? ⟨w,22,none⟩=some (.slice aA I aB):=(by rw[D' K.blk,K.af,ah]);rw[ah]at aC;have cr:=λaD=>y' (aC.keep (w':=y.alloc aD) (λq cs=>hao _ _ (aC.lt q cs)));have bN:=K.fr.ne K.blk (by decide);have cu:∀aD v' w1,Ql w1 3 1 v' (I+1) (O' l.free++[Ej j])->App (y.alloc aD) w1 (.slice aA I aB) v'->∃aM aN,v'=.slice aM (I+1) aN/\w1.frozen? ⟨w,22,none⟩=false/\w1.cell? ⟨w,22,none⟩=some (.slice aA I aB)/\
      Hid (Yz p (w1.setCell ⟨w,22,none⟩ v') w a O {l with free:=l.free++[j]}):=by
     intro aD v' w1 h1 h2;obtain⟨aM,aN,cv,_⟩:=h1.shape;have bj:Far (λk=>(Value.slice aA I aB).ownBlock=some k) y w1:=(I' (E:=λk=>(Value.slice aA I aB).ownBlock=some k) ((z11 _ _).alloc (z16 _) aD)).trans (BU h2.grown) Ih;rw[<-ah]at bj;have Z:=bj.blk K.blk bN;have cw:Loc y fv v':=by rw[ah];exact IK (w:=y) (by simp) h2
     have cx:(l.free++[j]).length=I+1:=(by rw[z29,<-bi];rfl);obtain⟨bk,K',bl,bm⟩:=Gz (free2:=l.free++[j]) K v' bj (by rw[cx,show O' (l.free++[j])=O' l.free++[Ej j] by simp[O']];exact h1) cw;refine⟨aM,aN,cv,H' (i:=22) Z,?_,y' ⟨bk,nv,mv,v',K',?_,λk ai=>?_⟩⟩
     .rw[D' Z,K.af,ah]
     .refine z.trans bm (λk ai h=>?_);rcases h with h|h
      .exact h
      .rcases N k (.inr (.inl h))with h|h
       .exact h
       .omega
     .rcases bl k ai with h|h
      .exact N k h
      .exact .inr (z26 z.size h)
    clear K z N aC ah bi bN;go_upto_region 10 with (at_builtin;refine DZ rfl (.tmp 31) (.tmp 33) 101 rfl 3 _ 1 8 underlying101 Ca rfl _ I (O' l.free) (d' (cr _)) rfl ⟨y.heap.size,0,none⟩ 1 1 [Ej j] rfl rfl AW (by intro u hu;simp at hu;subst hu;rfl) (by omega) (by omega) (by omega) ?_;intro v' w1 h1 h2;obtain⟨aM,aN,rfl,cW,cX,cy⟩:=cu _ _ _ h1 h2;clear h1 h2;go_simp);go_wp2;exact⟨⟨j+1,by omega,by go_num,_,d' bh,d' cy⟩,by simp[intOf];omega⟩
   have bg:¬ (r.q:Int)<=(be:Int):=(by omega);have bO:r.fits:=(by rcases d' bL with h|h;exfalso;rw[h]at ab;exact ab (z54 _);exact h);have cY:=y' bO;have bP:Hid (¬r.q<=O r.s):=(by rw[<-d' bM];exact y' ab);clear bO ab bL;go_quiet (fail);go_upto_region 6 with fail;go_quiet (fail);go_upto_region 7 with fail;refine G' (λy=>y.heap[aK]? =some (.cells #[Ej r.s,Ej r.q,.string r.b] 150 (0,0))/\Yz p y w a O l) ⟨d' ad,(d' F).below (z36 (z36 (z11 _ _) _) _)⟩ ?_;clear r0 aa az ad F bd bg;rintro y ⟨H,G⟩;have aa:=Bi 1 H;simp at aa;have ad:=y' H;have F:=y' G;obtain⟨arr,nv,mv,fv,K,z,N⟩:=G;have aO:=Bq K.blk (K.am (r.s * 3) (by omega)) (K.shs (r.s * 3) (by omega)) (by rw[JV];exact Dl _) (r.q:Int);rw[JV,NW,Dj,show 4+r.s * 3 * 2=4+r.s * 6 by omega]at aO;obtain⟨hb,bn⟩:=exq (((l.sh r.s).map (·.1)).contains r.q);rw[<-bn]at aO;have bo:=y' aO;have bQ:=y' bn;clear K z N H aO bn;cases hb with
   |true=>have ac:Hid (Yb O U=none):=(by have h:=d' aq;unfold Xt at h;rw[if_neg (d' bP),<-d' bQ,if_pos rfl]at h;show _= _;unfold Yb;rw[ldAll_bad h]);have cz:Hid (Far (λk=>k=w) p y):=(by obtain⟨_,_,_,_,_,z,_⟩:=d' F;exact z);clear aq F;go_wp2_with (go_at_call 115;refine Cm bo ?_;rintro e bb ⟨rfl,aj⟩;replace aj:=y' aj);go_ret;refine⟨BR (by rw[d' ac];rfl),(d' cz).trans (fbF (d' aj)) (λ_ _ h=>h.elim),λbp h=>?_⟩;rw[d' ac]at h;cases h
   |false=>have bh:Hid (Mq.ldAll O (U.take (j+1)) 0 ld0=some {l with sh:=λi=>if i=r.s then Mq.insP (l.sh r.s) (r.q,r.b,j)else l.sh i}):=(by show _= _;rw[d' aq];unfold Xt;rw[if_neg (d' bP),<-d' bQ,if_neg (by simp)]);clear aq;go_upto_region 9 with (go_at_call 115;refine Cm bo ?_;rintro e bb ⟨rfl,aj⟩);refine G' (λy=>y.heap[aK]? =some (.cells #[Ej r.s,Ej r.q,.string r.b] 150 (0,0))/\Yz p y w a O l) ⟨(aj.block _ (z12 (d' ad))).trans (d' ad),(d' F).below aj⟩ ?_;clear aj bo ad F aa;rintro bR ⟨H,G⟩;have aa:=Bi 1 H;have az:=Bi 2 H;simp at aa az;have F:=y' G;obtain⟨arr,nv,mv,fv,K,z,N⟩:=G;have bS:KP bR w (4+r.s * 3 * 2) 116 arr (nv (r.s * 3)) (mv (r.s * 3)) ((l.sh r.s).map toV):=⟨K.blk,K.an _ (by omega),K.am _ (by omega),by have:=K.shs (r.s * 3) (by omega);rw[JV]at this;exact this,by decide⟩;have aE:=oK bS (by simp;omega) r.q r.b j;have bq:=qE (r.q,r.b,j) (l.sh r.s);simp only at bq;rw[bq]at aE;unfold JD at aE;rw[show 4+r.s * 3 * 2=4+r.s * 6 by omega]at aE;have bT:∀ak,EC bR ak w (4+r.s * 6) 116 arr (nv (r.s * 3)) (mv (r.s * 3)) ((Mq.insP (l.sh r.s) (r.q,r.b,j)).map toV)->Yz p ak w a O {l with sh:=λi=>if i=r.s then Mq.insP (l.sh r.s) (r.q,r.b,j)else l.sh i}:=(by intro ak hst;rw[show 4+r.s * 6=4+r.s * 3 * 2 by omega]at hst;obtain⟨bk,nv',mv',K',bl,bm⟩:=Mn K (by omega) hst;refine⟨bk,nv',mv',fv,?_,?_,λk ai=>?_⟩;have:=Dm l r.s (Mq.insP (l.sh r.s) (r.q,r.b,j));rw[this]at K';exact K';refine z.trans bm (λk ai h=>?_);rcases h with h|h;exact h;rcases N k (.inr (.inr ⟨r.s * 3,by omega,h⟩))with h|h;exact h;omega;rcases bl k ai with h|h;exact N k h;exact .inr (z26 z.size h));have cA:=λak h=>y' (bT ak h);have cB:=y' aE;clear K z N H bS aE bq bT F;go_wp2_with (go_at_call 81;refine Cm cB ?_;rintro e ak ⟨rfl,hst⟩;have cC:=cA ak hst;clear hst);exact⟨⟨j+1,by omega,by go_num,_,d' bh,d' cC⟩,by simp[intOf];omega⟩
  have bG:j=Q:=by omega
  have aP:Mq.ldAll O U 0 ld0=some l:=by rw[<-ay,z48 (by have:=d' aX;omega)]
  have aW:=ldAll_len _ _ _ _ aP;have bU:∀i,∀e∈l.sh i,e.1<=2147483647:=ldAll_inv (λ_ e=>e.1<=2147483647) _ _ _ _ aP (λi e cD=>by cases cD) (λk r ao _=>by rcases(d' bI) r (z65 ao)with h|h;rw[h];exact z54 _;exact h.2.2.1);have bV:∀t,t < 3->(l.sh t).length<=24:=λt _=>by have:=aW.2 t;have:=d' aX;simp[ld0]at *;omega
  have bW:∀t,t < 3->Vz (l.sh t) (O t)<=2147483647:=λt bX=>by
   have h1:=(d' bJ) t bX;unfold Vz;cases ab:(l.sh t).getLast? with
   |none=>simp only;omega
   |some e=>
    have:=bU t e (List.mem_of_getLast? ab);simp only
    omega
  have aQ:=y' (z13 aP (z13 bV bW));obtain⟨aR,br⟩:=exq (wr);rw[<-br]at G;have cE:=y' br;have F:=y' G;have cZ:¬ (j:Int) < (Q:Int):=by omega
  clear br G aP bV bW aW bU ay bG ck;go_wp2;go_loopw[8,9,57] (λ_ _ i wr2=>∃t:Nat,t<=3/\i=.int .i64 t/\Below aR.heap.size aR wr2/\∀k,k < t->okP (l.sh k) (O k)=true) (λ_ _ i _=>3 - (intOf i).toNat)
  case atStart=>exact⟨0,by omega,rfl,by rw[d' cE];exact z11 _ _,λk ai=>by omega⟩
  case round=>
   obtain⟨t,bX,rfl,hb,au⟩:=hrel;by_cases aF:t < 3
   .have cF:=(d' F).below hb;obtain⟨arr,nv,mv,fv,K,z,N⟩:=cF;have bt:=y' (uK K aF);have J:=y' hb;have cG:=(d' aQ).2.2 t aF;have cH:=(d' aQ).2.1 t aF;have cI:=(d' bJ) t aF;have da:(0:Int)<=(t:Int):=(by omega);have db:(t:Int) < 3:=(by omega);obtain⟨M,bu⟩:=exq (Vz (l.sh t) (O t));obtain⟨V,aS⟩:=exq ((l.sh t).length);obtain⟨Y,aT⟩:=exq (O t);have bY:okP (l.sh t) (O t)=(decide (M<=1073741824) &&decide (M=Y+V)):=(by rw[bu,aS,aT];rfl);rw[<-bu]at bt cG;rw[<-aS]at cH;rw[<-aT]at cI;have av:=y' (z13 au bY);have bZ:=y' (z13 aS aT);clear K z N hb bu aS aT au bY;have dc:IntKind.i64.wrap ((Y:Int)+(V:Int))=(Y:Int)+(V:Int):=(by rw[z28];omega);have ac:Hid (okP (l.sh t) (O t)=false->Yb O U=none):=by
     refine y' (λh=>?_);unfold Yb;rw[(d' aQ).1];simp only
     rw[if_neg];rintro⟨ca,cb,cc⟩;obtain rfl|rfl|rfl:t=0\/t=1\/t=2:=(by omega);rw[h]at ca;cases ca;rw[h]at cb;cases cb;rw[h]at cc;cases cc
    unfold C' at *;go_upto_region 15 with (go_at_call 79;refine Cm bt ?_;rintro r y ⟨rfl,dd,rfl⟩);refine G' (λx=>Below aR.heap.size aR x) ((d' J).trans (z36 (z11 _ _) _ |>.mono (d' J).size)) ?_;clear J bt;intro x bw;have aL:=(d' F).below bw;obtain⟨arr,nv,mv,fv,K,z,N⟩:=aL;have J:=y' bw;have bz:∀n,Cp 110 #[.pointer (some ⟨w,4+t * 3 * 2,none⟩)] (x.drewN n) λe w'=>Rr e (Ej ((LO l (t * 3)).length:Nat))/\w'=x.drewN n:=λn=>oL (w:=x.drewN n) K.blk (K.an (t * 3) (by omega)) ((K.shs (t * 3) (by omega)).far (BK (λ_=>False) x n) Ih);have cd:(LO l (t * 3)).length=V:=by rw[JV,z42,(d' bZ).1]
    rw[cd,show 4+t * 3 * 2=4+t * 6 by omega]at bz;have bA:=λn=>y' (bz n);have c1:x.cell? ⟨w,1+t,none⟩=some (Ej Y):=(by rw[D' K.blk,K.ag t aF,(d' bZ).2]);clear K z N bw bz cd;by_cases c2:(1073741824:Int) < (M:Int)
    .have aG:=(d' ac) (by rw[(d' av).2,z53 (show ¬M<=1073741824 by omega)];rfl);have aH:=y' aG;clear aG ac av;go_quiet (first|(go_at_call 110;exact z58 (d' (bA _))));go_wp2;go_ret;refine⟨BR (by rw[d' aH];rfl),?_,λbp h=>?_⟩;obtain⟨_,_,_,_,_,z,_⟩:=d' F;exact z.trans (fbF ((d' J).trans (z36 (z11 _ _) _ |>.mono (d' J).size))) (λ_ _ h=>h.elim);rw[d' aH]at h;cases h
    by_cases c3:(M:Int)=(Y:Int)+(V:Int)
    .have cJ:((M:Int) != (Y:Int)+(V:Int))=false:=(by simp[c3]);have cK:Hid (okP (l.sh t) (O t)=true):=(by show _= _;rw[(d' av).2,z49 (show M<=1073741824 by omega),z49 (show M=Y+V by omega)];rfl);clear ac c3;go_quiet (first|(go_at_call 110;exact z58 (d' (bA _))));go_wp2;refine⟨⟨t+1,by omega,by go_num,(d' J).trans (z36 (z11 _ _) _ |>.mono (d' J).size),λk ai=>?_⟩,by simp[intOf];omega⟩;by_cases e:k=t;rw[e];exact d' cK;exact(d' av).1 k (by omega)
    have cJ:((M:Int) != (Y:Int)+(V:Int))=true:=(by simp;omega);have aG:=(d' ac) (by rw[(d' av).2,z53 (show ¬M=Y+V by omega)];simp);have aH:=y' aG;clear aG ac av c3;go_quiet (first|(go_at_call 110;exact z58 (d' (bA _))));go_wp2;go_ret;refine⟨BR (by rw[d' aH];rfl),?_,λbp h=>?_⟩;obtain⟨_,_,_,_,_,z,_⟩:=d' F;exact z.trans (fbF ((d' J).trans (z36 (z11 _ _) _ |>.mono (d' J).size))) (λ_ _ h=>h.elim);rw[d' aH]at h;cases h
   have cL:t=3:=(by omega);subst cL;have ce:Yb O U=some l:=by
    unfold Yb;rw[(d' aQ).1];simp only
    rw[if_pos ⟨au 0 (by omega),au 1 (by omega),au 2 (by omega)⟩]
   have cf:=y' ce;have cg:=y' ((d' F).below hb);clear ce au hb F;go_wp2;go_ret;refine⟨BR (by rw[d' cf];rfl),?_,λbp h=>?_⟩;obtain⟨_,_,_,_,_,z,_⟩:=d' cg;exact z;rw[d' cf]at h;cases h;exact d' cg
