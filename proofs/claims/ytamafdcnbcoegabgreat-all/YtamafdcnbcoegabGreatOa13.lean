/-
  Part 13 of a proof.
-/
import Derived.Test.YtamafdcnbcoegabGreatOa12
set_option maxRecDepth 100000
set_option maxHeartbeats 40000000
namespace Go.Proofs.YtamafdcnbcoegabGreat
attribute [local simp, local go_sem] Ev Ep Ei Eb Et Ej Ea En Er Es
open Qb Mq
abbrev rE:= @Nat.le_of_eq
abbrev z157:= @and_true
abbrev z177:= @Go.Value.string.injEq
abbrev z198:= @Go.Value.int.injEq
abbrev z202:= @Go.Value.agg.injEq
abbrev z217:= @Array.mk.injEq
open Go.RowKit Go.Proofs.Tryz
def SO (op ct n:Nat) (w:World) (v:Nat) (a:Mq.Sk) (U:Nat->Prop):Prop:=
 ∃p sh st c,w.heap[v]? =some (.cells #[C' p] 79 (0,0))/\Jo w p a.Qa a.Qc sh st c/\Alv op ct n st a.Qa a.Qc/\IY a.held sh/\CZ a/\U=λk=>k=v\/PkU p c k
def gK (op:Nat) (w:World) (v:Nat) (e:Nat) (Qc:Nat->List z10) (U:Nat->Prop):Prop:=
 ∃p sh st c,w.heap[v]? =some (.cells #[C' p] 79 (0,0))/\Jo w p e Qc sh st c/\Ded op st e Qc/\U=λk=>k=v\/PkU p c k
section
variable {op ct n:Nat} {w w':World} {v:Nat} {a:Mq.Sk} {U:Nat->Prop} {e:Nat} {lg:Nat->List z10}
theorem Ht (h:SO op ct n w v a U):∀k,U k->k < w.heap.size:=by
 obtain⟨p,sh,st,c,hb,z,_,_,_,rfl⟩:=h;rintro k (rfl|F);exact z12 hb;exact z.lt k F
variable{N:Nat -> Prop}
theorem Dy (h:SO op ct n w v a U) (z:Far N w w') (F:∀k,U k->¬N k):SO op ct n w' v a U:=by
 obtain⟨p,sh,st,c,hb,G,h1,h2,h3,rfl⟩:=h;exact⟨p,sh,st,c,z.blk hb (F v (.inl rfl)),G.far z (λk H=>F k (.inr H)),h1,h2,h3,rfl⟩
theorem Hu (h:gK op w v e lg U):∀k,U k->k < w.heap.size:=by
 obtain⟨p,sh,st,c,hb,z,_,rfl⟩:=h;rintro k (rfl|F);exact z12 hb;exact z.lt k F
theorem Dz (h:gK op w v e lg U) (z:Far N w w') (F:∀k,U k->¬N k):gK op w' v e lg U:=by
 obtain⟨p,sh,st,c,hb,G,h1,rfl⟩:=h;exact⟨p,sh,st,c,z.blk hb (F v (.inl rfl)),G.far z (λk H=>F k (.inr H)),h1,rfl⟩
theorem lX (bs:Value) (l:List UInt8) (h:SO op ct n w v a U) (Y:ct+1000 < 18446744073709551616) (ad:Jd a) (Z:Qk w bs l) (hn:n=0\/skW a l < n):
  Cp 15 #[C' v,bs] w λr w'=>
   ∃lv G U',r=.returned (.tuple #[lv,Ej (BN a l).1])/\Qj w.heap.size w' lv G (BN a l).2.2 U'/\SO op (ct+skW a l) (n - skW a l) w' v (BN a l).2.1 U'/\Far U w w'/\∀k,U' k->U k\/w.heap.size<=k:=by
 obtain⟨p,sh,st,c,hb,H,hs,O,aa,rfl⟩:=h;have c0:w.cell? (Ea v 0)=some (C' p):=Bi 0 hb;have z:=y' (eA H hs Y ad aa O bs l Z hn);have F:=pF aa l;obtain⟨a2,I⟩:=exq ((BN a l).2.1);obtain⟨au,ab⟩:=exq ((BN a l).1);obtain⟨av,ac⟩:=exq ((BN a l).2.2);rw[<-I,<-ab,<-ac]at z ⊢;rw[<-I]at F;generalize ct+skW a l=ax at z ⊢;generalize n - skW a l=ay at z ⊢;have ah:=uE H hb;have ai:=y' (z13 hb F);clear H hb F I ab ac Z hn hs Y;unfold C' at c0 z;show Cp _ #[Er v 0,bs] w _;go_enter func15,ntmps15;go_wp2_with (go_at_call 44;refine Cm z ?_;rintro r y ⟨lv,G,x,rfl,k1,k2,k3⟩;replace k1:=y' k1;replace k2:=y' k2;replace k3:=y' k3);go_ret2;obtain⟨aj,ak,⟨c2,K,J,N,t1,t2⟩,ao,aq⟩:=d' k1;obtain⟨hb,F⟩:=d' ai;have M:=J.blk hb ah;have Q:=d' k2;refine⟨lv,G,λk=>k=v\/PkU p c2 k,rfl,(d' k3).up J.size ?_,⟨p,aj,ak,c2,(Q.block _ (z12 M)).trans M,K.far (fbF Q) Ih,ao,aq,F,rfl⟩,?_,?_⟩;rintro k (rfl|V);exact z12 M;exact K.lt k V;exact(J.mono (λk _ h=>.inr h)).trans (fbF Q) (λ_ _ h=>h.elim);rintro k (rfl|V);exact .inl (.inl rfl);exact(N k V).imp .inr id
theorem gL (bs:Value) (l:List UInt8) (h:SO op ct n w v a U) (Q:ct+1000 < 18446744073709551616) (Y:Jd a) (V:Qk w bs l) (hn:1<=n/\n<=skW a l):
  Cp 15 #[C' v,bs] w λr w'=>
   ∃lv F U',r=.returned (.tuple #[lv,Ej 4])/\Qj w.heap.size w' lv F [] U'/\gK op w' v a.Qa (OK a l n) U'/\Far U w w'/\∀k,U' k->U k\/w.heap.size<=k:=by
 obtain⟨p,sh,st,c,hb,G,hs,O,Z,rfl⟩:=h;have c0:w.cell? (Ea v 0)=some (C' p):=Bi 0 hb;have z:=y' (WN G hs Q Y Z O bs l V hn);generalize OK a l n=lg at z ⊢;generalize aa:a.Qa=ep at z ⊢;have ab:=uE G hb;have ac:=y' hb;clear G hb V hn hs Q aa;unfold C' at c0 z;show Cp _ #[Er v 0,bs] w _;go_enter func15,ntmps15;go_wp2_with (go_at_call 44;refine Cm z ?_;rintro r y ⟨lv,F,x,rfl,k1,k2,k3⟩;replace k1:=y' k1;replace k2:=y' k2;replace k3:=y' k3);go_ret2;obtain⟨ad,ah,⟨c2,K,H,N,t1,t2⟩,ai⟩:=d' k1;have hb:=d' ac;have I:=H.blk hb ab;have J:=d' k2;refine⟨lv,F,λk=>k=v\/PkU p c2 k,rfl,(d' k3).up H.size ?_,⟨p,ad,ah,c2,(J.block _ (z12 I)).trans I,K.far (fbF J) Ih,ai,rfl⟩,?_,?_⟩;rintro k (rfl|M);exact z12 I;exact K.lt k M;exact(H.mono (λk _ h=>.inr h)).trans (fbF J) (λ_ _ h=>h.elim);rintro k (rfl|M);exact .inl (.inl rfl);exact(N k M).imp .inr id
theorem zI (bs:Value) (h:gK op w v e lg U):Cp 15 #[C' v,bs] w λr w'=>Rr r (.tuple #[En,Ej 3])/\w'=w:=by
 obtain⟨p,sh,st,c,hb,z,hs,rfl⟩:=h;have c0:w.cell? (Ea v 0)=some (C' p):=Bi 0 hb;have F:=y' (UL z hs.dead bs);clear z hb;unfold C' at c0 F;show Cp _ #[Er v 0,bs] w _;go_enter func15,ntmps15;go_wp2_with (go_at_call 44;refine Cm F ?_;rintro r y ⟨rfl,rfl⟩);go_ret2;exact⟨rfl,rfl⟩
theorem Mt (i:Int) (h:SO op ct n w v a U):Cp 17 #[C' v,Ej i] w λr w'=>
   ∃lv,r=.returned lv/\w'.ownsRow w.heap.size 9 1 lv (ML a i).length (AF (ML a i))/\El w w':=by
 obtain⟨p,sh,st,c,hb,z,hs,O,H,rfl⟩:=h;have c0:w.cell? (Ea v 0)=some (C' p):=Bi 0 hb;have F:=y' (lV z hs.dead i);unfold ML;obtain⟨xs,G⟩:=exq (if 0<=i/\i < 3 then a.Qc i.toNat else []);rw[<-G]at F ⊢;clear z hb G;unfold C' at *;go_enter func17,ntmps17;go_wp2_with (go_at_call 46;refine Cm F ?_;rintro r y ⟨lv,rfl,k1,k2⟩;replace k1:=y' k1;replace k2:=y' k2);go_ret;exact⟨lv,rfl,d' k1,d' k2⟩
theorem Mu (i:Int) (h:gK op w v e lg U):Cp 17 #[C' v,Ej i] w λr w'=>Rr r En/\w'=w:=by
 obtain⟨p,sh,st,c,hb,z,hs,rfl⟩:=h;have c0:w.cell? (Ea v 0)=some (C' p):=Bi 0 hb;have F:=y' (lW z hs.dead i);clear z hb;unfold C' at *;go_enter func17,ntmps17;go_wp2_with (go_at_call 46;refine Cm F ?_;rintro r y ⟨rfl,rfl⟩);go_ret;exact⟨rfl,rfl⟩
theorem wF {p:Nat} {sh:Nat->List (Nat×Value)} {st:Stv} {c:Sv} (hb:Eh w v #[C' p] 79) (z:Jo w p e lg sh st c) (m:Int) (F:m<=9223372036854775807):
  Cp 12 #[C' v,Ej m] w λr w'=>Rr r (.tuple #[])/\Eh w' v #[C' p] 79/\Jo w' p e lg sh {st with dk:={st.dk with Xr:=m.toNat}} c/\Far (λk=>k=v\/PkU p c k) w w':=by
 have c0:w.cell? (Ea v 0)=some (C' p):=Bi 0 hb;have H:=y' (rD z m F);have I:=uE z hb;have J:=y' hb;clear z hb F;unfold C' at *;go_enter func12,ntmps12;go_wp2_with (go_at_call 42;refine Cm H ?_;rintro r y ⟨rfl,k1,k2⟩;replace k1:=y' k1;replace k2:=y' k2);have G:=d' k2;exact z74 (z64 rfl _ _ _) rfl ⟨rfl,G.blk (d' J) (λe=>I (by rw[e];exact .inr (.inl (.inr (.inl rfl))))),d' k1,G.mono (λk _ e=>.inr (by rw[e];exact .inr (.inl (.inr (.inl rfl)))))⟩
theorem Mv (m:Int) (h:SO op ct n w v a U) (z:m<=9223372036854775807):Cp 12 #[C' v,Ej m] w λr w'=>Rr r (.tuple #[])/\SO op ct m.toNat w' v a U/\Far U w w':=by
 obtain⟨p,sh,st,c,hb,F,hs,O,G,rfl⟩:=h;refine(wF hb F m z).mono ?_;rintro r y ⟨rfl,k1,k2,k3⟩;exact⟨rfl,⟨p,sh,_,c,k1,k2,⟨hs.dead,rfl,hs.op,hs.ct,hs.dk⟩,O,G,rfl⟩,k3⟩
theorem Mw (m:Int) (h:gK op w v e lg U) (z:m<=9223372036854775807):Cp 12 #[C' v,Ej m] w λr w'=>Rr r (.tuple #[])/\gK op w' v e lg U/\Far U w w':=by
 obtain⟨p,sh,st,c,hb,F,hs,rfl⟩:=h;refine(wF hb F m z).mono ?_;rintro r y ⟨rfl,k1,k2,k3⟩;exact⟨rfl,⟨p,sh,_,c,k1,k2,⟨hs.dead,hs.op,hs.dk⟩,rfl⟩,k3⟩
end
variable{r:List UInt8}{w a q b Q bH cG bX dB:Nat}{F:Nat -> List z10}{t:Hd}{U:List Rc}{p f B:World}{x:Mq.Sk}{M:AU}{m:Nat -> Value}{y u R:Value}{aC:Array Oper}{J:Oper}{G:Act}{aB:Exit -> Act -> World -> Prop}{bQ:Prop}{z:z10}{N bK:Nat -> Prop}{c:Ag}{aD:Bool}{o V:Int}{j:TypeId}{Y Z:List AD}{k:List Nat}
theorem lY (h:Zb r w a q b F) (H:w<=1073741824):
  ∃ (z:Hd) (at':Nat) (rs:List Rc),Mq.openSt r=some (z,at',rs)/\z.o=w/\z.a=b/\z.b=0/\z.d=0/\Mq.skLd rs 0 (λ_=>[])=some F:=by
 obtain⟨J,at',rs,I,M,Q,V,ah,Y⟩:=skLoad_some (h.loads H);obtain⟨Z,ai,aj,ak,ao,aa⟩:=h.rcs;obtain⟨c,ab⟩:=h.ok.opens H (λx=>Z.getD x rc0) (λx ac=>aa x ac);have G:=ab;rw[I]at G;injection G with G;injection G with ad _;exact⟨J,at',rs,I,by rw[ad],V.symm,M,Q,Y⟩
theorem uQ (z:Mq.openSt r=some (t,w,U)) (hb:t.b=0) (hd:t.d=0) (hl:Mq.skLd U 0 (λ_=>[])=some F) (G:r.length=7808):
  Alv (t.o+1) 1 0 (FM r t w) t.a F:=
 ⟨rfl,rfl,rfl,z16 _,skDisk_opened (a:={Qa:=t.a,Qc:=F,held:=[]}) z hb hd hl G⟩
theorem uR (e:Nat) (z:Nat->List z10):CZ {Qa:=e,Qc:=z,held:=[]}:=⟨λh F=>by simp at F,λ_ s _ b hb=>by simp at hb⟩
theorem jD (bs:Value) (L:List UInt8) (Y:Qk p bs L) (I:L.length=7808) (J:Mq.openSt L=some (t,w,U)) (M:t.b=0) (hd0:t.d=0) (hl:Mq.skLd U 0 (λ_=>[])=some F):
  Cp 25 #[bs] p λr w'=>
   ∃v Z,r=.returned (.tuple #[C' v,Ej 0])/\SO (t.o+1) 1 0 w' v {Qa:=t.a,Qc:=F,held:=[]} Z/\El p w'/\∀k,Z k->p.heap.size<=k:=by
 have Q:Hid (Cp 53 #[bs] p λr w'=>∃z c,r=.returned (.tuple #[C' z,Ej 0])/\Jo w' z t.a F (λ_=>[]) (FM L t w) c/\El p w'/\∀k,PkU z c k->p.heap.size<=k):=by refine(gI p bs L Y I J).mono ?_;rintro r y (⟨h1|h1,_⟩|⟨_,_,ab,z,c,G,rfl,k1,k2,k3⟩);exact absurd ⟨M,hd0⟩ h1;rw[hl]at h1;cases h1;rw[hl]at G;injection G with G;subst G;exact⟨z,c,rfl,k1,k2,k3⟩
 have H:=y' (uQ J M hd0 hl I);clear Y J M hd0 hl I;generalize FM L t w=st at Q H;generalize t.o+1=op1 at H ⊢;generalize t.a=ep at Q H ⊢;unfold C' at *;go_enter func25,ntmps25;go_wp2_with (go_at_call 53;refine Cm Q ?_;rintro r y ⟨z,c,rfl,K,hb,V⟩;replace K:=y' K;replace hb:=y' hb;replace V:=y' V);go_ret2;have hb:=d' hb;refine⟨y.heap.size,_,rfl,⟨z,_,st,c,z19 _ _,(d' K).far (fbF bna) Ih,d' H,Cd,uR _ _,rfl⟩,hb.alloc hb.size _,?_⟩;rintro k (rfl|aa);exact hb.size;exact(d' V) k aa
theorem Ma (bs:Value) (L:List UInt8) (G:Qk p bs L) (z:Zb L w a q b F) (H:w<=1073741824):
  Cp 25 #[bs] p λr w'=>
   ∃v U,r=.returned (.tuple #[C' v,Ej 0])/\SO (w+1) 1 0 w' v {Qa:=b,Qc:=F,held:=[]} U/\El p w'/\∀k,U k->p.heap.size<=k:=by
 obtain⟨Z,at',rs,I,J,M,Q,V,Y⟩:=lY z H;subst J M;exact jD bs L G z.ok.len I Q V Y
theorem rF (bs:Value) (z:Qk p bs (List.replicate 7808 0)):
  Cp 25 #[bs] p λr w'=>
   ∃v U,r=.returned (.tuple #[C' v,Ej 0])/\SO 1 1 0 w' v {Qa:=0,Qc:=λ_=>[],held:=[]} U/\El p w'/\∀k,U k->p.heap.size<=k:=by
 have F:=Yy 122 (by omega);refine jD bs _ z (by rw[z57]) F rfl rfl ?_;have:((List.range (122 - 2)).map λ_=>rc0)=List.replicate 120 rc0:=by rw[List.map_const'];simp
 rw[this];exact skLd_zero 120 0 _
def opK (a:Mq.Sk) (s:Nat):Mq.Sk:={Qa:=a.Qa,Qc:=λt=>if t < s then a.Qc t else [],held:=[]}
theorem rG (a:Mq.Sk) (s:Nat):{opK a s with Qc:=λt=>if t=s then a.Qc s else(opK a s).Qc t}=opK a (s+1):=by
 unfold opK;simp only[Mq.Sk.mk.injEq,true_and,and_true];funext t;by_cases h:t=s;subst h;simp;by_cases h2:t < s;simp[h,h2,show t < s+1 by omega];simp[h,h2,show ¬t < s+1 by omega]
theorem jE (a:Mq.Sk) (s:Nat):(opK a s).count<=a.count:=by
 unfold Mq.Sk.count opK;simp only
 repeat' split
 all_goals simp
 all_goals omega
def MB (a:Mq.Sk):Mq.Sk:={Qa:=a.Qa,Qc:=a.Qc,held:=[]}
def EP (a:Mq.Sk) (r:AU):AU:={dead:=false,next:=if r.dead=true then r.next else a.Qa,inn:=r.inn,more:=r.more}
theorem Jg.three (R:Jg p w (opK x 3) M m y):Jg p w (MB x) M m y:=
 ⟨R.blk,λs hs=>by have:=R.Qc s hs;simp only[opK,if_pos hs]at this;exact this,R.held,R.apl,R.ep,R.ll,R.hl,R.hb⟩
theorem gM {K:Act->World->Prop} (H:J.guard=none) (s x:Operand) (t:TypeId) (I:J.op=.call {callee:=.builtin .append,args:= #[s,x],argTypes:= #[t,t]})
  (e:TypeId) (M:Value) (size bytes:Nat) (F:prog.underlying t=some (.slice e)) (Q:(prog.info? e).map (λi=>(i.zero,i.size,i.bytes))=some (some M,size,bytes)) (hs:G.eval s=En) (z:Option Addr) (c:Nat) (V:G.eval x=.slice z 0 c)
  (h:K (G.put J.dst En) p):if Region.wanted J (yielded aC G.tmps)=true then J.wp prog G p K aB else bQ:=by
 rw[if_pos (by simp[Region.wanted,H])];obtain⟨i0,hi,aa,ab,ac⟩:=AT Q;have Y:(Builtin.append_ #[t,t] J.type #[En,.slice z 0 c]).run prog p=.ok En p:=by
  cases z with
  |none=>simp[Builtin.append_,run_underlying F,sizeOf,typeInfo,hi,Builtin.lenOf,Builtin.firstCells]
  |some z=>have Z:=Kd (P:=prog) p i0.size 0 z 0 c [] (by simp) (λj u h=>by simp at h);simp[Builtin.append_,run_underlying F,sizeOf,typeInfo,hi,Builtin.lenOf,Z]
 unfold Oper.wp;simp[execOp,I,resolve,invoke,builtin,hs,V,Y,Result.andThen];exact h
theorem Jg.logStep2 {w w1:World} {p:Nat} {a:Mq.Sk} {r:AU} {lv:Nat->Value} {H:Value} (R:Jg w p a r lv H) (s:Nat) (hs:s < 3) {v':Value} {x:List z10} (M:Far (λk=>(lv s).ownBlock=some k) w w1)
  (hl:∀g,v'.ownBlock=some g->(lv s).ownBlock=some g\/w.heap.size<=g) (ah:Ql w1 9 1 v' x.length (AF x)) (ai:Mq.Sk.count {a with Qc:=λt=>if t=s then x else a.Qc t}<=120):
  (∃C,Eh w1 p C 180/\C[2+s]? =some (lv s))/\Jg (w1.setCell ⟨p,2+s,none⟩ v') p {a with Qc:=λt=>if t=s then x else a.Qc t} r (TF lv s v') H/\Far (SkU p lv H) w (w1.setCell ⟨p,2+s,none⟩ v')/\∀k,SkU p (TF lv s v') H k->SkU p lv H k\/w.heap.size<=k:=by
 have Z:∀t,t < 3->(lv t).ownBlock≠some p:=λt F=>(R.Qc t F).ne R.blk (by decide);have aj:H.ownBlock≠some p:=R.held.ne R.blk (by decide);have ac:=M.blk R.blk (Z s hs);have aa:∀k,k < w.heap.size->v'.ownBlock=some k->(lv s).ownBlock=some k:=λk I e=>(hl k e).elim id (λh=>by omega);have Q:=T' w1 p (2+s) v';refine⟨⟨_,ac,?_⟩,⟨?_,?_,?_,?_,R.ep,ai,R.hl,R.hb⟩,?_,?_⟩
 .obtain rfl|rfl|rfl:s=0\/s=1\/s=2:=by omega
  all_goals rfl
 rw[<-VB a r lv H s hs];exact AA ac;intro t F;by_cases G:t=s;subst G;rw[CG];simp only[if_true];refine ah.far Q (λg z J=>?_);rw[J]at z;exact Z t hs (aa p (z12 R.blk) z);rw[BE _ _ G];simp only[if_neg G];exact((R.Qc t F).far M (λg z ab=>R.apl t s F hs G g z ab)).far Q (λg z J=>Z t F (by rw[z,J]));exact(R.held.far M (λg z ab=>R.held.ty (R.Qc s hs) (by decide) z ab)).far Q (λg z J=>aj (by rw[z,J]));intro t u F hu V g z;by_cases G:t=s;subst G;rw[CG]at z;rw[BE _ _ (λe=>V e.symm)];intro Y;have ak:=(R.Qc u hu).lt g Y;exact R.apl t u F hu V g (aa g ak z) Y;rw[BE _ _ G]at z;by_cases ad:u=s;subst ad;rw[CG];intro Y;exact R.apl t u F hu V g z (aa g ((R.Qc t F).lt g z) Y);rw[BE _ _ ad];exact R.apl t u F hu V g z;exact(M.mono (E':=SkU p lv H) (λk _ h=>.inr (.inl ⟨s,hs,h⟩))).trans Q (λk _ h=>.inl h);rintro k (rfl|⟨t,F,I⟩|I);exact .inl (.inl rfl);by_cases G:t=s;subst G;rw[CG]at I;rcases hl k I with h|h;exact .inl (.inr (.inl ⟨t,F,h⟩));exact .inr h;rw[BE _ _ G]at I;exact .inl (.inr (.inl ⟨t,F,I⟩));exact .inl (.inr (.inr I))
def Mx (B:Nat) (T:TypeId) (size n:Nat) (xs:List Value) (v:Value) (z:World):Prop:=Ql z T size v n xs/\∀g,v.ownBlock=some g->B<=g
theorem aW' (B:Nat) (T:TypeId) (size n:Nat) (xs:List Value):CL (Mx B T size n xs):=λ_ _ _ h hb=>⟨h.1.far (fbF hb) Ih,h.2⟩
theorem lZ (R:Jg p w x M m y) (aa:∃aB n c,M.more=.slice aB n c):
  Cp 195 #[.pointer (some ⟨w,0,none⟩)] p λe w'=>∃b Y aT,e=.returned (.pointer (some ⟨b,0,none⟩))/\Jg w' b (MB x) (EP x M) Y aT/\Below p.heap.size p w'/\∀k,SkU b Y aT k->p.heap.size<=k:=by
 obtain⟨ai,aj,ak,aa⟩:=aa;obtain⟨c0,c1⟩:=GK R.blk;have aU:=Bi 6 R.blk;have aV:=Bi 7 R.blk;have aC:=Bi 8 R.blk;simp[AK]at c0 c1 aU aV aC;have J:=z12 R.blk;have F:=y' R;rw[aa]at aC;have bi:=y' aa;clear R aa;go_enter func195,ntmps195;go_upto_region 1 with fail;refine AI
  [Ep w 0,Ep w 0,Ep w 0,Ei x.Qa,
   Ep w 0,Ep w 0,Ep w 0,Ei x.Qa,
   Ep w 0,Ep w 0,Ep w 7,Ei M.inn,
   Ep w 0,Ep w 0,Ep w 8,Ev (.slice ai aj ak),
   Ev (.agg #[Ej x.Qa,.bool false,.slice none 0 0,.slice none 0 0,.slice none 0 0,.slice none 0 0,Ej x.Qa,Ej M.inn,.slice ai aj ak]),
   qX p.heap.size #[Ej x.Qa,.bool false,.slice none 0 0,.slice none 0 0,.slice none 0 0,.slice none 0 0,Ej x.Qa,Ej M.inn,.slice ai aj ak] 180,qX p.heap.size #[Ej x.Qa,.bool false,.slice none 0 0,.slice none 0 0,.slice none 0 0,.slice none 0 0,Ej x.Qa,Ej M.inn,.slice ai aj ak] 180]
  [[0],[1005],[2006],[3007],[0],[5009],[6010],[7011],[0],[9013],[10014],[11015],[0],[13017],[14018],[15019],[4008,8012,12016,16020],[17021],[18022]] [6,7,8,9,10,11,12,13,14,15,16,17,18,19,20,21,22,23,4] [3,1,1,18,34] ?_ ?_ (hst:=by repeat' (first|exact Y' _|exact aw' _ _ _|exact trivial|apply z13))
 .refine⟨?_,?_,?_,?_,?_,?_,?_,?_,?_,?_,?_,?_,?_,?_,?_,?_,?_,?_,?_,trivial⟩;all_goals
   intro b G hb H;have bj:=Bc hb J c0;have bL:=Bc hb J aV;have bM:=Bc hb J aC;have bk:=hb.size;clear hb;simp[J']at H;try go_simp
   try exact z11 _ _
  all_goals first
   |exact⟨rfl,z11 _ _⟩
   |exact⟨_,rfl,bna,_,rfl,bk,z19 G _⟩
   |exact⟨_,rfl,z11 _ _,H⟩
 intro f bl z I;simp only[AJ]at I;have hn:=I.2.2.2.2.2.2.2.2.2.2.2.2.2.2.2.2.2.2.1;obtain⟨b,ao,Z,aq⟩:=hn;clear I;simp only[V',ao,Nat.zero_add,Nat.reduceAdd];have aW:Jg bl b (opK x 0) {dead:=false,next:=x.Qa,inn:=M.inn,more:=M.more} SK (.slice none 0 0):=⟨by rw[aq];simp only[AK,d' bi];rfl,λ_ _=>BW _ _ _,BW _ _ _,λs t _ _ _ g h=>(by cases h),(d' F).ep,z26 (jE x 0) (d' F).ll,by simp[opK],by simp[opK]⟩;have aD:=y' aW;have ab:=Bc z J c1;have bm:=Bc z J aU;have aX:=Bi 6 aq;have f6:=H' (i:=6) aq;simp at aX;have au:=y' z;have aY:=y' Z;clear aq z aW ao Z;cases hd:M.dead
 case' false=>
  rw[hd]at ab;have aE:=y' hd;clear hd;go_upto_region 4 with fail;refine G' (λG=>Jg G b (opK x 0) (EP x M) SK (.slice none 0 0)/\Below p.heap.size p G) ⟨?_,?_⟩ ?_;have h:=d' aD;have e:EP x M={dead:=false,next:=x.Qa,inn:=M.inn,more:=M.more}:=by unfold EP;rw[d' aE];rfl
  rw[e];exact h;exact d' au
 case' true=>
  rw[hd]at ab;have aE:=y' hd;clear hd;go_upto_region 4 with fail;refine G' (λG=>Jg G b (opK x 0) (EP x M) SK (.slice none 0 0)/\Below p.heap.size p G) ⟨?_,?_⟩ ?_;have h:=d' aD;have e:EP x M={dead:=false,next:=M.next,inn:=M.inn,more:=M.more}:=by unfold EP;rw[d' aE];rfl
  rw[e];exact⟨by have:=AA (j:=6) (v:=Ej M.next) h.blk;simpa[AK]using this,λ_ _=>BW _ _ _,BW _ _ _,h.apl,h.ep,h.ll,h.hl,h.hb⟩;exact(d' au).trans ((T' _ b 6 _).below (d' au).size (λk ac e=>by have:=d' aY;omega))
 all_goals
  clear aD au ab bm aX f6;rintro bN ⟨aZ,ba⟩;have bb:=y' aZ;have bc:=y' ba;clear aZ ba;go_wp2;go_loopw[4] (λi wr=>∃ (s:Nat) (Y:Nat->Value),s<=3/\i=.int .i64 s/\Jg wr b (opK x s) (EP x M) Y (.slice none 0 0)/\Below p.heap.size p wr/\(∀k,SkU b Y (.slice none 0 0) k->p.heap.size<=k)/\∀t,s<=t->Y t=.slice none 0 0) (λi _=>3 - (intOf i).toNat)
  case atStart=>refine⟨0,SK,by omega,rfl,d' bb,d' bc,?_,λ_ _=>rfl⟩;rintro k (rfl|⟨s,_,h⟩|h);exact d' aY;cases h;cases h
  case round=>
   obtain⟨s,bn,hs,rfl,Q,z,av,ax⟩:=hrel;clear bb bc;by_cases V:s < 3
   .have bO:(s:Int) < 3:=(by omega);have d0:=Bc z J (LV (d' F) s V);have aF:=((d' F).Qc s V).far (fbF z) Ih;obtain⟨ay,aG,aH,_,_,aI⟩:=((d' F).Qc s V).shape;have g0:=LV Q s V;rw[ax s (by omega)]at g0;rw[aH]at d0 aF;have bo:=(d' F).len s V;have aJ:∀g o,ay=some ⟨g,o,none⟩->g < p.heap.size:=λg o h=>((d' F).Qc s V).lt g (by rw[aH,h];rfl);have bd:∀g o,ay=some ⟨g,o,none⟩->0 < (x.Qc s).length->∀j u,(AF (x.Qc s))[j]? =some u->wr.cell? ⟨g,o+j,none⟩=some u:=λg o h h0 j u hj=>(by obtain⟨g',bP,e,bp⟩:=aI h0;rw[h]at e;injection e with e;injection e with bq br;subst bq br;have bt:j < (x.Qc s).length * 1:=(by have:=(z25.1 hj).1;rw[AO]at this;omega);exact(Bc z (aJ g o h) (bp j bt)).trans hj);have aK:=y' (z13 aI (z13 aJ bd));have f0:=H' (i:=2+s) Q.blk;have az:=z12 Q.blk;have be:=z21 J z.size;have bf:=y' Q;have aL:=y' z;have bg:=y' av;have bu:=y' ax;obtain⟨aA,aM⟩:=exq ((x.Qc s).length);rw[<-aM]at d0 aF bo aK;have aN:=y' aM;clear Q z av ax aI aH aJ bd aM;go_upto_region 7 with fail;refine Z'
     [Ep b 0,Ei s,Ep b 0,Ei s,Ep b 0,Ep b 2,Ep b (2+s),Ev (.slice none 0 0),
      Ep w 0,Ei s,Ep w 0,Ep w 2,Ep w (2+s),Ev (.slice ay aA aG),Mx wr.heap.size 9 1 aA (AF (x.Qc s)),
      Ep b 0,Ep b 2,Ep b (2+s),Et]
     [[3],[4],[3],[4],[3040],[5042],[6043,4041],[7044],[0],[4],[9046],[11048],[12049,10047],[13050],[8045,14051],[1038],[16053],[17054,2039],[18055,15052]] [39,40,41,42,43,44,45,46,47,48,49,50,51,52,53,54,55,56,0] [38,18,1]
     18 _ rfl rfl ?_ ?_ (hst:=by repeat' (first|exact Y' _|exact aW' _ _ _ _ _|exact aa'|exact trivial|apply z13))
    .refine⟨?_,?_,?_,?_,?_,?_,?_,?_,?_,?_,?_,?_,?_,?_,?_,?_,?_,?_,trivial⟩;all_goals
      intro bQ G hb H;have bj:=Bc hb be d0;have ab:=Bc hb az g0;have bh:=y' hb;clear hb;simp[J']at H
     iterate 14
      .go_simp;first|exact⟨rfl,z11 _ _⟩|exact z11 _ _
     by_cases h0:aA=0;subst h0;refine gM rfl (.tmp 45) (.tmp 51) 33 rfl 9 _ 1 16 underlying33 CW (by simp[Act.eval,H]) ay aG (by simp[Act.eval,H]) ?_;have bw:AF (x.Qc s)=[]:=by have:(x.Qc s)=[]:=z68 (d' aN).symm;rw[this];rfl
     rw[bw];exact⟨_,rfl,z11 _ _,BW _ _ _,λg h=>(by cases h)⟩;obtain⟨bz,bA,bB⟩:=d' aK;obtain⟨g,o,e,_⟩:=bz (by omega);subst e;refine ES rfl (.tmp 45) (.tmp 51) 33 rfl 9 _ 1 16 underlying33 CW rfl (.slice none 0 0) 0 [] (BW _ _ _) (by simp[Act.eval,H]) ⟨g,o,none⟩ aA aG (AF (x.Qc s)) (by simp[Act.eval,H]) (by rw[AO,d' aN];omega) ?_ (by intro u hu;unfold AF at hu;rw[z66]at hu;obtain⟨c,_,rfl⟩:=hu;rfl) (by omega) (by omega) (by omega) ?_;intro k u ac;rw[MI];exact Bc (d' bh) (z21 (bA g o rfl) (d' aL).size) (bB g o rfl (by omega) k u ac);intro v' w' k1 k2;simp only[Nat.zero_add,List.nil_append]at k1;refine⟨v',rfl,(BU k2.grown).below (z16 _) (λk _ h=>by cases h),k1,λg' ad=>?_⟩;rcases k2.where_ with h|⟨_,g2,h,bR⟩;rw[h]at ad;cases ad;rw[h]at ad;injection ad with ad;have:=(d' bh).size;have:=(d' aL).size;omega;iterate 3
      .go_simp;first|exact⟨rfl,z11 _ _⟩|exact z11 _ _
    intro f5 bC hb I;simp only[AJ,List.take]at I;have ah:=I.2.2.2.2.2.2.2.2.2.2.2.2.2.2.1;have bD:=I.2.2.2.2.2.2.2.2.2.2.2.2.2.2.2.2.2.1;obtain⟨bE,aO⟩:=exq (f5 52);rw[<-aO]at ah;obtain⟨aP,aQ,aR,rfl⟩:∃aP aQ aR,bE=.slice aP aQ aR:=by obtain⟨aB,cap,e,_⟩:=ah.1.shape;exact⟨aB,_,cap,e⟩
    have aS:=((d' bf).logStep2 s V (w1:=bC) (v':=.slice aP aQ aR) (x:=x.Qc s) (I' hb) (λg bF=>.inr (ah.2 g bF)) (by rw[<-d' aN];exact ah.1) (by have:=jE x (s+1);rw[<-rG]at this;exact z26 this (d' F).ll)).2;rw[rG]at aS;have bG:=y' aS;have ab:=Bc hb az g0;have bS:=(hb.frozen (p:=⟨b,2+s,none⟩) az).trans f0;clear I hb aS ah aF d0 g0 f0 be az aK bf;simp only[V',<-aO,bD];clear aO;go_simp;go_wp2;go_roundw
    case rel=>obtain⟨k1,k2,k3⟩:=d' bG;have Z:=d' aL;refine⟨s+1,_,by omega,by go_num,k1,Z.trans (k2.below Z.size (λk ac h=>by have:=(d' bg) k h;omega)),λk ac=>?_,λt bT=>?_⟩;rcases k3 k ac with h|h;exact(d' bg) k h;have:=Z.size;omega;rw[BE _ _ (by omega)];exact(d' bu) t (by omega)
    case measure=>simp[intOf];omega
   have ao:s=3:=(by omega);subst ao;have bH:=y' Q;have bI:=y' z;have bJ:=y' av;clear Q z av ax;go_wp2;go_ret;have bK:=(d' bH).three;exact⟨b,bn,.slice none 0 0,rfl,bK,d' bI,d' bJ⟩
theorem WV (own:p.ownsRow 0 5 1 (Es w 0 a a) a (bv (DC z))) (hn:z.size+8=a) (F:z.size<=140737488353980):Qk p (Es w 0 z.size a) z.data.toList:=by
 have hl:z.data.toList.length=z.size:=by simp
 refine⟨_,a,by rw[hl],by omega,by omega,λ_=>⟨w,0,rfl,λi hi=>?_⟩⟩;rw[hl]at hi;have:=z59 own i (by omega);rw[z45,this,JW (by rw[BM];omega),XI hi];have h2:i < z.data.toList.length:=by omega
 rw[z15,z17 h2];rfl
theorem SQ (own:p.ownsRow 0 5 1 (Es w 0 a a) a (bv (DC z))) (hn:z.size+8=a):BAt (λ_ _=>True) p (Es w 0 a a) (DC z):=
 CM (by rw[AC,BM,hn];exact own) (λ_ _ _ _=>trivial)
theorem rH (own:p.ownsRow 0 5 1 (Es w 0 a a) a (bv (DC z))) (hn:z.size+8=a):p.ownsRow 0 5 1 (Es w 0 a a) (DC z).length (bv (DC z)):=by
 rw[BM,hn];exact own
theorem SR (s:z10) (x:World) (z:Nat) (hn:s.size+8=z) (F:s.size<=140737488354000):
  Cp 92 #[.string s] x λr w'=>∃g,r=.returned (Es g 0 z z)/\x.heap.size<=g/\g < w'.heap.size/\El x w'/\w'.ownsRow 0 5 1 (Es g 0 z z) z (bv (DC s)):=by
 subst hn;refine(nE s x F).mono ?_;rintro r w' ⟨rfl,hb,G,H⟩;exact⟨_,rfl,z16 _,G,hb,H⟩
theorem eB (R:World->Prop) (A:Nat->Nat->Prop) (w:World) (G:Nat) (Q ad ah:Value) (hs:List Nat) (z:List AD) (q:Nat) (V i:Int) (s:z10) (kp Y Z aa ab:Int) (ac:z10)
  (F:Jm A w G Q ad ah hs) (H:w.ownsRow 0 164 1 Q z.length (z.map λai=>C' ai.q))
  (I:z.length < 6->∀x,El w x->Cp 152 #[C' G,C' q,AL 11 V i s kp Y Z aa ab ac] x λr y=>Rr r (.bool true)/\R y) (J:∀x,El w x->R x):
  Cp 96 #[C' G,C' q,AL 11 V i s kp Y Z aa ab ac] w λr y=>Rr r (.bool true)/\R y:=by
 have c1:=Bi 0 F.blk;simp at c1;obtain⟨av,cap,M,hl,_,_⟩:=AR H;rw[z42]at M hl;have ax:=z12 F.blk;have hb:∀O,El w (w.alloc O):=λO=>(z11 _ _).alloc (z16 _) O;by_cases aj:z.length < 6
 .have ak:=λO=>y' (I aj (w.alloc O) (hb O));have ao:¬ (6:Int)<=z.length:=by omega
  clear F H hb I J;subst M;unfold C' AL at *;go_enter func96,ntmps96;go_upto_region 17 with fail;go_wp2_with (go_at_call 152;refine Cm (ak _) ?_;rintro ay az ⟨rfl,aq⟩);go_ret;exact⟨rfl,aq⟩
 have ao:(6:Int)<=z.length:=by omega
 have au:=λO=>y' (J (w.alloc O) (hb O));clear F H hb I J;subst M;unfold C' AL at *;go_enter func96,ntmps96;go_wp2;go_ret;exact⟨rfl,d' (au _)⟩
theorem gN (R:World->Prop) (A:Nat->Nat->Prop) (w:World) (F:Nat) (ac M ad:Value) (hs:List Nat) (ls:List AD) (q:Nat) (Q i:Int) (s:z10) (kp V Y Z aa:Int) (ab:z10)
  (z:Jm A w F ac M ad hs) (G:w.ownsRow 0 176 1 M ls.length (ls.map λah=>C' ah.q))
  (H:ls.length < 6->∀x,El w x->Cp 155 #[C' F,C' q,AL 12 Q i s kp V Y Z aa ab] x λr y=>Rr r (.bool true)/\R y) (I:∀x,El w x->R x):
  Cp 98 #[C' F,C' q,AL 12 Q i s kp V Y Z aa ab] w λr y=>Rr r (.bool true)/\R y:=by
 have c1:=Bi 1 z.blk;simp at c1;obtain⟨au,cap,J,hl,_,_⟩:=AR G;rw[z42]at J hl;have av:=z12 z.blk;have hb:∀O,El w (w.alloc O):=λO=>(z11 _ _).alloc (z16 _) O;by_cases ai:ls.length < 6
 .have aj:=λO=>y' (H ai (w.alloc O) (hb O));have ak:¬ (6:Int)<=ls.length:=by omega
  clear z G hb H I;subst J;unfold C' AL at *;go_enter func98,ntmps98;go_upto_region 12 with fail;go_wp2_with (go_at_call 155;refine Cm (aj _) ?_;rintro ax ay ⟨rfl,ao⟩);go_ret;exact⟨rfl,ao⟩
 have ak:(6:Int)<=ls.length:=by omega
 have aq:=λO=>y' (I (w.alloc O) (hb O));clear z G hb H I;subst J;unfold C' AL at *;go_enter func98,ntmps98;go_wp2;go_ret;exact⟨rfl,d' (aq _)⟩
def SU (L:List UInt8) (w:World) (v:Nat) (U:Nat->Prop):Prop:=
 ∃p g tk z F free sh st c,w.heap[v]? =some (.cells #[C' p] 76 (0,0))/\Ja w p g tk z F free sh st c/\st.dk.bytes=L/\∀k,(k=v\/PaU p c k)->U k
theorem SU.far {L:List UInt8} {w x:World} {v:Nat} {U E:Nat->Prop} (h:SU L w v U) (z:Far E w x) (F:∀k,U k->¬E k):SU L x v U:=by
 obtain⟨p,g,tk,G,H,free,sh,st,c,h1,h2,h3,h4⟩:=h;exact⟨p,g,tk,G,H,free,sh,st,c,z.blk h1 (F v (h4 v (.inl rfl))),h2.far z (λk I=>F k (h4 k (.inr I))),h3,h4⟩
theorem SU.call (h:SU r p w N) (z:Int):
  Cp 23 #[C' w,.int .u64 z] p λF y=>∃v',F=.returned v'/\Qw p.heap.size y v' r/\El p y:=by
 obtain⟨G,g,tk,H,I,free,sh,st,c,h1,h2,rfl,_⟩:=h;exact yY h1 h2 z
theorem Ec (h:QH w a q p b c N):∃ (L:List UInt8) (c2 hd:Nat) (free:List Nat) (z:Nat->List Nat),Xu L w c2 hd c free z/\Xl c free z/\SU L p b N:=by
 obtain⟨F,g,free,sh,z,st,G,hb,H,hs,O,rfl⟩:=h;exact⟨st.dk.bytes,st.count,st.head,free,z,by rw[<-hs.op];exact hs.dk,O.places,F,g,_,_,_,free,sh,st,G,hb,H,rfl,λ_ h=>h⟩
theorem Ed (h:SJ w p a c N):c.Qa=w/\∃ (L:List UInt8) (c2 hd:Nat) (free:List Nat) (z:Nat->List Nat),Xu L w c2 hd c free z/\Xl c free z/\SU L p a N:=by
 obtain⟨F,g,free,sh,st,G,hb,H,hs,I,rfl⟩:=h;obtain⟨c2,hd,J,M,Q,V⟩:=hs.dk;exact⟨I,st.dk.bytes,c2,hd,J,M,by rw[<-hs.op];exact Q,V,F,g,_,_,_,free,sh,st,G,hb,H,rfl,λ_ h=>h⟩
def SV (L:List UInt8) (w:World) (v:Nat) (U:Nat->Prop):Prop:=
 ∃p e Qc sh st c,w.heap[v]? =some (.cells #[C' p] 79 (0,0))/\Jo w p e Qc sh st c/\st.dk.bytes=L/\∀k,(k=v\/PkU p c k)->U k
theorem SV.far {L:List UInt8} {w x:World} {v:Nat} {U E:Nat->Prop} (h:SV L w v U) (z:Far E w x) (F:∀k,U k->¬E k):SV L x v U:=by
 obtain⟨p,e,Qc,sh,st,c,h1,h2,h3,h4⟩:=h;exact⟨p,e,Qc,sh,st,c,z.blk h1 (F v (h4 v (.inl rfl))),h2.far z (λk G=>F k (h4 k (.inr G))),h3,h4⟩
theorem SV.call (h:SV r p w N) (z:Int):
  Cp 28 #[C' w,.int .u64 z] p λF y=>∃v',F=.returned v'/\Qw p.heap.size y v' r/\El p y:=by
 obtain⟨G,e,Qc,sh,st,c,h1,h2,rfl,_⟩:=h;exact yX h1 h2 z
theorem Ee (h:SO w a q p b x N):∃ (L:List UInt8) (c2 hd:Nat),Zb L w c2 hd x.Qa x.Qc/\SV L p b N:=by
 obtain⟨z,sh,st,c,hb,F,hs,G,H,rfl⟩:=h;exact⟨st.dk.bytes,st.count,st.head,by rw[<-hs.op];exact hs.dk,z,_,_,sh,st,c,hb,F,rfl,λ_ h=>h⟩
theorem rI (z:Jj w c) (G:c.Qa+1<=2147483647):Jj w (Zq c):=by
 refine⟨G,z54 _,λs hs=>?_,λs hs x F=>?_⟩;have:=z.sum s hs;simp only[Zq,if_pos hs,List.length_map];exact this;simp only[Zq,if_pos hs,List.mem_map]at F;obtain⟨y,H,rfl⟩:=F;exact⟨(z.bod s hs y H).1,z54 _⟩
theorem rJ (z:Jd x):Jd (MB x):=⟨λh F=>by simp[MB]at F,by simp[MB],z.room,z.ep⟩
def VT (ar:Bool) (lf:Int) (n:Nat):Prop:=(ar=false/\n=0)\/(ar=true/\1<=n/\(n:Int)<=lf)
theorem VT.same {n:Nat} (h:VT aD o n) (z:n=0\/w < n):VT aD o (n - w):=by
 rcases h with ⟨h1,h2⟩|⟨h1,h2,h3⟩;exact .inl ⟨h1,by omega⟩;exact .inr ⟨h1,by omega,by omega⟩
theorem VT.wrote {k:Nat} (h:VT aD o w) (z:w=0\/k < w) (h1:1<=k):(aD=true->2<=o)/\∀lf',(aD=true->lf'=o - 1)->VT aD lf' (w - k):=by
 rcases h with ⟨h2,h3⟩|⟨h2,h3,h4⟩;exact⟨λe=>(by rw[h2]at e;cases e),λ_ _=>.inl ⟨h2,by omega⟩⟩;refine⟨λ_=>by omega,λlf' e=>.inr ⟨h2,by omega,?_⟩⟩;have:=e h2;omega
def AgL (N:Nat) (ar:Bool) (lf:Int) (d:Bool) (w:World) (v:Nat) (a:Ag) (U:Nat->Prop):Prop:=
 (d=false/\∃n,VT ar lf n/\WL n w v a U)\/(d=true/\∃t,t<=N/\SJ a.Qa w v {a with Qf:=t} U)
def MY (d:Bool) (a:Ag):Ag×List (List UInt8):=if d=true then(a,[])else a.tick
def JI (d:Bool) (a:Ag) (i:Int):List z10:=if d=true then []else DT a i
section
variable {N:Nat} {ar d:Bool} {lf:Int} {w w':World} {v:Nat} {a:Ag} {U:Nat->Prop}
theorem AgL.lt (h:AgL N ar lf d w v a U):∀k,U k->k < w.heap.size:=by
 rcases h with ⟨_,n,_,h⟩|⟨_,t,_,h⟩;exact Hc h;exact He h
theorem AgL.far {E:Nat->Prop} (h:AgL N ar lf d w v a U) (z:Far E w w') (F:∀k,U k->¬E k):AgL N ar lf d w' v a U:=by
 rcases h with ⟨e,n,h1,h⟩|⟨e,t,h1,h⟩;exact .inl ⟨e,n,h1,Dp h z F⟩;exact .inr ⟨e,t,h1,Dq h z F⟩
theorem AgL.mono {z:Nat} (h:AgL N ar lf d w v a U) (F:N<=z):AgL z ar lf d w v a U:=by
 rcases h with h|⟨e,t,h1,h⟩;exact .inl h;exact .inr ⟨e,t,by omega,h⟩
theorem AgL.dead {ar':Bool} {lf':Int} (h:AgL N ar lf true w v a U):AgL N ar' lf' true w v a U:=by
 rcases h with ⟨e,_⟩|h;cases e;exact .inr h
theorem AgL.Xm (i:Int) (s:z10) (h:AgL N ar lf d w v a U) (z:Jj N a) (G:N < 1000000000):
  Cp 22 #[C' v,Ej i,.string s] w λr w'=>∃ (e:Int) (U':Nat->Prop),r=.returned (Ej e)/\Far U w w'/\(∀k,U' k->U k\/w.heap.size<=k)/\
   ((d=true/\e=3/\AgL N ar lf true w' v a U')\/(d=false/\ar=true/\e=4/\a.Je i s.size=0/\AgL N ar lf true w' v a U')\/
    (d=false/\e=a.Je i s.size/\(e≠0->AgL N ar lf false w' v a U')/\(e=0->(ar=true->2<=lf)/\∀lf',(ar=true->lf'=lf - 1)->AgL N ar lf' false w' v (BF a i s) U'))):=by
 rcases h with ⟨rfl,n,F,h⟩|⟨rfl,t,H,h⟩;by_cases hn:n≠1\/a.Je i s.size≠0;refine(Dr i s h z G hn).mono ?_;rintro r w' ⟨U',rfl,k1,k2,k3⟩;refine⟨_,U',rfl,k2,k3,.inr (.inr ⟨rfl,rfl,λe=>?_,λe=>?_⟩)⟩;unfold zB BF at k1;rw[if_neg e,if_neg e]at k1;exact .inl ⟨rfl,n,F,k1⟩;unfold zB at k1;rw[if_pos e]at k1;obtain⟨I,J⟩:=F.wrote (k:=1) (by omega) (z16 _);exact⟨I,λlf' hl=>.inl ⟨rfl,_,J lf' hl,k1⟩⟩;have h1:n=1:=by omega
 have h2:a.Je i s.size=0:=by omega
 subst h1;refine(lP i s h z G h2).mono ?_;rintro r w' ⟨U',rfl,k1,k2,k3⟩;refine⟨_,U',rfl,k2,k3,.inr (.inl ⟨rfl,?_,rfl,h2,.inr ⟨rfl,a.Qf,z.tk,k1⟩⟩)⟩;rcases F with ⟨_,q⟩|⟨q,_⟩;cases q;exact q;refine(lQ i s h).mono ?_;rintro r w' ⟨rfl,rfl⟩;exact⟨_,U,rfl,Far.refl _ _,λ_ M=>.inl M,.inl ⟨rfl,rfl,.inr ⟨rfl,t,H,h⟩⟩⟩
theorem AgL.Qv (bs:Value) (l:List UInt8) (h:AgL N ar lf d w v a U) (z:Jj N a) (G:N < 1000000000) (H:Qk w bs l):
  Cp 16 #[C' v,bs] w λr w'=>∃ (e:Int) (U':Nat->Prop),r=.returned (Ej e)/\Far U w w'/\(∀k,U' k->U k\/w.heap.size<=k)/\
   ((d=true/\e=3/\AgL N ar lf true w' v a U')\/(d=false/\ar=true/\e=4/\0 < GI a l/\AgL N ar lf true w' v a U')\/
    (d=false/\e=(CJ a l).1/\(GI a l=0->AgL N ar lf false w' v (CJ a l).2 U')/\(0 < GI a l->(ar=true->2<=lf)/\∀lf',(ar=true->lf'=lf - 1)->AgL N ar lf' false w' v (CJ a l).2 U'))):=by
 rcases h with ⟨rfl,n,F,h⟩|⟨rfl,t,I,h⟩;by_cases hn:n≠1\/GI a l=0;refine(zC bs l h z G H hn).mono ?_;rintro r w' ⟨U',rfl,k1,k2,k3⟩;refine⟨_,U',rfl,k2,k3,.inr (.inr ⟨rfl,rfl,λe=>?_,λe=>?_⟩)⟩;rw[e,FT]at k1;exact .inl ⟨rfl,n,F,k1⟩;rw[pV _ e]at k1;obtain⟨J,M⟩:=F.wrote (k:=1) (by omega) (z16 _);exact⟨J,λlf' hl=>.inl ⟨rfl,_,M lf' hl,k1⟩⟩;have h1:n=1:=by omega
 have h2:0 < GI a l:=by omega
 subst h1;refine(gG bs l h z G H h2).mono ?_;rintro r w' ⟨U',rfl,k1,k2,k3⟩;refine⟨_,U',rfl,k2,k3,.inr (.inl ⟨rfl,?_,rfl,h2,.inr ⟨rfl,a.Qf,z.tk,k1⟩⟩)⟩;rcases F with ⟨_,q⟩|⟨q,_⟩;cases q;exact q;refine(gF bs h).mono ?_;rintro r w' ⟨rfl,rfl⟩;exact⟨_,U,rfl,Far.refl _ _,λ_ Q=>.inl Q,.inl ⟨rfl,rfl,.inr ⟨rfl,t,I,h⟩⟩⟩
theorem AgL.tick (h:AgL N ar lf d w v a U) (G:Jj N a) (H:N < 1000000000):
  Cp 13 #[C' v] w λr w'=>
   ∃lv z U',r=.returned lv/\Qj w.heap.size w' lv z ((MY d a).2.map λl=>⟨l.toArray⟩) U'/\AgL (N+1) ar lf d w' v (MY d a).1 U'/\Far U w w'/\∀k,U' k->U k\/w.heap.size<=k:=by
 rcases h with ⟨rfl,n,I,h⟩|⟨rfl,t,J,h⟩;refine(Lw h G H).mono ?_;rintro r w' ⟨lv,z,U',rfl,k0,k1,k2,k3⟩;exact⟨lv,z,U',rfl,k0,.inl ⟨rfl,n,I,k1⟩,k2,k3⟩;refine(uN h (by show t<= _;omega)).mono ?_;rintro r w' ⟨U',rfl,k1,k2,k3⟩;exact⟨_,[],U',rfl,(EU _ _).apartU (λk F=>by rcases F with F|⟨j,hj,_⟩;cases F;simp at hj),.inr ⟨rfl,t+1,by omega,k1⟩,k2,k3⟩
theorem AgL.Xn (i:Int) (h:AgL N ar lf d w v a U):Cp 18 #[C' v,Ej i] w λr w'=>
  ∃lv,r=.returned lv/\w'.ownsRow w.heap.size 9 1 lv (JI d a i).length (AF (JI d a i))/\El w w':=by
 rcases h with ⟨rfl,n,_,h⟩|⟨rfl,t,_,h⟩;exact Hi i h;obtain⟨p,g,free,sh,st,c,hb,z,hs,G,rfl⟩:=h;have c0:w.cell? (Ea v 0)=some (C' p):=Bi 0 hb;have F:=y' (lN z hs.dead i);clear z hb;unfold C' at *;go_enter func18,ntmps18;go_wp2_with (go_at_call 47;refine Cm F ?_;rintro r y ⟨rfl,rfl⟩);go_ret;exact⟨_,rfl,z20 _ _ _ _,z11 _ _⟩
theorem jF {p:Nat} {g:Nat->Nat} {tk:Nat} {F G:Bool} {free:List Nat} {sh:Nat->List (Nat×Value)} {st:Stv} {c:Av} (hb:Eh w v #[C' p] 76) (z:Ja w p g tk F G free sh st c):
  Cp 24 #[C' v] w λr w'=>Rr r (Ej st.Qe)/\w'=w:=by
 have c0:w.cell? (Ea v 0)=some (C' p):=Bi 0 hb;have H:=y' (DW z);clear z hb;unfold C' at *;go_enter func24,ntmps24;go_wp2_with (go_at_call 52;refine Cm H ?_;rintro r y ⟨rfl,rfl⟩);go_ret;exact⟨rfl,rfl⟩
theorem AgL.Qa (h:AgL N ar lf d w v a U):Cp 24 #[C' v] w λr w'=>Rr r (Ej a.Qa)/\El w w':=by
 rcases h with ⟨rfl,n,_,p,g,free,sh,F,st,c,hb,z,hs,O,rfl⟩|⟨rfl,t,_,p,g,free,sh,st,c,hb,z,hs,G,rfl⟩;refine(jF hb z).mono ?_;rintro r y ⟨rfl,rfl⟩;exact⟨by rw[hs.op],z11 _ _⟩;refine(jF hb z).mono ?_;rintro r y ⟨rfl,rfl⟩;exact⟨by rw[hs.op],z11 _ _⟩
theorem AgL.arm (m:Int) (h:AgL N ar lf d w v a U) (z:m<=9223372036854775807):Cp 11 #[C' v,Ej m] w λr w'=>Rr r (.tuple #[])/\AgL N (decide (0 < m) && !d) m d w' v a U/\Far U w w':=by
 rcases h with ⟨rfl,n,G,h⟩|⟨rfl,t,F,h⟩;refine(Mr m h z).mono ?_;rintro r w' ⟨rfl,k1,k2⟩;refine⟨rfl,.inl ⟨rfl,_,?_,k1⟩,k2⟩;by_cases h0:0 < m;exact .inr ⟨by simp[h0],by omega,by omega⟩;exact .inl ⟨by simp[h0],by omega⟩;refine(Hj m h z).mono ?_;rintro r w' ⟨rfl,k1,k2⟩;exact⟨rfl,.inr ⟨rfl,t,F,k1⟩,k2⟩
theorem Ef (bs:Value) (L:List UInt8) {c2 hd:Nat} {free:List Nat} {z:Nat->List Nat} (F:Qk w bs L) (D:Xu L a.Qa c2 hd a free z) (P:Xl a free z) (G:a.Qa<=1073741824) (H:∀i,i < 3->(a.fl i).base+(a.fl i).kept.length<=1073741824):
  Cp 21 #[bs] w λr w'=>∃v U,r=.returned (.tuple #[C' v,Ej 0])/\(∀N lf,AgL N false lf false w' v (Zq a) U)/\El w w'/\∀k,U k->w.heap.size<=k:=by
 refine(Lv bs L F D P G H).mono ?_;rintro r w' ⟨v,U,rfl,k1,k2,k3⟩;exact⟨v,U,rfl,λN lf=>.inl ⟨rfl,0,.inl ⟨rfl,rfl⟩,k1⟩,k2,k3⟩
theorem Eg (bs:Value) (z:Qk w bs (List.replicate 1664 0)):
  Cp 21 #[bs] w λr w'=>∃v U,r=.returned (.tuple #[C' v,Ej 0])/\(∀N lf,AgL N false lf false w' v {Qa:=1,Qf:=0,Qd:=false,fenced:=false,fl:=λ_=>{base:=0,kept:=[],held:=[]}} U)/\El w w'/\∀k,U k->w.heap.size<=k:=by
 refine(qO bs z).mono ?_;rintro r w' ⟨v,U,rfl,k1,k2,k3⟩;exact⟨v,U,rfl,λN lf=>.inl ⟨rfl,0,.inl ⟨rfl,rfl⟩,k1⟩,k2,k3⟩
end
def SkL (K:Nat) (ar:Bool) (lf:Int) (d:Bool) (w:World) (v:Nat) (s:Mq.Sk) (z:Nat->List z10) (U:Nat->Prop):Prop:=
 (d=false/\∃op ct n,op<=K+1/\ct<=1000 * (K+1)/\VT ar lf n/\SO op ct n w v s U)\/(d=true/\∃op,op<=K+1/\gK op w v s.Qa z U)
def mA (d:Bool) (s:Mq.Sk) (i:Int):List z10:=if d=true then []else ML s i
theorem Ek (z:Jd x) (k e:Int) (s q:Nat) (b:z10):rC x k e s q b<=120:=by
 unfold rC hiW;have:=JL (a:=x) 3 x.Qa s q b z.room;repeat' split
 all_goals omega
theorem Hv (z:Jd x) (l:List UInt8):skW x l<=120:=by
 unfold skW;split;exact Ek z _ _ _ _ _;omega
section
variable {K:Nat} {ar d:Bool} {lf:Int} {w w':World} {v:Nat} {s:Mq.Sk} {lg:Nat->List z10} {U:Nat->Prop}
theorem SkL.lt (h:SkL K ar lf d w v s lg U):∀k,U k->k < w.heap.size:=by
 rcases h with ⟨_,op,ct,n,_,_,_,h⟩|⟨_,op,_,h⟩;exact Ht h;exact Hu h
theorem SkL.far {E:Nat->Prop} (h:SkL K ar lf d w v s lg U) (z:Far E w w') (F:∀k,U k->¬E k):SkL K ar lf d w' v s lg U:=by
 rcases h with ⟨e,op,ct,n,h1,h2,h3,h⟩|⟨e,op,h1,h⟩;exact .inl ⟨e,op,ct,n,h1,h2,h3,Dy h z F⟩;exact .inr ⟨e,op,h1,Dz h z F⟩
theorem SkL.dead {ar':Bool} {lf':Int} (h:SkL K ar lf true w v s lg U):SkL K ar' lf' true w v s lg U:=by
 rcases h with ⟨e,_⟩|h;cases e;exact .inr h
theorem SkL.Qv (bs:Value) (l:List UInt8) (h:SkL K ar lf d w v s lg U) (H:Jd s) (hK:K < 1000000000) (J:Qk w bs l):
  Cp 15 #[C' v,bs] w λr w'=>∃ (e:Int) (lv:Value) (z:List Value) (G:List z10) (U':Nat->Prop),r=.returned (.tuple #[lv,Ej e])/\Qj w.heap.size w' lv z G U'/\Far U w w'/\(∀k,U' k->U k\/w.heap.size<=k)/\
   ((d=true/\e=3/\G=[]/\SkL (K+1) ar lf true w' v s lg U')\/(d=false/\ar=true/\e=4/\G=[]/\∃n,1<=n/\n<=skW s l/\SkL (K+1) ar lf true w' v s (OK s l n) U')\/
    (d=false/\e=(BN s l).1/\G=(BN s l).2.2/\(skW s l=0->SkL (K+1) ar lf false w' v (BN s l).2.1 lg U')/\(0 < skW s l->(ar=true->2<=lf)/\∀lf',(ar=true->lf'=lf - 1)->SkL (K+1) ar lf' false w' v (BN s l).2.1 lg U'))):=by
 rcases h with ⟨rfl,op,ct,n,h1,h2,I,h⟩|⟨rfl,op,h1,h⟩;have V:=Hv H l;by_cases hn:n=0\/skW s l < n;refine(lX bs l h (by omega) H J hn).mono ?_;rintro r w' ⟨lv,z,U',rfl,k0,k1,k2,k3⟩;refine⟨_,lv,z,_,U',rfl,k0,k2,k3,.inr (.inr ⟨rfl,rfl,rfl,λe=>.inl ⟨rfl,op,_,_,by omega,by omega,I.same hn,k1⟩,λe=>?_⟩)⟩;obtain⟨M,Q⟩:=I.wrote hn e;exact⟨M,λlf' hl=>.inl ⟨rfl,op,_,_,by omega,by omega,Q lf' hl,k1⟩⟩;refine(gL bs l h (by omega) H J (by omega)).mono ?_;rintro r w' ⟨lv,z,U',rfl,k0,k1,k2,k3⟩;refine⟨_,lv,z,_,U',rfl,k0,k2,k3,.inr (.inl ⟨rfl,?_,rfl,rfl,n,by omega,by omega,.inr ⟨rfl,op,by omega,k1⟩⟩)⟩;rcases I with ⟨_,q⟩|⟨q,_⟩;omega;exact q;refine(zI bs h).mono ?_;rintro r w' ⟨rfl,rfl⟩;exact⟨_,_,[],[],U,rfl,(EU _ _).apartU (λk F=>by rcases F with F|⟨j,hj,_⟩;cases F;simp at hj),Far.refl _ _,λ_ F=>.inl F,.inl ⟨rfl,rfl,rfl,.inr ⟨rfl,op,by omega,h⟩⟩⟩
theorem SkL.log (i:Int) (h:SkL K ar lf d w v s lg U):Cp 17 #[C' v,Ej i] w λr w'=>
  ∃lv,r=.returned lv/\w'.ownsRow w.heap.size 9 1 lv (mA d s i).length (AF (mA d s i))/\El w w':=by
 rcases h with ⟨rfl,op,ct,n,_,_,_,h⟩|⟨rfl,op,_,h⟩;exact Mt i h;refine(Mu i h).mono ?_;rintro r y ⟨rfl,rfl⟩;exact⟨_,rfl,z20 _ _ _ _,z11 _ _⟩
theorem VU {p e:Nat} {Qc:Nat->List z10} {sh:Nat->List (Nat×Value)} {st:Stv} {c:Sv} (hb:Eh w v #[C' p] 79) (z:Jo w p e Qc sh st c):
  Cp 27 #[C' v] w λr w'=>Rr r (Ej e)/\w'=w:=by
 have c0:w.cell? (Ea v 0)=some (C' p):=Bi 0 hb;have F:=y' (fV z);clear z hb;unfold C' at *;go_enter func27,ntmps27;go_wp2_with (go_at_call 55;refine Cm F ?_;rintro r y ⟨rfl,rfl⟩);go_ret;exact⟨rfl,rfl⟩
theorem SkL.Qa (h:SkL K ar lf d w v s lg U):Cp 27 #[C' v] w λr w'=>Rr r (Ej s.Qa)/\w'=w:=by
 rcases h with ⟨rfl,op,ct,n,_,_,_,p,sh,st,c,hb,z,_⟩|⟨rfl,op,_,p,sh,st,c,hb,z,_⟩;exact VU hb z;exact VU hb z
theorem SkL.arm (m:Int) (h:SkL K ar lf d w v s lg U) (z:m<=9223372036854775807):Cp 12 #[C' v,Ej m] w λr w'=>Rr r (.tuple #[])/\SkL K (decide (0 < m) && !d) m d w' v s lg U/\Far U w w':=by
 rcases h with ⟨rfl,op,ct,n,h1,h2,_,h⟩|⟨rfl,op,h1,h⟩;refine(Mv m h z).mono ?_;rintro r w' ⟨rfl,k1,k2⟩;refine⟨rfl,.inl ⟨rfl,op,ct,_,h1,h2,?_,k1⟩,k2⟩;by_cases h0:0 < m;exact .inr ⟨by simp[h0],by omega,by omega⟩;exact .inl ⟨by simp[h0],by omega⟩;refine(Mw m h z).mono ?_;rintro r w' ⟨rfl,k1,k2⟩;exact⟨rfl,.inr ⟨rfl,op,h1,k1⟩,k2⟩
def wG (d:Bool) (s:Mq.Sk) (lg:Nat->List z10):Nat->List z10:=if d=true then lg else s.Qc
theorem Em (bs:Value) (L:List UInt8) {op c2 hd e:Nat} {lg:Nat->List z10} (F:Qk w bs L) (D:Zb L op c2 hd e lg) (G:op<=K+1) (hK:K < 1000000000):
  Cp 25 #[bs] w λr w'=>∃v U,r=.returned (.tuple #[C' v,Ej 0])/\(∀lf z,SkL (K+1) false lf false w' v {Qa:=e,Qc:=lg,held:=[]} z U)/\El w w'/\∀k,U k->w.heap.size<=k:=by
 refine(Ma bs L F D (by omega)).mono ?_;rintro r w' ⟨v,U,rfl,k1,k2,k3⟩;exact⟨v,U,rfl,λlf z=>.inl ⟨rfl,op+1,1,0,by omega,by omega,.inl ⟨rfl,rfl⟩,k1⟩,k2,k3⟩
theorem Eo (bs:Value) (F:Qk w bs (List.replicate 7808 0)):
  Cp 25 #[bs] w λr w'=>∃v U,r=.returned (.tuple #[C' v,Ej 0])/\(∀K lf z,SkL K false lf false w' v {Qa:=0,Qc:=λ_=>[],held:=[]} z U)/\El w w'/\∀k,U k->w.heap.size<=k:=by
 refine(rF bs F).mono ?_;rintro r w' ⟨v,U,rfl,k1,k2,k3⟩;exact⟨v,U,rfl,λK lf z=>.inl ⟨rfl,1,1,0,by omega,by omega,.inl ⟨rfl,rfl⟩,k1⟩,k2,k3⟩
end
theorem MV (w:World) (q:Nat) (F G:Value) (ar:Bool) (left:Int) (h:Eh w q #[F,G,.bool ar,Ej left] j) (hl:ar=true->2<=left) (H:left<=9223372036854775807):
  Cp 186 #[Er q 2] w λr w'=>Rr r (.bool true)/\∃z,(ar=true->z=left - 1)/\z<=9223372036854775807/\w'=w.setCell ⟨q,3,none⟩ (Ej z):=by
 have c2:w.cell? (Ea q 2)=some (.bool ar):=Bi 2 h;have c3:w.cell? (Ea q 3)=some (Ej left):=Bi 3 h;have f3:=H' (i:=3) h;have c4:∀v,(w.setCell ⟨q,3,none⟩ v).cell? (Ea q 2)=some (.bool ar):=λv=>by have:=Bi 2 (AA (j:=3) (v:=v) h);simpa using this
 have c5:∀v,(w.setCell ⟨q,3,none⟩ v).cell? (Ea q 3)=some v:=λv=>by have:=Bi 3 (AA (j:=3) (v:=v) h);simpa using this
 clear h;cases ar
 .clear c5 hl H;go_enter func186,ntmps186;go_wp2;go_ret;exact⟨rfl,_,λe=>(by cases e),by unfold wrap64;omega,rfl⟩
 have h2:=hl rfl;have I:IntKind.i64.wrap (left - 1)=left - 1:=by rw[z28];omega
 have h0:1 < left:=by omega
 clear hl;go_enter func186,ntmps186;go_wp2;go_ret;exact⟨rfl,_,λ_=>rfl,by omega,rfl⟩
section
variable {w:World} {p:Nat} {a:Ag} {r:AY} {kv hv:Nat->Value}
theorem mB (R:Qi w p a r kv hv) (g0 g1 g2 st:Int) (z:Option Addr) (F G:Nat):
  Cp 206 #[Er p 0,.agg #[Ej g0,Ej g1,Ej g2],Ej st,.slice z F G] w λx w'=>Rr x (.tuple #[])/\
   Qi w' p a ⟨true,g0,g1,g2,st,.slice z F G⟩ kv hv/\Far (λk=>k=p) w w':=by
 have f4:=H' (i:=4) R.blk;have f14:=H' (i:=14) R.blk;have f15:=H' (i:=15) R.blk;have f16:=H' (i:=16) R.blk;have f17:=H' (i:=17) R.blk;have f18:=H' (i:=18) R.blk;have c4:=Bi 4 R.blk;have M:=Bi 14 R.blk;have Q:=Bi 15 R.blk;have V:=Bi 16 R.blk;have Y:=Bi 17 R.blk;have Z:=Bi 18 R.blk;simp[AE]at c4 M Q V Y Z;have ah:=z12 R.blk;have aa:=y' R;clear R;go_enter func206,ntmps206;go_wp2;have R:=d' aa;refine z74 (z64 rfl _ _ _) rfl ⟨rfl,?_⟩;have J:=AA (j:=18) (v:=.slice z F G) (AA (j:=17) (v:=Ej st) (AA (j:=16) (v:=Ej g2) (AA (j:=15) (v:=Ej g1) (AA (j:=14) (v:=Ej g0) (AA (j:=4) (v:=.bool true) R.blk)))));have H:Far (λk=>k=p) w ((((((w.setCell ⟨p,4,none⟩ (.bool true)).setCell ⟨p,14,none⟩ (Ej g0)).setCell ⟨p,15,none⟩ (Ej g1)).setCell ⟨p,16,none⟩ (Ej g2)).setCell ⟨p,17,none⟩ (Ej st)).setCell ⟨p,18,none⟩ (.slice z F G)):=
  (((((T' w p 4 _).trans (T' _ p 14 _) Ih).trans (T' _ p 15 _) Ih).trans (T' _ p 16 _) Ih).trans (T' _ p 17 _) Ih).trans (T' _ p 18 _) Ih
 have ab:∀s,s < 3->∀g,(kv s).ownBlock=some g->¬g=p:=λs hs g I e=>(R.kept s hs).ne R.blk (by decide) (e ▸ I);have ac:∀s,s < 3->∀g,(hv s).ownBlock=some g->¬g=p:=λs hs g I e=>(R.held s hs).ne R.blk (by decide) (e ▸ I);generalize ((((((w.setCell ⟨p,4,none⟩ (.bool true)).setCell ⟨p,14,none⟩ (Ej g0)).setCell ⟨p,15,none⟩ (Ej g1)).setCell ⟨p,16,none⟩ (Ej g2)).setCell ⟨p,17,none⟩ (Ej st)).setCell ⟨p,18,none⟩ (.slice z F G))=y at J H ⊢;have ad:Qi y p a ⟨true,g0,g1,g2,st,.slice z F G⟩ kv hv:=⟨by simpa[AE]using J,λs hs=>(R.kept s hs).far H (ab s hs),λs hs=>(R.held s hs).far H (ac s hs),R.apk,R.aph,R.ep,R.tk,R.bs,R.kl,R.hl⟩;have A:Far (λ_=>False) y (y.alloc (.cells #[Ej g0,Ej g1,Ej g2] 35)):=I' bna;exact⟨ad.far A Ih,H.trans A (λ_ _ h=>h.elim)⟩
theorem VV {q:Nat} {Q:Value} {ar:Bool} {lf:Int} (B:Eh w q #[Q,C' p,.bool ar,Ej lf] 175) (R:Qi w p a r kv hv) (I:¬CP p kv hv q) (g0 g1 g2 st:Int) (z:Option Addr) (F G:Nat):
  Cp 184 #[Er q 0,.agg #[Ej g0,Ej g1,Ej g2],Ej st,.slice z F G] w λx w'=>Rr x (.bool (ar&& !r.dead))/\
   Eh w' q #[Q,C' p,.bool false,Ej lf] 175/\Qi w' p a ⟨true,g0,g1,g2,st,.slice z F G⟩ kv hv/\Far (λk=>k=q\/k=p) w w':=by
 have c1:=Bi 1 B;have c2:=Bi 2 B;have f2:=H' (i:=2) B;have c4:=Bi 4 R.blk;simp[AE,C']at c1 c2 c4;have aj:=z12 B;have aL:=z12 R.blk;obtain⟨d,hd⟩:=exq (r.dead);rw[<-hd]at c4 ⊢;have ak:=y' hd;have J:=T' w q 2 (.bool false);have V:=R.far J (λk Y e=>I (by rw[e]at Y;exact Y));have M:=AA (j:=2) (v:=.bool false) B;have Z:∀O,((w.setCell ⟨q,2,none⟩ (.bool false)).alloc O).cell? (Ea q 1)=some (Er p 0):=λO=>by have:=Bi 1 ((z35 (w.setCell ⟨q,2,none⟩ (.bool false)) O q (by simpa using aj)).trans M);simpa[C']using this
 have ao:=y' M;have aq:=y' V;have au:=y' J;have av:=y' I;clear R B hd V M J I;cases ar;all_goals
  go_enter func184,ntmps184;go_upto_region 3 with fail;have aM:p < ((w.setCell ⟨q,2,none⟩ (.bool false)).alloc (.cells #[Ej g0,Ej g1,Ej g2] 35)).heap.size:=by simp;omega
  have ax:q < ((w.setCell ⟨q,2,none⟩ (.bool false)).alloc (.cells #[Ej g0,Ej g1,Ej g2] 35)).heap.size:=by simp;omega
  have ay:=Z (.cells #[Ej g0,Ej g1,Ej g2] 35);have az:Hid (Far (λ_=>False) (w.setCell ⟨q,2,none⟩ (.bool false)) ((w.setCell ⟨q,2,none⟩ (.bool false)).alloc (.cells #[Ej g0,Ej g1,Ej g2] 35))):=I' bna;clear Z c1 c2 c4 f2;refine Z'
   [Ep q 0,Ep q 0,Ep q 1,Ep p 0,Ev (.agg #[Ej g0,Ej g1,Ej g2]),Ei st,Ev (.slice z F G),Et]
   [[0],[1029],[2030],[3031],[5],[2],[3],[4032,5033,6034,7035]] [30,31,32,33,34,35,36,37] [29,8,1]
   7 _ rfl rfl ?_ ?_
  .refine⟨?_,?_,?_,?_,?_,?_,?_,trivial⟩;all_goals
    intro b x hb aA;have aN:=Bc hb ax ay;have aB:=DA hb 0;have aC:=DA hb 1;have b2:=DA hb 2;clear hb;simp at aB aC b2;simp[J']at aA;try go_simp
    try exact z11 _ _
   all_goals first|exact⟨rfl,z11 _ _⟩|skip
  .intro f x hb aa;simp only[AJ,List.take]at aa;obtain⟨_,_,_,aD,aE,aF,aG,_⟩:=aa;have H:Far (λ_=>False) (w.setCell ⟨q,2,none⟩ (.bool false)) x:=(d' az).trans (fbF hb) (λ_ _ h=>h.elim);have ab:=(d' aq).far H Ih;have ac:=H.blk (d' ao) (λh=>h);have aH:=y' ab;have aI:=y' ac;have aJ:=y' (((d' au).mono (E':=λk=>k=q\/k=p) (λ_ _ h=>.inl h)).trans H (λ_ _ h=>h.elim));clear hb H ab ac;simp only[V',aD,aE,aF,aG];go_simp;refine(mB (d' aH) g0 g1 g2 st z F G).mono ?_;rintro aO aP ⟨rfl,ad,ah⟩;have aK:=y' ad;have ai:=y' ah;clear ad ah;go_simp;go_wp2;go_ret;exact⟨by rw[d' ak];first|rfl|simp,(d' ai).blk (d' aI) (λe=>d' av (.inl e)),d' aK,(d' aJ).trans (d' ai) (λ_ _ h=>.inr h)⟩
end
def eC (d:Bool) (a:Ag) (i:Int) (n:Nat):Int:=if d=true then 3 else a.Je i n
section
variable {w:World} {p:Nat} {a:Ag} {r:AY} {kv hv:Nat->Value}
theorem mC (R:Qi w p a r kv hv) (st:Int) (b:z10):
  Cp 183 #[Er p 0,Ej st,.string b] w λe w'=>Rr e (Ej (eC r.dead a st b.size))/\∃n,w'=w.drewN n:=by
 cases hd:r.dead with
 |false=>exact nH R st b hd
 |true=>have c4:=Bi 4 R.blk;simp[AE,hd]at c4;have z:=y' (nG R);clear R hd;go_enter func183,ntmps183;go_wp2_with (go_at_call 205;refine Cm z ?_;rintro e w' ⟨rfl,k,rfl⟩);go_ret;exact⟨rfl,_,rfl⟩
theorem mD (R:Qi w p a r kv hv):CC w w p a r kv hv:=⟨kv,hv,R,Far.refl _ _,λ_ h=>.inl h⟩
theorem mE {N:Nat} (R:Qi w p a r kv hv) (z:Jj N a) (F:N+1<=2147483647):
  Cp 147 #[Er p 0] w λx w'=>∃v n,x=.returned v/\w'.ownsRow w.heap.size 9 1 v n (KN (MY r.dead a).2)/\CC w w' p (MY r.dead a).1 r kv hv:=by
 cases hd:r.dead with
 |false=>exact oB R hd z F
 |true=>have c4:=Bi 4 R.blk;simp[AE,hd]at c4;have G:=y' R;clear R hd;go_enter func147,ntmps147;go_wp2;go_ret;exact⟨_,0,rfl,z20 _ _ _ _,mD (d' G)⟩
theorem PI (R:Qi w p a r kv hv) (i:Int):
  Cp 150 #[Er p 0,Ej i] w λe w'=>∃v,e=.returned v/\w'.ownsRow w.heap.size 9 1 v (JI r.dead a i).length (AF (JI r.dead a i))/\El w w':=by
 cases hd:r.dead with
 |false=>exact fF R hd i
 |true=>have c4:=Bi 4 R.blk;simp[AE,hd]at c4;clear R hd;go_enter func150,ntmps150;go_wp2;go_ret;exact⟨_,rfl,z20 _ _ _ _,z11 _ _⟩
end
structure Sit where
 U:Nat->Prop
 At:World->Prop
 lt:∀ {w:World},At w->∀k,U k->k < w.heap.size
 far:∀ {w x:World} {E:Nat->Prop},At w->Far E w x->(∀k,U k->¬E k)->At x
structure Vp (T:TypeId) (q sv rp:Nat) (P R:Sit) (ar:Bool) (lf:Int) (x:World):Prop where
 blk:x.heap[q]? =some (.cells #[C' sv,C' rp,.bool ar,Ej lf] T (0,0))
 p:P.At x
 r:R.At x
 qP:¬P.U q
 qR:¬R.U q
 PR:∀k,P.U k->¬R.U k
section
variable {T:TypeId} {q sv rp:Nat} {P P' R R':Sit} {ar ar':Bool} {lf lf':Int} {x y:World}
def PrU (q:Nat) (P R:Sit) (k:Nat):Prop:=k=q\/R.U k\/P.U k
theorem Vp.lt (h:Vp T q sv rp P R ar lf x):∀k,PrU q P R k->k < x.heap.size:=by
 rintro k (rfl|z|z);exact z12 h.blk;exact R.lt h.r k z;exact P.lt h.p k z
theorem Vp.far {E:Nat->Prop} (h:Vp T q sv rp P R ar lf x) (z:Far E x y) (F:∀k,PrU q P R k->¬E k):Vp T q sv rp P R ar lf y:=
 ⟨z.blk h.blk (F q (.inl rfl)),P.far h.p z (λk G=>F k (.inr (.inr G))),R.far h.r z (λk G=>F k (.inr (.inl G))),h.qP,h.qR,h.PR⟩
def AZ (T:TypeId) (q sv rp:Nat) (P R:Sit) (ar:Bool) (lf:Int):AD:=⟨q,PrU q P R,Vp T q sv rp P R ar lf,λh=>h.lt,λh z F=>h.far z F⟩
theorem Vp.prgm (h:Vp T q sv rp P R ar lf x) (F:Far P.U x y) (I:P'.At y) (G:∀k,P'.U k->P.U k\/x.heap.size<=k):Vp T q sv rp P' R ar lf y:=by
 have hl:=h.lt;refine⟨F.blk h.blk h.qP,I,R.far h.r F (λk z J=>h.PR k J z),λe=>?_,h.qR,λk z H=>?_⟩;rcases G q e with h1|h1;exact h.qP h1;have:=hl q (.inl rfl);omega;rcases G k z with h1|h1;exact h.PR k h1 H;have:=hl k (.inr (.inl H));omega
theorem Vp.ref (h:Vp T q sv rp P R ar lf x) (G:Far (λk=>k=q\/R.U k) x y) (hb:Eh y q #[C' sv,C' rp,.bool ar',Ej lf'] T) (H:R'.At y) (F:∀k,R'.U k->R.U k\/x.heap.size<=k):Vp T q sv rp P R' ar' lf' y:=by
 have hl:=h.lt;refine⟨hb,P.far h.p G (λk z e=>e.elim (λe=>h.qP (e ▸ z)) (h.PR k z)),H,h.qP,λe=>?_,λk z I=>?_⟩;rcases F q e with h1|h1;exact h.qR h1;have:=hl q (.inl rfl);omega;rcases F k I with h1|h1;exact h.PR k z h1;have:=hl k (.inr (.inr z));omega
theorem Vp.as (h:Vp T q sv rp P R ar lf x) (F:P'.At x) (z:∀k,P'.U k->P.U k):Vp T q sv rp P' R ar lf x:=
 ⟨h.blk,F,h.r,λe=>h.qP (z q e),h.qR,λk G=>h.PR k (z k G)⟩
end
section
variable {B D N:Nat} {M:Nat->Prop} {w x y:World} {wb:Nat} {asv ssv:Value} {la0 ls0:List AD} {i:Nat} {T:TypeId} {q sv rp:Nat} {P P' R R':Sit} {ar ar':Bool} {lf lf':Int}
theorem Qm.progO {O:Nat->Prop} (G:Qm B D N M w x wb asv ssv la0 ls0 i (AZ T q sv rp P R ar lf)) (H:Far P.U x y) (J:P'.At y) (I:∀k,P'.U k->P.U k\/x.heap.size<=k) (z:∀k,O k->x.heap.size<=k/\k < y.heap.size/\¬P'.U k):Qm B D N (λk=>M k\/O k) w y wb asv ssv la0 ls0 i (AZ T q sv rp P' R ar lf):=
 G.turnM (t':=AZ T q sv rp P' R ar lf) rfl H (λk F=>.inr (.inr F)) (Vp.prgm G.is H J I) (λk F=>by
  rcases F with h|h|h
  .exact .inl (.inl h)
  .exact .inl (.inr (.inl h))
  .exact(I k h).imp (λh=>.inr (.inr h)) id) (λk F=>F.imp id (λh=>⟨(z k h).1,(z k h).2.1,by
  have hl:=Vp.lt G.is;rintro(e|e|e)
  .have:=hl k (.inl e);have:=(z k h).1;omega
  .have:=hl k (.inr (.inl e));have:=(z k h).1;omega
  .exact(z k h).2.2 e⟩))
theorem Qm.prgm (z:Qm B D N M w x wb asv ssv la0 ls0 i (AZ T q sv rp P R ar lf)) (F:Far P.U x y) (G:P'.At y) (H:∀k,P'.U k->P.U k\/x.heap.size<=k):Qm B D N M w y wb asv ssv la0 ls0 i (AZ T q sv rp P' R ar lf):=
 (z.progO (O:=λ_=>False) F G H (λ_ h=>h.elim)).below (z11 _ _) (λ_ h=>.inl (.inl h))
theorem Qm.ref (F:Qm B D N M w x wb asv ssv la0 ls0 i (AZ T q sv rp P R ar lf)) (G:Far (λk=>k=q\/R.U k) x y) (hb:Eh y q #[C' sv,C' rp,.bool ar',Ej lf'] T) (I:R'.At y) (H:∀k,R'.U k->R.U k\/x.heap.size<=k):
  Qm B D N M w y wb asv ssv la0 ls0 i (AZ T q sv rp P R' ar' lf'):=
 F.turn (t':=AZ T q sv rp P R' ar' lf') rfl G (λk z=>z.imp id .inl) (Vp.ref F.is G hb I H) (λk z=>by
  rcases z with h|h|h
  .exact .inl (.inl h)
  .exact(H k h).imp (λh=>.inr (.inl h)) id
  .exact .inl (.inr (.inr h)))
theorem Qm.as (F:Qm B D N M w x wb asv ssv la0 ls0 i (AZ T q sv rp P R ar lf)) (H:P'.At x) (G:∀k,P'.U k->P.U k):Qm B D N M w x wb asv ssv la0 ls0 i (AZ T q sv rp P' R ar lf):=
 F.turn (t':=AZ T q sv rp P' R ar lf) (E:=λ_=>False) rfl (Far.refl _ _) (λ_ z=>z.elim) (Vp.as F.is H G) (λk z=>.inl (z.imp id (Or.imp id (G k))))
end
def agP (N:Nat) (ar:Bool) (lf:Int) (d:Bool) (z:Nat) (a:Ag) (U:Nat->Prop):Sit:=⟨U,λw=>AgL N ar lf d w z a U,λh=>h.lt,λh F G=>h.far F G⟩
def agR (z:Nat) (a:Ag) (r:AY) (F G:Nat->Value):Sit:=⟨CP z F G,λw=>Qi w z a r F G,λh=>h.lt,λh H I=>h.far H I⟩
def agW (N:Nat) (ar:Bool) (lf:Int) (z:Nat) (a:Ag) (U:Nat->Prop):Sit:=⟨U,λw=>∀lf',(ar=true->lf'=lf - 1)->AgL N ar lf' false w z a U,λh=>(h (lf - 1) (λ_=>rfl)).lt,λh F G lf' e=>(h lf' e).far F G⟩
structure gO (n:Nat) (lf:Int) (a:Ag) (r:AY):Prop where
 ex:∃xa xn xc,r.ex=.slice xa xn xc
 lm:lf<=9223372036854775807
 Vr:Jj n a
 ep:a.Qa<=n+1
def agT (n q z F:Nat) (a:Ag) (r:AY) (G H:Nat->Value) (U:Nat->Prop) (ar:Bool) (lf:Int):AD:=AZ 175 q z F (agP n ar lf r.dead z a U) (agR F a r G H) ar lf
def IG (n:Nat) (t:AD):Prop:=∃m q z F a r G H U ar lf,m<=n/\t=agT m q z F a r G H U ar lf/\gO m lf a r
def wH (K:AD->Prop) (t:AD) (x y:World):Prop:=∃t':AD,K t'/\t'.q=t.q/\t'.Is y/\Far t.In x y/\∀k,t'.In k->t.In k\/x.heap.size<=k
structure Yi (T:TypeId) (q sv rp:Nat) (P0 R0 P R:Sit) (ar:Bool) (lf:Int) (O:Obj) (w x:World):Prop where
 is:Vp T q sv rp P R ar lf x
 far:Far (PrU q P0 R0) w x
 new:∀k,PrU q P R k->PrU q P0 R0 k\/w.heap.size<=k
 box:x.heap[w.heap.size]? =some O
 fU:¬PrU q P R w.heap.size
section
variable {T:TypeId} {q sv rp:Nat} {P0 R0 P P' R R':Sit} {ar ar':Bool} {lf lf':Int} {O:Obj} {w x y:World}
theorem Yi.below (h:Yi T q sv rp P0 R0 P R ar lf O w x) (hb:El x y):Yi T q sv rp P0 R0 P R ar lf O w y:=by
 have z:Far (λ_=>False) x y:=I' hb;exact⟨h.is.far z Ih,h.far.trans z (λ_ _ h=>h.elim),h.new,z.blk h.box (λh=>h),h.fU⟩
theorem Yi.start (h:Vp T q sv rp P R ar lf w) {O0:Array Value} {U:TypeId}:Yi T q sv rp P R P R ar lf (.cells O0 U (0,0)) w (w.alloc (.cells O0 U)):=by
 have z:Far (λ_=>False) w (w.alloc (.cells O0 U)):=I' bna;exact⟨h.far z Ih,z.mono (λ_ _ h=>h.elim),λk h=>.inl h,z19 w _,λe=>by have:=h.lt _ e;omega⟩
theorem Yi.prgm (h:Yi T q sv rp P0 R0 P R ar lf O w x) (z:Far P.U x y) (H:P'.At y) (F:∀k,P'.U k->P.U k\/x.heap.size<=k):Yi T q sv rp P0 R0 P' R ar lf O w y:=by
 have I:=z12 h.box;refine⟨h.is.prgm z H F,h.far.trans z (λk G e=>(h.new k (.inr (.inr e))).elim id (λe=>by omega)),λk G=>?_,z.blk h.box (λe=>h.fU (.inr (.inr e))),λe=>?_⟩;rcases G with e|e|e;exact h.new k (.inl e);exact h.new k (.inr (.inl e));exact(F k e).elim (λe=>h.new k (.inr (.inr e))) (λe=>.inr (by omega));rcases e with e|e|e;exact h.fU (.inl e);exact h.fU (.inr (.inl e));exact(F _ e).elim (λe=>h.fU (.inr (.inr e))) (λe=>by omega)
theorem Yi.ref (h:Yi T q sv rp P0 R0 P R ar lf O w x) (z:Far (λk=>k=q\/R.U k) x y) (hb:Eh y q #[C' sv,C' rp,.bool ar',Ej lf'] T) (H:R'.At y) (F:∀k,R'.U k->R.U k\/x.heap.size<=k):Yi T q sv rp P0 R0 P R' ar' lf' O w y:=by
 have I:=z12 h.box;refine⟨h.is.ref z hb H F,h.far.trans z (λk G e=>(h.new k (e.imp id .inl)).elim id (λe=>by omega)),λk G=>?_,z.blk h.box (λe=>h.fU (e.imp id .inl)),λe=>?_⟩;rcases G with e|e|e;exact h.new k (.inl e);exact(F k e).elim (λe=>h.new k (.inr (.inl e))) (λe=>.inr (by omega));exact h.new k (.inr (.inr e));rcases e with e|e|e;exact h.fU (.inl e);exact(F _ e).elim (λe=>h.fU (.inr (.inl e))) (λe=>by omega);exact h.fU (.inr (.inr e))
theorem Yi.as (h:Yi T q sv rp P0 R0 P R ar lf O w x) (F:P'.At x) (z:∀k,P'.U k->P.U k):Yi T q sv rp P0 R0 P' R ar lf O w x:=
 ⟨h.is.as F z,h.far,λk G=>h.new k (G.imp id (Or.imp id (z k))),h.box,λe=>h.fU (e.imp id (Or.imp id (z _)))⟩
theorem Yi.turn {K:AD->Prop} (h:Yi T q sv rp P0 R0 P R ar lf O w x) (hK:K (AZ T q sv rp P R ar lf)):wH K (AZ T q sv rp P0 R0 aD o) w x:=
 ⟨_,hK,rfl,h.is,h.far,h.new⟩
end
theorem eD (z:Jj w c) (i:Int) (s:z10):Jj (w+1) (BF c i s):=by
 unfold BF;split;rename_i h;exact fE z _ s (LX h).2.1;exact z.mono (SE _)
theorem uS (H:World) (ax ay i:Int) (s:z10) (kp az aA aB aC:Int) (aD:z10) (q z G:Nat) (a:Ag) (r:AY) (J F:Nat->Value) (U:Nat->Prop) (ar:Bool) (lf:Int)
  (P:Vp 175 q z G (agP w ar lf r.dead z a U) (agR G a r J F) ar lf H) (O:gO w lf a r) (br:w < 1000000000):
  Cp 146 #[C' q,AL ax ay i s kp az aA aB aC aD] H λx w'=>Rr x (.bool true)/\wH (IG (w+1)) (agT w q z G a r J F U ar lf) H w':=by
 have V:=y' O;have aR:=λ(x:World) (bt:AgL w ar lf r.dead x z a U)=>y' (bt.Xm i s O.Vr br);have Z:=y' (Yi.start P (O0:= #[Ej ax,Ej ay,Ej i,.string s,.int .u64 kp,Ej az,Ej aA,Ej aB,Ej aC,.string aD]) (U:=94));clear P O;unfold C' AL at *;go_enter func146,ntmps146;go_upto_region 1 with fail;obtain⟨w1,aS⟩:=exq (H.alloc (.cells #[Ej ax,Ej ay,Ej i,.string s,.int .u64 kp,Ej az,Ej aA,Ej aB,Ej aC,.string aD] 94));rw[<-aS]at Z ⊢;clear aS;have aL:=Bi 0 (d' Z).is.blk;have b2:=Bi 2 (d' Z).box;have I:=Bi 3 (d' Z).box;have ab:=z12 (d' Z).is.blk;have M:=z12 (d' Z).box;simp[C']at aL b2 I;refine CO
  [Ep q 0,Ep q 0,Ep q 0,Ep z 0,Ep H.heap.size 2,Ei i,Ep H.heap.size 3,Ev (.string s),Et,Et]
  [[0],[1008],[2009],[3010],[3],[5012],[3],[7014],[4011,6013,8015],[9016]] [9,10,11,12,13,14,15,16,17,6] [5,1,2,9,47]
  8 _ rfl ?_ ?_ ?_
 .refine⟨?_,?_,?_,?_,?_,?_,?_,?_,trivial⟩;all_goals
   intro b x hb aj;have bT:=Bc hb ab aL;have bU:=Bc hb M b2;have bV:=Bc hb M I;clear hb;simp[J']at aj;try go_simp
   try exact z11 _ _
  all_goals first|exact⟨rfl,z11 _ _⟩|skip
 intro f x Q;rfl;intro f bu hb Q;simp only[AJ,List.take]at Q;obtain⟨_,_,_,bw,_,bz,_,bA,_⟩:=Q;have aM:=y' ((d' Z).below hb);clear hb aL b2 I ab M Z;simp only[V',bw,bz,bA];go_simp;refine Cm (aR bu (d' aM).is.p) ?_;rintro bW aT ⟨e,U',rfl,hF,aU,aV⟩;have aW:=y' aV;have ak:=y' hF;have ao:=y' aU;clear hF aU aV aR;intro aX bX;obtain⟨m,rfl⟩:∃m,aX=m+1:=⟨aX - 1,by omega⟩;refine BP (i:=9) (by kernel_rfl) rfl rfl ?_;go_simp;refine DP (by kernel_rfl) ?_;obtain⟨rv,aN⟩:=exq (eC r.dead a i s.size);have ad:=y' aN;have bB:∃P':Sit,Yi 175 q z G (agP w ar lf r.dead z a U) (agR G a r J F) P' (agR G a r J F) ar lf (.cells #[Ej ax,Ej ay,Ej i,.string s,.int .u64 kp,Ej az,Ej aA,Ej aB,Ej aC,.string aD] 94 (0,0)) H aT/\
   ((r.dead=true/\e=3/\rv=3/\P'=agP w ar lf true z a U')\/(r.dead=false/\e=4/\rv=0/\ar=true/\P'=agP w ar lf true z a U')\/(r.dead=false/\(e=5\/e=6\/e=7)/\rv=e/\P'=agP w ar lf false z a U')\/
    (r.dead=false/\e=0/\rv=0/\(ar=true->2<=lf)/\P'=agW w ar lf z (BF a i s) U')):=by
  have aE:=d' aM;rw[aN];rcases d' aW with ⟨h1,h2,h3⟩|⟨h1,h2,h3,h4,h5⟩|⟨h1,h2,h3,h4⟩
  .exact⟨_,aE.prgm (P':=agP w ar lf true z a U') (d' ak) h3 (d' ao),.inl ⟨h1,h2,by rw[h1];rfl,rfl⟩⟩
  .exact⟨_,aE.prgm (P':=agP w ar lf true z a U') (d' ak) h5 (d' ao),.inr (.inl ⟨h1,h3,by rw[h1];exact h4,h2,rfl⟩)⟩
  .have aY:eC r.dead a i s.size=a.Je i s.size:=(by rw[h1];rfl);by_cases h0:e=0
   .exact⟨_,aE.prgm (P':=agW w ar lf z (BF a i s) U') (d' ak) (h4 h0).2 (d' ao),.inr (.inr (.inr ⟨h1,h0,by rw[aY,<-h2];exact h0,(h4 h0).1,rfl⟩))⟩
   .refine⟨_,aE.prgm (P':=agP w ar lf false z a U') (d' ak) (h3 h0) (d' ao),.inr (.inr (.inl ⟨h1,?_,by rw[aY,<-h2],rfl⟩))⟩;rcases kG a i s.size with h|h|h|h
    .exact absurd (h2.trans h) h0
    .exact .inl (h2.trans h)
    .exact .inr (.inl (h2.trans h))
    .exact .inr (.inr (h2.trans h))
 obtain⟨P',aZ,ba⟩:=bB;have aa:=y' aZ;have bb:=y' ba;clear aZ ba aN aW ak ao aM;go_upto_region 2 with fail;have bc:=λ(x:World) (hb:El aT x)=>by have:=mC ((d' aa).below hb).is.r i s;rw[<-d' ad]at this;exact y' this
 have Y:=Bi 1 (d' aa).is.blk;have b2:=Bi 2 (d' aa).box;have I:=Bi 3 (d' aa).box;have ab:=z12 (d' aa).is.blk;have M:=z12 (d' aa).box;simp[C']at Y b2 I;refine AI
  [Ep q 0,Ep q 0,Ep q 1,Ep G 0,Ep H.heap.size 2,Ei i,Ep H.heap.size 3,Ev (.string s),Ei rv,Ei rv]
  [[0],[1017],[2018],[3019],[3],[5021],[3],[7023],[4020,6022,8024],[9025]] [18,19,20,21,22,23,24,25,26,7] [6,1,10,9,38] ?_ ?_
 .refine⟨?_,?_,?_,?_,?_,?_,?_,?_,?_,?_,trivial⟩;all_goals
   intro b x hb aj;have z0:=Bc hb ab Y;have bC:=Bc hb M b2;have z3:=Bc hb M I;have bD:=bc x hb;clear hb;simp[J']at aj;try go_simp
   try exact z11 _ _
  all_goals first
   |exact⟨rfl,z11 _ _⟩
   |(refine Cm bD ?_;rintro e bY ⟨rfl,k,rfl⟩;exact⟨rfl,z36 (z11 _ _) _⟩)
   |skip
 intro f2 bE bd Q;simp only[AJ]at Q;have bF:=Q.2.2.2.2.2.2.2.2.2.1;have ac:=(d' aa).below bd;have Y:=Bi 1 ac.is.blk;have b2:=Bi 2 ac.box;have I:=Bi 3 ac.box;have ab:=z12 ac.is.blk;have M:=z12 ac.box;simp[C']at Y b2 I;have aq:=y' ac;clear Q bd aa bc ac;simp only[V',bF];rcases d' bb with ⟨h1,rfl,h3,h4⟩|⟨h1,rfl,h3,h4,h5⟩|⟨h1,bG,h3,h4⟩|⟨h1,rfl,h3,h4,h5⟩
 .have aO:=y' (show IG (w+1) (AZ 175 q z G P' (agR G a r J F) ar lf) from⟨w,q,z,G,a,r,J,F,U',ar,lf,SE _,by rw[h4,<-h1];rfl,d' V⟩);subst h3;clear h1 h4 Y b2 I;go_wp2;go_ret;exact⟨rfl,(d' aq).turn (d' aO)⟩
 .have be:∀ (x:World) (aF:Option Addr) (aG aH:Nat),El bE x->Hid (Cp 184 #[Er q 0,.agg #[Ej 0,Ej 0,Ej 0],Ej i,.slice aF aG aH] x λaI ah=>Rr aI (.bool true)/\wH (IG (w+1)) (agT w q z G a r J F U ar lf) H ah):=by intro x aF aG aH hb;have aJ:=(d' aq).below hb;refine y' ((VV (w:=x) aJ.is.blk aJ.is.r aJ.is.qR 0 0 0 i aF aG aH).mono ?_);rintro aI ah ⟨rfl,bH,aK,au⟩;have bf:=aJ.ref (R':=agR G a ⟨true,0,0,0,i,.slice aF aG aH⟩ J F) (au.mono (λk _ h=>h.imp id (λe=>.inl e))) bH aK (λk F=>.inl F);refine⟨by rw[h1,h4];rfl,(bf.as (P':=agP w false lf true z a U') ?_ (by rw[h5];exactλk F=>F)).turn ⟨w,q,z,G,a,_,J,F,U',false,lf,SE _,rfl,⟨⟨_,_,_,rfl⟩,(d' V).lm,(d' V).Vr,(d' V).ep⟩⟩⟩;have h:=bf.is.p;rw[h5]at h;exact AgL.dead h
  subst h3 h4;clear h1 Y ad h5;unfold C' at *;go_upto_region 5 with (go_at_call 184;refine Cm (be _ _ _ _ bna) ?_;rintro aI ah ⟨rfl,ai⟩;have bI:=y' ai;clear ai);clear be;go_wp2;go_ret;exact⟨rfl,d' bI⟩
 .have aO:=y' (show IG (w+1) (AZ 175 q z G P' (agR G a r J F) ar lf) from⟨w,q,z,G,a,r,J,F,U',ar,lf,SE _,by rw[h4,<-h1];rfl,d' V⟩);subst h3;clear h1 h4 Y b2 I ad;rcases bG with rfl|rfl|rfl;all_goals
   go_wp2;go_ret;exact⟨rfl,(d' aq).turn (d' aO)⟩
 have aP:=y' (LX (show a.Je i s.size=0 by have:=d' ad;rw[h1]at this;exact this.symm.trans h3));have bg:a.Je i s.size=0:=by have:=d' ad;rw[h1]at this;exact this.symm.trans h3
 have bJ:=y' bg;have bK:=y' h4;have bh:=y' h5;have bL:=y' h1;subst h3;clear h1 h4 h5 bg ad bb;go_upto_region 8 with fail;refine Z'
  [Ep q 0,Ep q 0,Ep q 1,Ep G 0,Ep H.heap.size 2,Ei i,Ep H.heap.size 3,Ev (.string s),Et]
  [[0],[1051],[2052],[3053],[3],[5055],[3],[7057],[4054,6056,8058]] [52,53,54,55,56,57,58,59,60] [51,9,4]
  8 _ rfl rfl ?_ ?_
 .refine⟨?_,?_,?_,?_,?_,?_,?_,?_,trivial⟩;all_goals
   intro b x hb aj;have z0:=Bc hb ab Y;have bC:=Bc hb M b2;have z3:=Bc hb M I;clear hb;simp[J']at aj;try go_simp
   try exact z11 _ _
  all_goals first|exact⟨rfl,z11 _ _⟩|skip
 intro f8 bZ bi Q;simp only[AJ,List.take]at Q;obtain⟨_,_,_,bM,_,bN,_,bO,_⟩:=Q;have av:=y' ((d' aq).below bi);clear bi aq Y ab M b2 I;simp only[V',bM,bN,bO];go_simp;obtain⟨sn,rfl⟩:=z62 (d' aP).1.1;have bj:(a.fl sn).kept.length < 24:=by
  have h:=d' aP;have h2:=h.2.2;unfold Ag.room at h2;have h3:sn=0\/sn=1\/sn=2:=by omega
  rcases h3 with rfl|rfl|rfl;all_goals omega
 refine(eV (d' av).is.r sn (by have:=(d' aP).1.2;omega) s bj).mono ?_;rintro aI ah ⟨rfl,hst⟩;obtain⟨bk,bl,aK,au,bm⟩:=hst;have bn:BF a (sn:Int) s=a.Xm sn s:=by unfold BF;rw[if_pos (d' bJ)];rfl
 have aQ:=au.blk (d' av).is.blk (d' av).is.qR;have ai:=y' ((d' av).ref (R':=agR G (BF a (sn:Int) s) r bk bl) (au.mono (λk _ h=>.inr h)) aQ (by rw[bn];exact aK) bm);clear aK au bm av bj bn;go_simp;go_wp2_with (go_at_call 186;refine(MV ah q (C' z) (C' G) ar lf aQ (d' bK) (d' V).lm).mono ?_;rintro ca cb ⟨rfl,lf',bP,bQ,rfl⟩);go_ret;refine⟨rfl,?_⟩;have bo:=T' ah q 3 (Ej lf');have bR:=AA (j:=3) (v:=Ej lf') aQ;have bp:=(d' ai).ref (ar':=ar) (lf':=lf') (bo.mono (λk _ h=>.inl h)) (by simpa using bR) (Sit.far _ (d' ai).is.r bo (λk F e=>(d' ai).is.qR (e ▸ F))) (λk F=>.inl F);have bq:=bp.as (P':=agP w ar lf' r.dead z (BF a (sn:Int) s) U') (by have h:=bp.is.p;rw[d' bh]at h;rw[d' bL];exact h lf' bP) (by rw[d' bh];exactλk F=>F);have bS:=bq.as (P':=agP (w+1) ar lf' r.dead z (BF a (sn:Int) s) U') (AgL.mono bq.is.p (SE _)) (λk F=>F);exact bS.turn ⟨w+1,q,z,G,_,r,bk,bl,U',ar,lf',z16 _,rfl,(d' V).ex,bQ,eD (d' V).Vr _ _,by rw[PG];have:=(d' V).ep;omega⟩
def Nj (N:Nat) (ar:Bool) (lf:Int) (d:Bool) (z:Nat) (a:Ag) (l:List UInt8) (U':Nat->Prop) (e:Int) (P':Sit):Prop:=
 (d=true/\e=3/\P'=agP N ar lf true z a U')\/(d=false/\ar=true/\e=4/\0 < GI a l/\Qb.reads l=true/\P'=agP N ar lf true z a U')\/(d=false/\e=1/\Qb.reads l=false/\P'=agP N ar lf false z a U')\/
  (d=false/\e=0/\Qb.reads l=true/\GI a l=0/\P'=agP N ar lf false z (CJ a l).2 U')\/(d=false/\e=0/\Qb.reads l=true/\0 < GI a l/\(ar=true->2<=lf)/\P'=agW N ar lf z (CJ a l).2 U')
theorem AgL.got {N:Nat} {ar d:Bool} {lf:Int} {w:World} {v:Nat} {a:Ag} {U:Nat->Prop} (bs:Value) (l:List UInt8) (h:AgL N ar lf d w v a U) (F:Jj N a) (G:N < 1000000000) (H:Qk w bs l):
  Cp 16 #[C' v,bs] w λr w'=>∃ (e:Int) (U':Nat->Prop) (P':Sit),r=.returned (Ej e)/\Far U w w'/\(∀k,P'.U k->U k\/w.heap.size<=k)/\P'.At w'/\Nj N ar lf d v a l U' e P':=by
 refine(h.Qv bs l F G H).mono ?_;rintro r w' ⟨e,U',rfl,k2,k3,⟨h1,h2,h3⟩|⟨h1,h2,h3,h4,h5⟩|⟨h1,h2,h3,h4⟩⟩;exact⟨e,U',agP N ar lf true v a U',rfl,k2,k3,h3,.inl ⟨h1,h2,rfl⟩⟩;refine⟨e,U',agP N ar lf true v a U',rfl,k2,k3,h5,.inr (.inl ⟨h1,h2,h3,h4,?_,rfl⟩)⟩;cases z:Qb.reads l;rw[lI z]at h4;omega;rfl;cases z:Qb.reads l;have hs:CJ a l=(1,a):=by unfold CJ;rw[z];rfl
 rw[hs]at h2 h3;exact⟨e,U',agP N ar lf false v a U',rfl,k2,k3,h3 (lI z),.inr (.inr (.inl ⟨h1,h2,z,rfl⟩))⟩;have hs:(CJ a l).1=0:=by unfold CJ;rw[z];rfl
 by_cases h0:GI a l=0;exact⟨e,U',agP N ar lf false v (CJ a l).2 U',rfl,k2,k3,h3 h0,.inr (.inr (.inr (.inl ⟨h1,h2.trans hs,z,h0,rfl⟩)))⟩;obtain⟨I,J⟩:=h4 (by omega);exact⟨e,U',agW N ar lf v (CJ a l).2 U',rfl,k2,k3,J,.inr (.inr (.inr (.inr ⟨h1,h2.trans hs,z,by omega,I,rfl⟩)))⟩
structure Yf (B D N:Nat) (O:Array Value) (M:Nat->Prop) (w x:World) (wb:Nat) (asv ssv:Value) (la ls:List AD) (i:Nat) (t:AD) (g n8:Nat) (s:z10):Prop where
 am:Qm B D N M w x wb asv ssv la ls i t
 box:x.heap[w.heap.size]? =some (.cells O 94 (0,0))
 mb:M w.heap.size
 own:x.ownsRow 0 5 1 (Es g 0 n8 n8) n8 (bv (DC s))
 mg:M g
 wg:w.heap.size < g
section
variable {B D N:Nat} {O:Array Value} {M M':Nat->Prop} {w x y:World} {wb:Nat} {asv ssv:Value} {la ls:List AD} {i:Nat} {t:AD} {g n8:Nat} {s:z10}
theorem Yf.below (h:Yf B D N O M w x wb asv ssv la ls i t g n8 s) (hb:El x y) (z:∀k,M k->M' k) (G:∀k,M' k->M k\/(x.heap.size<=k/\k < y.heap.size)):Yf B D N O M' w y wb asv ssv la ls i t g n8 s:=by
 have F:Far (λ_=>False) x y:=I' hb;exact⟨h.am.below hb G,F.blk h.box (λh=>h),z _ h.mb,F.own h.own Ih,z _ h.mg,h.wg⟩
theorem Yf.glt (h:Yf B D N O M w x wb asv ssv la ls i t g n8 s):g < x.heap.size:=by
 obtain⟨_,_,_,_,_,_,_,_,_,z⟩:=h.am;exact(z g h.mg).2.1
theorem Yf.same (h:Yf B D N O M w x wb asv ssv la ls i t g n8 s) (hb:El x y):Yf B D N O M w y wb asv ssv la ls i t g n8 s:=h.below hb (λ_ h=>h) (λ_ h=>.inl h)
theorem Yf.Yd {t':AD} {E:Nat->Prop} (h:Yf B D N O M w x wb asv ssv la ls i t g n8 s) (I:Qm B D N M' w y wb asv ssv la ls i t') (F:Far E x y) (G:∀k,E k->t.In k) (H:∀k,M k->M' k):Yf B D N O M' w y wb asv ssv la ls i t' g n8 s:=
 ⟨I,(h.am.held F G _ h.mb).trans h.box,H _ h.mb,Q' h.own (λk z=>by injection z with z;subst z;exact h.am.held F G _ h.mg),H _ h.mg,h.wg⟩
end
variable{cH:Sit}
theorem Qm.wroteA
  (F:Qm w a q N p f Q y u Y Z bH (AZ j cG bX dB (agW b aD o bX c bK) cH aD o)) (hl:aD=true->V=o - 1):
  Qm w a q N p (f.setCell ⟨cG,3,none⟩ (Ej V)) Q y u Y Z bH (AZ j cG bX dB (agP b aD V false bX c bK) cH aD V):=by
 have G:=T' f cG 3 (Ej V);have hb:=AA (j:=3) (v:=Ej V) F.is.blk;have H:=F.ref (R':=cH) (ar':=aD) (lf':=V) (G.mono (λk _ h=>.inl h)) (by simpa using hb) (cH.far F.is.r G (λk z e=>F.is.qR (e ▸ z))) (λk z=>.inl z);exact H.as (P':=agP b aD V false bX c bK) (H.is.p V hl) (λk z=>z)
theorem Eu {A:Nat->Nat->Prop} (J:World) (ak ao:Nat) (cR cS i:Int) (s:z10) (kp cT cU cV cW:Int) (cX:z10) (I M H:Nat) (G:Ag) (r:AY) (aj F:Nat->Value) (U:Nat->Prop) (ar:Bool) (lf:Int)
  (S:Qr w q A J ak y u R k Y Z) (cd:JG a ak y u R (Y++Z)) (hi:(Y++Z)[ao]? =some (agT b I M H G r aj F U ar lf)) (O:gO b lf G r) (cY:b < 1000000000) (cZ:s.size<=140737488353980) (dH:q+12<=17592186044416):
  Cp 149 #[C' ak,C' I,AL cR cS i s kp cT cU cV cW cX] J λx w'=>Rr x (.bool true)/\∃bb t',IG (b+1) t'/\Qm w a (q+12) bb J w' ak y u Y Z ao t':=by
 obtain⟨ai,hn⟩:∃ai:Nat,s.size+8=ai:=⟨_,rfl⟩;have ce:=λx=>y' (SR s x ai hn (by omega));have bJ:=y' hn;have aO:¬ai=0:=by omega
 have dI:s.size<=ai:=by omega
 have dJ:(s.size:Int)<=ai:=by omega
 have au:=y' O;have cf:=λ(x:World) (bs:Value) (aP:AgL b ar lf r.dead x M G U) (hb:Qk x bs s.data.toList)=>y' (aP.got bs s.data.toList O.Vr cY hb);obtain⟨k1,V,s1,Q,aa,bK⟩:=LF s.data.toList;have bL:=λw'=>y' (NI s w' (by omega));rw[bK]at bL;have bw:=y' bK;have cg:=λO=>y' ((Qm.start S cd hi).below (M':=λz=>z=J.heap.size) ((z11 _ _).alloc (z16 _) (.cells O 94)) (λz F=>.inr ⟨rE F.symm,by rw[F];simp⟩));clear S cd hi O hn bK;unfold C' at *;unfold AL;go_enter func149,ntmps149;go_upto_region 1 with fail;refine G' (λx=>∃aG:Array Value,aG[3]? =some (.string s)/\Eh x J.heap.size aG 94/\Qm w a q (λz=>z=J.heap.size) J x ak y u Y Z ao (agT b I M H G r aj F U ar lf)) ⟨_,rfl,z19 J _,d' (cg _)⟩ ?_;rintro dK ⟨aG,bM,bN,aP⟩;have s3:=Bi 3 bN;rw[bM]at s3;have ch:=y' aP;have bz:=y' bN;have bO:=y' bM;clear cg bM bN aP;go_upto_region 2 with (go_at_call 92;refine Cm (ce _) ?_;rintro dL da ⟨g,rfl,bP,ci,hb,cj⟩;have bc:Hid (Yf w a q aG (λz=>z=J.heap.size\/z=g) J da ak y u Y Z ao (agT b I M H G r aj F U ar lf) g ai s):=⟨(d' ch).below hb (λz F=>F.imp id (λe=>by rw[e];exact⟨bP,ci⟩)),(hb.block _ (z12 (d' bz))).trans (d' bz),.inl rfl,cj,.inr rfl,z21 (z12 (d' bz)) bP⟩;clear bP ci hb cj);clear ch bz s3 ce;have s3:=Bi 3 (d' bc).box;rw[d' bO]at s3;have bQ:=Bi 0 (d' bc).am.is.blk;have av:=z12 (d' bc).am.is.blk;have ab:=z12 (d' bc).box;simp[C']at bQ;refine CO
  [Ep I 0,Ep I 0,Ep I 0,Ep M 0,Ev (Es g 0 ai ai),Ep J.heap.size 3,Ev (.string s),Ei s.size,Ev (Es g 0 s.size ai),Et,Et]
  [[1],[1019],[2020],[3021],[7],[5],[6024],[7025],[5023,8026],[4022,9027],[10028]] [20,21,22,23,24,25,26,27,28,29,9] [8,1,10,10,84]
  9 _ rfl ?_ ?_ ?_
 .refine⟨?_,?_,?_,?_,?_,?_,?_,?_,?_,trivial⟩;all_goals
   intro bA x hb ax;have bg:=Bc hb av bQ;have aH:=Bc hb ab s3;clear hb;simp[J']at ax;try go_simp
   try exact z11 _ _
  all_goals first|exact⟨rfl,z11 _ _⟩|skip
 intro f x ad;rfl;intro f db hb ad;simp only[AJ,List.take]at ad;obtain⟨_,_,_,dc,_,_,_,_,dd,_⟩:=ad;simp only[V',dc,dd];go_simp;have bh:=y' ((d' bc).same hb);clear hb s3 bQ av ab bc;refine Cm (cf db _ (d' bh).am.is.p (WV (d' bh).own (d' bJ) cZ)) ?_;rintro r' de ⟨df,U',P',rfl,hF,ck,aP,bd⟩;have bR:Hid (Yf w a q aG (λz=>z=J.heap.size\/z=g) J de ak y u Y Z ao (AZ 175 I M H P' (agR H G r aj F) ar lf) g ai s):=
  (d' bh).Yd ((d' bh).am.prgm hF aP ck) hF (λz F=>.inr (.inr F)) (λ_ h=>h)
 have aI:=y' bd;clear hF ck aP bd bh cf;intro cl dM;obtain⟨dN,rfl⟩:∃q,cl=q+1:=⟨cl - 1,by omega⟩;refine BP (i:=10) (by kernel_rfl) rfl rfl ?_;go_simp;refine DP (by kernel_rfl) ?_;go_upto_region 3 with fail;have s3:=Bi 3 (d' bR).box;rw[d' bO]at s3;go_upto_region 4 with (go_at_call 145;refine Cm (bL _) ?_;rintro dO bS ⟨rfl,cm⟩;have bT:=y' ((d' bR).same cm);clear cm);clear s3 bR;refine G' (λx=>∃f,Xe x f k1 V s1 Q aa/\f < x.heap.size/\f=bS.heap.size/\Yf w a q aG (λz=>(z=J.heap.size\/z=g)\/z=f) J x ak y u Y Z ao (AZ 175 I M H P' (agR H G r aj F) ar lf) g ai s)
  ⟨bS.heap.size,CU _ _ _ _ _ _ _,by simp,rfl,(d' bT).below bna (λ_ h=>.inl h) (λz h=>h.imp id (λe=>by rw[e];simp))⟩ ?_
 have bU:=(d' bT).glt;clear bT bL;rintro cn ⟨f,cp,cq,cr,bi⟩;have dg:Hid (J.heap.size < f/\f≠g):=y' ⟨by have:=bi.wg;have:=bU;omega,by have:=bU;omega⟩;clear bU;obtain⟨dP,cs⟩:=exq (bS.heap.size);rw[<-cs]at cr ⊢;subst cr;clear cs;have s3:=Bi 3 bi.box;rw[d' bO]at s3;have cu:=y' (SQ bi.own (d' bJ));have cv:=y' bi;have cw:=y' cp;have bV:=y' cq;clear bi cp cq;go_upto_region 5 with (go_at_call 94;refine(LU _ _ s cn (d' cu) (by omega)).mono ?_;rintro dQ dR ⟨rfl,nq,rfl⟩);refine G' (λx=>Xe x f k1 V s1 Q aa/\f < x.heap.size/\Yf w a q aG (λz=>(z=J.heap.size\/z=g)\/z=f) J x ak y u Y Z ao (AZ 175 I M H P' (agR H G r aj F) ar lf) g ai s)
  ⟨(d' cw).below (C:=cn.heap.size) (z36 (z11 _ _) _) (d' bV),d' bV,(d' cv).same (z36 (z11 _ _) _)⟩ ?_
 clear cv cw bV cu s3;rintro dS ⟨cx,dh,bj⟩;have aB:=y' (bj.am.keep En (Es g 0 ai ai) En [] [] (DC s) (z20 _ _ _ _) (by rw[BM,d' bJ];exact bj.own) (z20 _ _ _ _) (by rintro bA (e|e|e);cases e;injection e with e;exact .inl (.inr e.symm);cases e) (by omega) (by rw[BM];omega) (by simp) (by simp));unfold C' at aB;have bk:J.heap.size≠g:=by have:=bj.wg;omega
 have cy:=y' (z13 bj.box (z13 cx bk));clear bj cx dh bk;go_upto_region 6 with (go_at_call 91;refine Cm aB ?_;rintro dT aA ⟨rfl,hA8,cz⟩;have bW:=y' hA8;have bX:=y' cz;clear hA8 cz);have ah:Hid (Qm w a (q+4) (λz=>z=J.heap.size\/z=f) J aA ak y u Y Z ao (AZ 175 I M H P' (agR H G r aj F) ar lf)/\Eh aA J.heap.size aG 94/\Xe aA f k1 V s1 Q aa/\f < aA.heap.size):=by
  obtain⟨di,dj,bk⟩:=d' cy;have bl:∀z,z≠g->¬GM En (Es g 0 ai ai) En z:=by rintro z F (e|e|e);cases e;injection e with e;exact F e.symm;cases e
  have ax:=(d' dg).2;have dl:=(d' bX) f (.inr rfl) (bl f ax);refine y' ⟨(d' bW).below (z11 _ _) (λz F=>.inl ?_),((d' bX) J.heap.size (.inl (.inl rfl)) (bl _ bk)).trans di,dj.kept dl,?_⟩;rcases F with rfl|rfl;exact⟨.inl (.inl rfl),bl _ bk⟩;exact⟨.inr rfl,bl _ ax⟩;obtain⟨_,_,_,_,_,_,_,_,_,dm⟩:=d' bW;exact(dm f ⟨.inr rfl,bl f ax⟩).2.1
 clear cy bW bX aB;have aC:=Bi 1 (d' ah).1.is.blk;have d4:=Bi 4 (d' ah).1.is.r.blk;simp[AE,C']at aC d4;rcases d' aI with ⟨c1,rfl,c3⟩|⟨c1,c2,rfl,c4,c5,cA⟩|⟨c1,rfl,c3,c4⟩|bm
 .rw[c1]at d4;have aB:=y' (show IG (b+1) (AZ 175 I M H P' (agR H G r aj F) ar lf) from⟨b,I,M,H,G,r,aj,F,U',ar,lf,SE _,by rw[c3,<-c1];rfl,d' au⟩);clear c1 c3 aI;go_wp2;go_ret;exact⟨rfl,_,_,d' aB,(d' ah).1.mono (by omega)⟩
 .rw[c1]at d4;have R:=d' bw;rw[IR c5]at R;unfold LR at R;simp only[Value.agg.injEq,Array.mk.injEq,List.cons.injEq,Value.int.injEq,Value.string.injEq,true_and,and_true]at R;obtain⟨aQ,aR,aS,aT,aU⟩:=R;have aD:=c5;unfold Qb.reads at aD;rw[z56]at aD;have ay:=aD.2;rw[aQ,aR,aS,aT,aU]at ay;have aV:=λx (hb:El aA x)=>y' (KR (((d' ah).1.below (M':=λ_=>False) hb (λ_ h=>h.elim)).is.r) k1 V s1 Q aa (λh=>by subst h;exact RE ay) (λh=>by subst h;exact(RF ay).2.2));obtain⟨n0,aO⟩:=exq (G.Jb k1 V s1 Q aa 0);obtain⟨n1,be⟩:=exq (G.Jb k1 V s1 Q aa 1);obtain⟨n2,bf⟩:=exq (G.Jb k1 V s1 Q aa 2);rw[<-aO,<-be,<-bf]at aV;have cB:=y' cA;have bB:=y' c1;have dn:=y' c2;clear c1 c2 c4 cA aD ay aQ aR aS aT aU aO be bf bw aI;have av:=z12 (d' ah).1.is.blk;have ab:=(d' ah).2.2.2;obtain⟨aJ,aK,b2,aL,aM⟩:=(d' ah).2.2.1;go_upto_region 7 with fail;refine Z'
   [Ep I 0,Ep I 0,Ep I 1,Ep H 0,Ev (.agg #[Ej k1,Ej V,Ej s1,Ej Q,.string aa]),Ev (.agg #[Ej n0,Ej n1,Ej n2]),Cr aA.heap.size,Et]
   [[1],[1047],[2048],[3049],[9],[4050,5051],[],[7012,6052]] [48,49,50,51,52,53,13,0] [12,1,34,6,60]
   7 _ rfl rfl ?_ ?_ (hst:=by repeat' (first|exact Y' _|exact aq' _|exact aa'|exact trivial|apply z13))
  .refine⟨?_,?_,?_,?_,?_,?_,?_,trivial⟩;all_goals
    intro bA x hb ax;have aH:=Bc hb av aC;have z0:=Bc hb ab aJ;have cC:=Bc hb ab aK;have cD:=Bc hb ab b2;have z3:=Bc hb ab aL;have z4:=Bc hb ab aM;have bn:=aV x hb;have bo:=hb.size;clear hb;simp[J']at ax;try go_simp
    try exact z11 _ _
   all_goals first
    |exact⟨rfl,z11 _ _⟩
    |(refine Cm bn ?_;rintro e bY ⟨rfl,aW⟩;exact⟨rfl,aW⟩)
    |(refine Cm bn ?_;rintro e bY ⟨rfl,aW⟩;exact⟨_,rfl,aW,rfl⟩)
    |exact⟨_,rfl,bna,_,rfl,bo,z19 x _⟩
    |exact⟨bna,_,rfl,bo,z19 x _⟩
    |skip
  intro f9 aq hb ad;simp only[AJ,List.take]at ad;have h5:=ad.2.2.2.2.2.1;obtain⟨ac,bp,bq,aX⟩:=ad.2.2.2.2.2.2.1;have aY:=hb;clear ad hb aV aC d4 aJ aK b2 aL aM av;simp only[V',h5,bp];refine RH 35 (.tmp 12) (.tmp 52) rfl ac #[Ej n0,Ej n1,Ej n2] rfl rfl 35 _ aX (by rw[YY];rfl) rfl (by rw[z43];intro dq hu;simp at hu;rcases hu with rfl|rfl|rfl <;> rfl) ?_;have aE:El aA (aq.setRow ac #[Ej n0,Ej n1,Ej n2]):=aY.trans ((CN aq ac #[Ej n0,Ej n1,Ej n2]).below aY.size (λz F (e:z=ac)=>by omega));have aF:=z91 aq ac _ #[Ej n0,Ej n1,Ej n2] _ _ aX;have aZ:=z12 aF;generalize aq.setRow ac #[Ej n0,Ej n1,Ej n2]=aN at aE aF aZ ⊢;have az:Hid (Qm w a (q+4) (λz=>(z=J.heap.size\/z=f)\/z=ac) J aN ak y u Y Z ao (AZ 175 I M H P' (agR H G r aj F) ar lf)/\Xe aN f k1 V s1 Q aa/\Eh aN ac #[Ej n0,Ej n1,Ej n2] 35):=
   y' ⟨(d' ah).1.below aE (λz F=>F.imp id (λe=>by rw[e];exact⟨bq,aZ⟩)),(d' ah).2.2.1.kept (aE.block f ab),aF⟩
  clear aY aX aE aF aZ bq bp h5 ah ab;go_simp;have cE:∀ (x:World),El aN x->Hid (Cp 184 #[Er I 0,.agg #[Ej n0,Ej n1,Ej n2],Ej 0,En] x λbZ aq=>Rr bZ (.bool true)/\∃bb t',IG (b+1) t'/\Qm w a (q+12) bb J aq ak y u Y Z ao t'):=by intro x hb;have bb:=(d' az).1.below (M':=λ_=>False) hb (λ_ h=>h.elim);have ca:=bb.is;refine y' ((VV (w:=x) ca.blk ca.r ca.qR n0 n1 n2 0 none 0 0).mono ?_);rintro bZ aq ⟨rfl,dr,ds,dt⟩;have cF:=bb.ref (R':=agR H G ⟨true,n0,n1,n2,0,En⟩ aj F) (dt.mono (λz _ h=>h.imp id (λe=>.inl e))) dr ds (λz F=>.inl F);have h:=cF.is.p;rw[d' cB]at h;refine⟨by rw[d' bB,d' dn];rfl,_,_,⟨b,I,M,H,G,_,aj,F,U',false,lf,SE _,rfl,⟨⟨_,_,_,rfl⟩,(d' au).lm,(d' au).Vr,(d' au).ep⟩⟩,(cF.as (P':=agP b false lf true M G U') (AgL.dead h) (by rw[d' cB];exactλz F=>F)).mono (by omega)⟩
  obtain⟨bg,aH,bC⟩:=DQ (d' az).2.2;simp at bg aH bC;go_upto_region 9 with (go_at_call 184;refine Cm (cE _ (z11 _ _)) ?_;rintro bZ bD ⟨rfl,cG⟩;have du:=y' cG;clear cG);clear cE bg aH bC;go_wp2;go_ret;exact⟨rfl,d' du⟩
 .rw[c1]at d4;have aB:=y' (show IG (b+1) (AZ 175 I M H P' (agR H G r aj F) ar lf) from⟨b,I,M,H,G,r,aj,F,U',ar,lf,SE _,by rw[c4,<-c1];rfl,d' au⟩);rw[c3]at *;clear c1 c3 c4 aI;go_wp2;go_ret;exact⟨rfl,_,_,d' aB,(d' ah).1.mono (by omega)⟩
 have c1:r.dead=false:=by rcases bm with h|h <;> exact h.1
 have dv:df=0:=by rcases bm with h|h <;> exact h.2.1
 have c5:Qb.reads s.data.toList=true:=by rcases bm with h|h <;> exact h.2.2.1
 have cH:(GI G s.data.toList=0/\P'=agP b ar lf false M (CJ G s.data.toList).2 U')\/(0 < GI G s.data.toList/\(ar=true->2<=lf)/\P'=agW b ar lf M (CJ G s.data.toList).2 U'):=by rcases bm with h|h;exact .inl h.2.2.2;exact .inr h.2.2.2
 subst dv;clear bm;rw[c1]at d4;have R:=d' bw;rw[IR c5]at R;unfold LR at R;simp only[Value.agg.injEq,Array.mk.injEq,List.cons.injEq,Value.int.injEq,Value.string.injEq,true_and,and_true]at R;obtain⟨aQ,aR,aS,aT,aU⟩:=R;have aD:=c5;unfold Qb.reads at aD;rw[z56]at aD;have ay:=aD.2;rw[aQ,aR,aS,aT,aU]at ay;have aV:=λx (hb:El aA x)=>y' (KR (((d' ah).1.below (M':=λ_=>False) hb (λ_ h=>h.elim)).is.r) k1 V s1 Q aa (λh=>by subst h;exact RE ay) (λh=>by subst h;exact(RF ay).2.2));obtain⟨n0,aO⟩:=exq (G.Jb k1 V s1 Q aa 0);obtain⟨n1,be⟩:=exq (G.Jb k1 V s1 Q aa 1);obtain⟨n2,bf⟩:=exq (G.Jb k1 V s1 Q aa 2);rw[<-aO,<-be,<-bf]at aV;have cI:Hid (GI G s.data.toList=n0+n1+n2):=y' (by have dU:=BZ ay;unfold GI;rw[if_pos c5,aQ,aR,aS,aT,aU,show((s1.toNat:Nat):Int)=s1 by omega,show((Q.toNat:Nat):Int)=Q by omega,aO,be,bf]);have cb:Hid ((CJ G s.data.toList).2=G.Qv k1 V s1 Q aa):=y' (by unfold CJ;rw[c5,aQ,aR,aS,aT,aU];rfl);have cJ:=λx dw dx (dy:Qi x H G r dw dx)=>y' (XV dy k1 V s1 Q aa ay (λs k=>by have:=(d' au).Vr.sum s k;omega));have bB:=y' c1;have cK:=y' cH;clear c1 cH aD ay aQ aR aS aT aU aO be bf bw aI;have av:=z12 (d' ah).1.is.blk;have ab:=(d' ah).2.2.2;obtain⟨aJ,aK,b2,aL,aM⟩:=(d' ah).2.2.1;go_upto_region 14 with fail;refine Z'
  [Ep I 0,Ep I 0,Ep I 1,Ep H 0,Ev (.agg #[Ej k1,Ej V,Ej s1,Ej Q,.string aa]),Ev (.agg #[Ej n0,Ej n1,Ej n2]),Cr aA.heap.size,Et]
  [[1],[1084],[2085],[3086],[9],[4087,5088],[],[7014,6089]] [85,86,87,88,89,90,15,0] [14,1,69,6,23]
  7 _ rfl rfl ?_ ?_ (hst:=by repeat' (first|exact Y' _|exact aq' _|exact aa'|exact trivial|apply z13))
 .refine⟨?_,?_,?_,?_,?_,?_,?_,trivial⟩;all_goals
   intro bA x hb ax;have aH:=Bc hb av aC;have z0:=Bc hb ab aJ;have cC:=Bc hb ab aK;have cD:=Bc hb ab b2;have z3:=Bc hb ab aL;have z4:=Bc hb ab aM;have bn:=aV x hb;have bo:=hb.size;clear hb;simp[J']at ax;try go_simp
   try exact z11 _ _
  all_goals first
   |exact⟨rfl,z11 _ _⟩
   |(refine Cm bn ?_;rintro e bY ⟨rfl,aW⟩;exact⟨rfl,aW⟩)
   |(refine Cm bn ?_;rintro e bY ⟨rfl,aW⟩;exact⟨_,rfl,aW,rfl⟩)
   |exact⟨_,rfl,bna,_,rfl,bo,z19 x _⟩
   |exact⟨bna,_,rfl,bo,z19 x _⟩
   |skip
 intro f9 aq hb ad;simp only[AJ,List.take]at ad;have h5:=ad.2.2.2.2.2.1;obtain⟨ac,bp,bq,aX⟩:=ad.2.2.2.2.2.2.1;have aY:=hb;clear ad hb aV aC d4 aJ aK b2 aL aM av;simp only[V',h5,bp];refine RH 35 (.tmp 14) (.tmp 89) rfl ac #[Ej n0,Ej n1,Ej n2] rfl rfl 35 _ aX (by rw[YY];rfl) rfl (by rw[z43];intro dq hu;simp at hu;rcases hu with rfl|rfl|rfl <;> rfl) ?_;have aE:El aA (aq.setRow ac #[Ej n0,Ej n1,Ej n2]):=aY.trans ((CN aq ac #[Ej n0,Ej n1,Ej n2]).below aY.size (λz F (e:z=ac)=>by omega));have aF:=z91 aq ac _ #[Ej n0,Ej n1,Ej n2] _ _ aX;have aZ:=z12 aF;generalize aq.setRow ac #[Ej n0,Ej n1,Ej n2]=aN at aE aF aZ ⊢;have az:Hid (Qm w a (q+4) (λz=>(z=J.heap.size\/z=f)\/z=ac) J aN ak y u Y Z ao (AZ 175 I M H P' (agR H G r aj F) ar lf)/\Xe aN f k1 V s1 Q aa/\Eh aN ac #[Ej n0,Ej n1,Ej n2] 35):=
  y' ⟨(d' ah).1.below aE (λz F=>F.imp id (λe=>by rw[e];exact⟨bq,aZ⟩)),(d' ah).2.2.1.kept (aE.block f ab),aF⟩
 clear aY aX aE aF aZ bq bp h5 ah ab;go_simp;have av:=z12 (d' az).1.is.blk;have ab:=(d' az).1.mlt (.inl (.inr rfl));have cL:=z12 (d' az).2.2;have aC:=Bi 1 (d' az).1.is.blk;simp[C']at aC;obtain⟨aJ,aK,b2,aL,aM⟩:=(d' az).2.1;go_upto_region 15 with fail;refine Z'
  [Ep I 0,Ep I 0,Ep I 1,Ep H 0,Ev (.agg #[Ej k1,Ej V,Ej s1,Ej Q,.string aa]),Et]
  [[1],[1090],[2091],[3092],[9],[4093,5094]] [91,92,93,94,95,96] [90,6,17]
  5 _ rfl rfl ?_ ?_
 .refine⟨?_,?_,?_,?_,?_,trivial⟩;all_goals
   intro bA x hb ax;have aH:=Bc hb av aC;have z0:=Bc hb ab aJ;have cC:=Bc hb ab aK;have cD:=Bc hb ab b2;have z3:=Bc hb ab aL;have z4:=Bc hb ab aM;clear hb;simp[J']at ax;try go_simp
   try exact z11 _ _
  all_goals first
   |exact⟨rfl,z11 _ _⟩
   |exact⟨_,rfl,z11 _ _,rfl⟩
   |skip
 intro f10 bD hb ad;simp only[AJ,List.take]at ad;have h3:=ad.2.2.2.1;have h4:=ad.2.2.2.2.1;have ba:Hid (Qm w a (q+4) (λz=>z=ac) J bD ak y u Y Z ao (AZ 175 I M H P' (agR H G r aj F) ar lf)/\Eh bD ac #[Ej n0,Ej n1,Ej n2] 35):=
  y' ⟨(d' az).1.below hb (λz F=>.inl (.inr F)),(hb.block _ cL).trans (d' az).2.2⟩
 have aI:=y' (d' (cJ bD _ _ (d' ba).1.is.r));clear ad hb aC aJ aK b2 aL aM av ab cL cJ az;simp only[V',h3,h4];go_simp;refine Cm aI ?_;rintro dV cM ⟨rfl,br,bt,R',bE,cN⟩;have bF:Hid (Qm w a (q+4) (λz=>z=ac) J cM ak y u Y Z ao (AZ 175 I M H P' (agR H (G.Qv k1 V s1 Q aa) r br bt) ar lf)):=
  y' ((d' ba).1.ref (R':=agR H (G.Qv k1 V s1 Q aa) r br bt) (bE.mono (λz _ h=>.inr h)) (bE.blk (d' ba).1.is.blk (d' ba).1.is.qR) R' cN)
 obtain⟨bg,aH,bC⟩:=DQ (((d' ba).1.held bE (λz h=>.inr (.inl h)) ac rfl).trans (d' ba).2);simp at bg aH bC;have dz:=λdA=>Cq n0 n1 n2 0 0 0 dA;clear R' bE cN aI ba h3 h4;have cO:=y' (show ∀lf',lf'<=9223372036854775807->gO b lf' (G.Qv k1 V s1 Q aa) r fromλlf' h=>⟨(d' au).ex,h,XY (d' au).Vr k1 V s1 Q aa,by rw[<-d' cb,jA];exact(d' au).ep⟩);obtain⟨bG,cc⟩:=exq (((n0:Int) ==0&& ((n1:Int) ==0&& (n2:Int) ==0)));rw[<-cc]at dz;have bH:Hid ((bG=true->P'=agP b ar lf false M (G.Qv k1 V s1 Q aa) U')/\(bG=false->(ar=true->2<=lf)/\P'=agW b ar lf M (G.Qv k1 V s1 Q aa) U')):=y' (by
  have dB:=d' cI;have bd:=d' cK;rw[d' cb,dB]at bd;have bI:bG=decide (n0+n1+n2=0):=by rw[cc,Gj];simp;omega
  constructor;intro e;rw[e]at bI;have h0:=rV bI.symm;rcases bd with h|h;exact h.2;omega;intro e;rw[e]at bI;have h0:=of_decide_eq_false bI.symm;rcases bd with h|h;omega;exact h.2)
 clear cc cK cI cb;cases bG with
 |true=>have bu:=(d' bH).1 rfl;have aB:=y' (show IG (b+1) (AZ 175 I M H P' (agR H (G.Qv k1 V s1 Q aa) r br bt) ar lf) from⟨b,I,M,H,_,r,br,bt,U',ar,lf,SE _,by rw[bu,<-d' bB];rfl,(d' cO) lf (d' au).lm⟩);clear bu bH;go_wp2;go_ret;exact⟨rfl,_,_,d' aB,((d' bF).below (M':=λz=>z=ac) (by first|exact z11 _ _|exact z36 (z11 _ _) _) (λz F=>.inl F)).mono (by omega)⟩
 |false=>obtain⟨cP,bu⟩:=(d' bH).2 rfl;rw[bu]at bF;have dC:=y' cP;have dD:=y' (d' au).lm;clear bu bH cP;have cQ:Hid (Eh cM I #[C' M,C' H,.bool ar,Ej lf] 175):=(d' bF).is.blk;go_wp2_with (go_at_call 186;refine(MV _ I (C' M) (C' H) ar lf (by first|exact d' cQ|simpa using (d' cQ)) (d' dC) (d' dD)).mono ?_;rintro dW dX ⟨rfl,lf',dE,dF,rfl⟩);go_ret;have dG:=((d' bF).below (M':=λz=>z=ac) (by first|exact z11 _ _|exact z36 (z11 _ _) _) (λz F=>.inl F)).wroteA dE;exact⟨rfl,_,_,⟨b,I,M,H,_,r,br,bt,U',ar,lf',SE _,by rw[<-d' bB];rfl,(d' cO) lf' dF⟩,dG.mono (by omega)⟩
theorem Loc.old (L:Loc p y u) (F:a < p.heap.size) (h:Us w u a):Us w y a:=by
 rcases h with h|h;exact .inl h;rcases L with z|z|⟨g',z,G⟩;rw[z]at h;cases h;exact .inr (z ▸ h);rw[z]at h;injection h with h;omega
section
variable {B D N:Nat} {M:Nat->Prop} {w x y:World} {wb:Nat} {asv ssv:Value} {la0 ls0:List AD} {i:Nat} {t:AD}
theorem Qm.turn1 {K:AD->Prop} (z:Qm B D N M w x wb asv ssv la0 ls0 i t) (T:wH K t x y):∃t',K t'/\Qm B D N M w y wb asv ssv la0 ls0 i t':=by
 obtain⟨t',hK,F,G,H,I⟩:=T;exact⟨t',hK,z.turn F H (λ_ h=>h) G I⟩
theorem Qm.keepG {H:Nat} {E2:Nat->Prop} {f:FuncId} {args:Array Value} {R:Ending->Prop} (aa:Qm B D N M w x wb asv ssv la0 ls0 i t) (I:∀k,E2 k->M k)
  (ab:∀ (A:Nat->Nat->Prop) (z:Value) (hs:List Nat),Jm A x wb asv ssv z hs->hs.length<=N->(∀b o,A b o->b < x.heap.size/\¬E2 b/\¬Us wb z b)->
   Cp f args x λr y=>R r/\∃F G,G.length<=H/\Jm (λb o=>(b < y.heap.size/\¬Us wb F b)/\(A b o\/E2 b\/x.heap.size<=b)) y wb asv ssv F G/\Far (λk=>E2 k\/Us wb z k) x y/\Loc x z F):
  Cp f args x λr y=>R r/\Qm B D H (λ_=>False) w y wb asv ssv la0 ls0 i t:=by
 obtain⟨A,z,hs,ac,ls,L,S,Q,O,J⟩:=aa;refine(ab A z hs S.wat S.hn (λb o h=>⟨(S.a2 b o h).1,λe=>(J b (I b e)).1.2 o h,(S.a2 b o h).2.1⟩)).mono ?_;rintro r y ⟨ad,F,G,ah,W,V,Y⟩;have ai:=S.keep (N:=H) (λk h=>(J k (I k h)).1.1) V Y ah W;refine⟨ad,_,F,G,ac,ls,L,ai,Q.trans V ?_,?_,λ_ h=>h.elim⟩;rintro k Z (h|h);have:=(J k (I k h)).2.2;omega;have:=O k (.inl h);exact⟨S.usB k h,by omega⟩;rintro k (h|h);by_cases Z:k < x.heap.size;exact O k (.inl (Y.old Z h));exact .inr (by have:=Q.size;omega);exact O k (.inr h)
theorem Qm.same (H:Qm B D N M w x wb asv ssv la0 ls0 i t) {I:Nat} {fv wv:Value} {F:List Value} {z:List z10} {U:Nat->Prop} (O:Qj I x fv F z U) (J:∀k,fH fv F k->M k) (Q:Jr x wv (AF z)) (ai:z.length<=12) (V:∀b∈z,b.data.toList.length<=35) (aj:N+52<=17592186044416):
  Cp 148 #[C' wb,fv,wv] x λe y=>Rr e (.bool true)/\Qm B D (N+52) (λ_=>False) w y wb asv ssv la0 ls0 i t:=by
 have hl:=O.len;have Y:∀j,((z.map λb=>b.data.toList).getD j []).length<=1000:=by intro j;rw[z15];rcases zT j z.length with h|h;have:=V z[j] (z86 h);rw[z77,z17 h];simp at this ⊢;omega;rw[z76 (by simpa using h)];simp
 refine H.keepG (R:=λe=>e=.returned (.bool true)) (E2:=fH fv F) J (λA Z hs W hn G=>?_);refine(Ba A x wb asv ssv Z fv wv hs F (z.map λb=>b.data.toList) W (by simpa using hl) (KC O.row) (by rw[iC];exact Q) (λj v h=>KC (O.each j v h)) O.apart (λb o h=>⟨(G b o h).1,λe=>?_⟩) (by omega) (by omega) Y).mono ?_;rcases e with e|e|e;exact(G b o h).2.1 (.inl e);exact(G b o h).2.1 (.inr e);exact(G b o h).2.2 e;rintro e y ⟨rfl,aa,ab,ak,ac,ad,ah⟩;exact⟨rfl,aa,ab,by omega,ac,ad,ah⟩
theorem Qm.told (H:Qm B D N M w x wb asv ssv la0 ls0 i t) {z F:Value} {L:List z10} (hl:x.ownsRow 0 9 1 z L.length (AF L)) (I:∀k,z.ownBlock=some k->M k) (J:Jr x F (AF L)) (Q:L.length<=900) (ad:N+4<=17592186044416):
  Cp 151 #[C' wb,z,F] x λe y=>Rr e (.bool true)/\Qm B D (N+4) (λ_=>False) w y wb asv ssv la0 ls0 i t:=by
 refine H.keepG (R:=λe=>e=.returned (.bool true)) (E2:=λk=>z.ownBlock=some k) I (λA V hs W hn G=>?_);refine(Az A x wb asv ssv V z F hs L W hl J (λb o h=>⟨(G b o h).1,λe=>e.elim (G b o h).2.1 (G b o h).2.2⟩) (by omega) Q).mono ?_;rintro e y ⟨rfl,Y,Z,ah,aa,ab,ac⟩;exact⟨rfl,Y,Z,by omega,aa,ab,ac⟩
end
def Xv (K:Nat->AD->Prop) (B D n m:Nat) (w y:World) (z:Nat) (F G:Value) (H ls:List AD) (I:Nat):Prop:=∃J t',K m t'/\Qm B D n J w y z F G H ls I t'
theorem Xv.base {K:Nat->AD->Prop} (h:Xv K w a q b f B Q y u Y Z bH) (hb:El p f):Xv K w a q b p B Q y u Y Z bH:=by
 obtain⟨z,t',h1,h2⟩:=h;exact⟨z,t',h1,h2.base hb⟩
theorem Ew (d:Bool) (a:Ag):(MY d a).1.Qa=a.Qa:=by
 unfold MY;split;rfl;exact wD a
theorem rK (d:Bool) (z:Jj w c):Jj (w+1) (MY d c).1/\((MY d c).2.map λl=>(⟨l.toArray⟩:z10)).length<=12/\∀b∈ ((MY d c).2.map λl=>(⟨l.toArray⟩:z10)),b.data.toList.length<=35:=by
 unfold MY;split;exact⟨z.mono (SE _),by simp,λb hb=>by simp at hb⟩;refine⟨nZ z,by simpa using (XZ z).1,λb hb=>?_⟩;obtain⟨l,hl,rfl⟩:=z66.1 hb;simpa using (XZ z).2 l hl
section
variable {B D n m:Nat} {A:Nat->Nat->Prop} {asv ssv hv:Value} {hs:List Nat} {la ls:List AD} (w:World) (wb ix:Nat) (nn i:Int) (s:z10) (kp fk fe fst fq:Int) (fb:z10) (q sv rp:Nat) (a:Ag) (r:AY) (kv hk:Nat->Value) (U:Nat->Prop) (ar:Bool) (lf:Int)
theorem WO (S:Qr B n A w wb asv ssv hv hs la ls) (F:JG D wb asv ssv hv (la++ls)) (hi:(la++ls)[ix]? =some (agT m q sv rp a r kv hk U ar lf)) (O:gO m lf a r) (G:m < 1000000000):
  Cp 96 #[C' wb,C' q,AL 4 nn i s kp fk fe fst fq fb] w λx w'=>Rr x (.bool true)/\Xv IG B D n (m+1) w w' wb asv ssv la ls ix:=by
 have H:=y' ((z11 w.heap.size w).alloc (z16 _) (.cells #[Ej 4,Ej nn,Ej i,.string s,.int .u64 kp,Ej fk,Ej fe,Ej fst,Ej fq,.string fb] 94));have z:=(Qm.start S F hi).below (M':=λ_=>False) (d' H) (λ_ h=>h.elim);have I:=y' (uS _ 4 nn i s kp fk fe fst fq fb q sv rp a r kv hk U ar lf z.is O G);have J:=y' z;clear S F hi O z;unfold C' AL at *;go_enter func96,ntmps96;go_wp2_with (go_at_call 146;refine Cm I ?_;rintro Q V ⟨rfl,M⟩);go_ret;obtain⟨t',h1,h2⟩:=(d' J).turn1 M;exact⟨rfl,_,t',h1,h2⟩
theorem mF (S:Qr B n A w wb asv ssv hv hs la ls) (z:JG D wb asv ssv hv (la++ls)) (hi:(la++ls)[ix]? =some (agT m q sv rp a r kv hk U ar lf)) (O:gO m lf a r) (G:m < 1000000000) (H:s.size<=140737488353980) (I:n+12<=17592186044416):
  Cp 96 #[C' wb,C' q,AL 6 nn i s kp fk fe fst fq fb] w λx w'=>Rr x (.bool true)/\Xv IG B D (n+12) (m+1) w w' wb asv ssv la ls ix:=by
 have F:=y' ((z11 w.heap.size w).alloc (z16 _) (.cells #[Ej 6,Ej nn,Ej i,.string s,.int .u64 kp,Ej fk,Ej fe,Ej fst,Ej fq,.string fb] 94));have J:=y' (Eu _ wb ix 6 nn i s kp fk fe fst fq fb q sv rp a r kv hk U ar lf (S.below (d' F)) z hi O G H I);clear S z hi O;unfold C' AL at *;go_enter func96,ntmps96;go_wp2_with (go_at_call 149;refine Cm J ?_;rintro Q V ⟨rfl,M⟩);go_ret;exact⟨rfl,Xv.base M (d' F)⟩
theorem gP (S:Qr B n A w wb asv ssv hv hs la ls) (M:JG D wb asv ssv hv (la++ls)) (hi:(la++ls)[ix]? =some (agT m q sv rp a r kv hk U ar lf)) (O:gO m lf a r) (av:m < 1000000000) (ax:n+52<=17592186044416):
  Cp 96 #[C' wb,C' q,AL 5 nn i s kp fk fe fst fq fb] w λx w'=>Rr x (.bool true)/\Xv IG B D (n+52) (m+1) w w' wb asv ssv la ls ix:=by
 have ay:=y' ((z11 w.heap.size w).alloc (z16 _) (.cells #[Ej 5,Ej nn,Ej i,.string s,.int .u64 kp,Ej fk,Ej fe,Ej fst,Ej fq,.string fb] 94));have H:=(Qm.start S M hi).below (M':=λ_=>False) (d' ay) (λ_ h=>h.elim);have F:=y' O;have Q:=Bi 0 H.is.blk;have V:=y' (AgL.tick H.is.p O.Vr av);have Y:=y' H;clear S M hi O H;simp at Q;unfold C' AL at *;go_enter func96,ntmps96;go_upto_region 6 with (go_at_call 13;refine Cm V ?_;rintro aE aF ⟨az,aA,U',rfl,G,Z,hF,aa⟩;have z:=y' ((d' Y).progO (O:=fH az aA) (P':=agP (m+1) ar lf r.dead sv (MY r.dead a).1 U') hF Z aa (λk hk=>⟨(G.lt k hk).1,(G.lt k hk).2,G.clear k hk⟩));have ab:=y' G;clear G Z hF aa);have ac:=Bi 1 (d' z).is.blk;simp[C']at ac;have ad:=y' (mE (d' z).is.r (d' F).Vr (by omega));clear V Q Y;go_upto_region 7 with (go_at_call 147;refine Cm ad ?_;rintro aG aH ⟨aI,n2,rfl,ah,ai,aj,ak,I,ao⟩;have aq:=y' ah;have aB:=y' ((d' z).ref (R':=agR rp (MY r.dead a).1 r ai aj) (ar':=ar) (lf':=lf) (I.mono (λk _ h=>.inr h)) (I.blk (d' z).is.blk (d' z).is.qR) ak ao);have aC:=y' ((d' ab).keep (λk hk=>(d' z).held I (λk h=>.inr (.inl h)) k (.inr hk)));clear ah ak I ao);have J:=y' (rK r.dead (d' F).Vr);have au:=y' ((d' aB).same (d' aC) (λk hk=>.inr hk) (by rw[<-iC,Bh];exact AR (d' aq)) (d' J).2.1 (d' J).2.2 ax);clear z ab aq ad ac;unfold C' at au;go_wp2_with (go_at_call 148;refine Cm au ?_;rintro aJ aK ⟨rfl,aD⟩);go_ret;exact⟨rfl,_,_,⟨m+1,q,sv,rp,_,r,ai,aj,U',ar,lf,z16 _,rfl,(d' F).ex,(d' F).lm,(d' J).1,by rw[Ew];have:=(d' F).ep;omega⟩,aD⟩
end
