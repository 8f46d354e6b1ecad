/-
  Part 9 of a proof.
-/
import Derived.Test.YtamafdcnbcoegabGreatOa8
set_option maxRecDepth 100000
set_option maxHeartbeats 40000000
namespace Go.Proofs.YtamafdcnbcoegabGreat
attribute [local simp, local go_sem] Ev Ep Ei Eb Et Ej Ea En Er Es
open Qb Mq
abbrev Gu:= @List.Perm.append_left
abbrev Cx:= @Nat.lt_succ_of_lt
abbrev Gv:= @List.perm_middle
namespace Mq
variable{aY:Pe}{O:Nat -> Nat}{U:List Rc}{X cU:Ld}{T:Rc}{bT:List Pe}{w:Nat}{r:List UInt8}{t:Hd}
theorem insP_perm:∀ {l:List Pe},(∀y∈l,y.1≠aY.1)->(insP l aY).Perm (aY::l)
 |[],_=>List.Perm.refl _
 |y::r,h=>by
  have h1:=h y (.head _);unfold insP;rw[if_neg (λz=>h1 z.symm)];split
  .exact List.Perm.refl _
  .exact((insP_perm (λF G=>h F (.tail _ G))).cons y).trans (List.Perm.swap aY y r)
theorem insP_sorted:∀ {l:List Pe},l.Pairwise (λx y=>x.1 < y.1)->(∀y∈l,y.1≠aY.1)->(insP l aY).Pairwise (λx y=>x.1 < y.1)
 |[],_,_=>by simp[insP]
 |y::r,hs,h=>by
  have h1:=h y (.head _);rw[z63]at hs;unfold insP;rw[if_neg (λH=>h1 H.symm)];split
  .rename_i G;rw[z63,z63];refine⟨λF z=>?_,hs.1,hs.2⟩;cases z with
   |head=>exact G
   |tail _ z=>exact Nat.lt_trans G (hs.1 F z)
  .rename_i G;rw[z63];refine⟨λF z=>?_,insP_sorted hs.2 (λF z=>h F (.tail _ z))⟩;have:=(insP_perm (λF z=>h F (.tail _ z)):(insP r aY).Perm (aY::r)).subset z;cases this with
   |head=>omega
   |tail _ z=>exact hs.1 F z
structure LdInv (g:Nat->Nat) (rs:List Rc) (x:Nat) (l:Ld):Prop where
 srt:∀i,(l.sh i).Pairwise (λy z=>y.1 < z.1)
 rcd:∀i,∀e∈l.sh i,g i < e.1/\e.2.2 < x/\rs[e.2.2]? =some ⟨i,e.1,e.2.1⟩
 fre:∀y∈l.free,y < x/\∃r,rs[y]? =some r/\r.q<=g r.s
 nd:(l.free++(l.sh 0).map (·.2.2)++(l.sh 1).map (·.2.2)++(l.sh 2).map (·.2.2)).Nodup
 sum:l.free.length+(l.sh 0).length+(l.sh 1).length+(l.sh 2).length=x
theorem ldInv_zero (g:Nat->Nat) (rs:List Rc):LdInv g rs 0 ld0:=
 ⟨λi=>List.Pairwise.nil,λi e z=>by simp[ld0]at z,λy F=>by simp[ld0]at F,by simp[ld0],rfl⟩
theorem LdInv.step {x:Nat} (h:LdInv O U x X) (Y:U[x]? =some T) (hs:T.s < 3) (hl:Xt O x T X=some cU):LdInv O U (x+1) cU:=by
 have ab:∀y∈X.free++(X.sh 0).map (·.2.2)++(X.sh 1).map (·.2.2)++(X.sh 2).map (·.2.2),y < x:=by intro y z;simp only[List.mem_append,List.mem_map]at z;rcases z with ((z|⟨e,F,rfl⟩)|⟨e,F,rfl⟩)|⟨e,F,rfl⟩;exact(h.fre y z).1;exact(h.rcd 0 e F).2.1;exact(h.rcd 1 e F).2.1;exact(h.rcd 2 e F).2.1
 have ac:x∉X.free++(X.sh 0).map (·.2.2)++(X.sh 1).map (·.2.2)++(X.sh 2).map (·.2.2):=λI=>Nat.lt_irrefl _ (ab x I);have Z:=Fm.2 ⟨ac,h.nd⟩;unfold Xt at hl;split at hl;rename_i Q;cases hl;refine⟨h.srt,λi e F=>⟨(h.rcd i e F).1,Cx (h.rcd i e F).2.1,(h.rcd i e F).2.2⟩,λy z=>?_,?_,?_⟩;rw[z55,z51]at z;rcases z with z|rfl;exact⟨Cx (h.fre y z).1,(h.fre y z).2⟩;exact⟨Gh _,T,Y,Q⟩;refine(List.Perm.nodup_iff ?_).2 Z;simp only[List.append_assoc];exact Gv;have:=h.sum;simp only[List.length_append,List.length_singleton];omega;rename_i Q;split at hl;cases hl;rename_i ad;cases hl;have aa:∀y∈X.sh T.s,y.1≠T.q:=λy z e=>ad (by rw[Kc];exact z66.2 ⟨y,z,e⟩);have V:(insP (X.sh T.s) (T.q,T.b,x)).Perm ((T.q,T.b,x)::X.sh T.s):=insP_perm aa;have G:((insP (X.sh T.s) (T.q,T.b,x)).map (·.2.2)).Perm (x::(X.sh T.s).map (·.2.2)):=V.map _;refine⟨λi=>?_,λi e F=>?_,λy z=>⟨Cx (h.fre y z).1,(h.fre y z).2⟩,?_,?_⟩;show List.Pairwise _ (if i=T.s then insP (X.sh T.s) (T.q,T.b,x)else X.sh i);split;exact insP_sorted (h.srt T.s) aa;exact h.srt i
 .have H:e∈ (if i=T.s then insP (X.sh T.s) (T.q,T.b,x)else X.sh i):=F;by_cases J:i=T.s
  .rw[if_pos J]at H;have:=V.subset H;cases this with
   |head=>rw[J];exact⟨Nat.lt_of_not_le Q,Gh _,Y⟩
   |tail _ I=>rw[J];exact⟨(h.rcd T.s e I).1,Cx (h.rcd T.s e I).2.1,(h.rcd T.s e I).2.2⟩
  rw[if_neg J]at H;exact⟨(h.rcd i e H).1,Cx (h.rcd i e H).2.1,(h.rcd i e H).2.2⟩
 refine(List.Perm.nodup_iff ?_).2 Z;show(X.free++(if 0=T.s then insP (X.sh T.s) (T.q,T.b,x)else X.sh 0).map (·.2.2)++(if 1=T.s then insP (X.sh T.s) (T.q,T.b,x)else X.sh 1).map (·.2.2)++(if 2=T.s then insP (X.sh T.s) (T.q,T.b,x)else X.sh 2).map (·.2.2)).Perm _;obtain e|e|e:T.s=0\/T.s=1\/T.s=2:=by omega
 rw[e]at G ⊢;rw[if_pos rfl,if_neg (by omega),if_neg (by omega)];simp only[List.append_assoc];exact((Gu _ (Lc _ G))).trans Gv;rw[e]at G ⊢;rw[if_neg (by omega),if_pos rfl,if_neg (by omega)];simp only[List.append_assoc];refine(Gu _ (Gu _ (Lc _ G))).trans ?_;rw[Im,<-z39 X.free,<-z39 X.free];exact Gv;rw[e]at G ⊢;rw[if_neg (by omega),if_neg (by omega),if_pos rfl];exact(Gu _ G).trans Gv;have M:=V.length_eq;rw[z60]at M;have:=h.sum;show X.free.length+(if 0=T.s then insP (X.sh T.s) (T.q,T.b,x)else X.sh 0).length+(if 1=T.s then insP (X.sh T.s) (T.q,T.b,x)else X.sh 1).length+(if 2=T.s then insP (X.sh T.s) (T.q,T.b,x)else X.sh 2).length=x+1;obtain e|e|e:T.s=0\/T.s=1\/T.s=2:=by omega
 rw[e]at M ⊢;rw[if_pos rfl,if_neg (by omega),if_neg (by omega)];omega;rw[e]at M ⊢;rw[if_neg (by omega),if_pos rfl,if_neg (by omega)];omega;rw[e]at M ⊢;rw[if_neg (by omega),if_neg (by omega),if_pos rfl];omega
theorem ldInv_all {g:Nat->Nat} {rs:List Rc}:∀ (z:List Rc) (x:Nat) (l F:Ld),(∀j,z[j]? =rs[x+j]?)->(∀r∈z,r.s < 3)->LdInv g rs x l->ldAll g z x l=some F->LdInv g rs (x+z.length) F
 |[],x,l,F,_,_,h,hl=>by cases hl;exact h
 |r::z,x,l,F,G,hs,h,hl=>by
  unfold ldAll at hl;cases hst:Xt g x r l with
  |none=>rw[hst]at hl;cases hl
  |some H=>rw[hst]at hl;have h0:=G 0;rw[List.getElem?_cons_zero,zQ]at h0;have:=ldInv_all z (x+1) H F (λj=>by have:=G (j+1);rw[Bf]at this;rw[this];congr 1;omega) (λr' I=>hs r' (.tail _ I)) (h.step h0.symm (hs r (.head _)) hst) hl;rw[z60,show x+(z.length+1)=x+1+z.length by omega];exact this
theorem sorted_room:∀ (r:List Pe) (c u:Nat),c<=u->r.Pairwise (λx y=>x.1 < y.1)->(∀y∈r,c < y.1/\y.1<=u)->c+r.length<=u
 |[],c,u,h,_,_=>by simpa using h
 |y::r,c,u,h,hs,z=>by rw[z63]at hs;have h1:=z y (.head _);have:=sorted_room r y.1 u h1.2 hs.2 (λF G=>⟨hs.1 F G,(z F (.tail _ G)).2⟩);rw[z60];omega
theorem keptP_of:∀ (l:List Pe) (b:Nat),l.Pairwise (λx y=>x.1 < y.1)->(∀e∈l,b < e.1/\e.1<=b+l.length)->keptP b (l.map λe=>(e.2.1,0)) (l.map (·.2.2))=l
 |[],_,_,_=>rfl
 |e::r,b,hs,hb=>by
  rw[z63]at hs;have h1:=hb e (.head _);rw[z60]at h1;have h2:=sorted_room r e.1 (b+(r.length+1)) h1.2 hs.2 (λz F=>⟨hs.1 z F,by have:=(hb z (.tail _ F)).2;rw[z60]at this;exact this⟩);have h3:e.1=b+1:=by omega
  rw[z50,z50,keptP];have:=keptP_of r (b+1) hs.2 (λz F=>⟨by have:=hs.1 z F;omega,by have:=(hb z (.tail _ F)).2;rw[z60]at this;omega⟩);rw[this,<-h3]
theorem lastP_bound (hs:bT.Pairwise (λx y=>x.1 < y.1)):∀e∈bT,e.1<=Vz bT w:=by
 intro e F;obtain⟨j,hj,z⟩:=z79.1 F;unfold Vz;rw[List.getLast?_eq_getElem?,z17 (by omega:bT.length - 1 < bT.length)];simp only
 by_cases h:j=bT.length - 1;subst h;rw[<-z];omega;have:=List.pairwise_iff_getElem.1 hs j (bT.length - 1) hj (by omega) (by omega);rw[z]at this;omega
def plOf (l:Ld) (i:Nat):List Nat:=(l.sh i).map (·.2.2)
theorem Yx (aa:openSt r=some (t,w,U)) (hl:ldAll t.num U 0 ld0=some X) (ab:∀i,i < 3->okP (X.sh i) (t.num i)=true) (ac:r.length=1664):
  Xu (openL r t w) (t.o+1) 1 (1 - w) (Zt t.o t.num X) X.free (plOf X)/\Xl (Zt t.o t.num X) X.free (plOf X)/\(∀i,i < 3->keptP (t.num i) ((X.sh i).map λe=>(e.2.1,0)) (plOf X i)=X.sh i):=by
 obtain⟨hn,Q⟩:=Vg aa;rw[ac]at Q;obtain⟨ad,V⟩:=Xo _ _ Q;have ah:∀x,x < 24->Yp (sec r (2+x)) (t.o+1) (U.getD x rc0):=λx z=>by obtain⟨k1,k2⟩:=V x z;rw[z45]at k1 k2;rw[z15,k2];exact(recAt_ok k1).up (by omega)
 have Y:∀J∈U,J.s < 3:=λJ Q=>by obtain⟨x,z,e⟩:=z79.1 Q;obtain⟨k1,k2⟩:=V x (by omega);rw[z17 z,e]at k2;cases k2;exact(recOk_small k1).1
 have F:=ldInv_all (g:=t.num) (rs:=U) U 0 ld0 X (λj=>by rw[z45]) Y (ldInv_zero _ _) hl;have ai:U.length=24:=ad;rw[ai,z45]at F;have H:=Yr hn (m:=26) (by omega) (by omega);have Z:∀i,i < 3->keptP (t.num i) ((X.sh i).map λe=>(e.2.1,0)) (plOf X i)=X.sh i:=λi hi=>by refine keptP_of _ _ (F.srt i) (λe G=>⟨(F.rcd i e G).1,?_⟩);have h1:=ab i hi;unfold okP at h1;simp only[Bool.and_eq_true,decide_eq_true_eq]at h1;rw[<-h1.2];exact lastP_bound (F.srt i) e G
 have I:∀i,i < 3->((Zt t.o t.num X).fl i).base=t.num i:=λi hi=>by unfold Zt;simp only;rw[if_pos hi]
 have M:∀i,i < 3->((Zt t.o t.num X).fl i).kept=(X.sh i).map λe=>(e.2.1,0):=λi hi=>by unfold Zt;simp only;rw[if_pos hi]
 refine⟨⟨⟨H.len,H.two,H.hd1,H.op1,H.opm,H.ctm,λi hi=>by rw[I i hi];exact H.sm i hi,?_⟩,λx=>U.getD x rc0,λx z=>?_,λi hi e G=>?_,λx z=>?_⟩,⟨λi hi=>?_,F.nd,λx z=>?_,?_⟩,Z⟩;rw[I 0 (by omega),I 1 (by omega),I 2 (by omega)];exact H.hs;rw[openL_other (m:=26) (by omega) (by omega) (by omega)];exact ah x z;rw[I i hi,M i hi,Z i hi]at G;show U.getD e.2.2 rc0= _;rw[z15,(F.rcd i e G).2.2];rfl;obtain⟨_,J,h1,h2⟩:=F.fre x z;have:U.getD x rc0=J:=by rw[z15,h1];rfl
 show(U.getD x rc0).s < 3/\(U.getD x rc0).q<=((Zt t.o t.num X).fl (U.getD x rc0).s).base;rw[this];have h3:=Y J (z65 h1);exact⟨h3,by rw[I _ h3];exact h2⟩;rw[M i hi];simp[plOf];simp only[List.mem_append,plOf,List.mem_map]at z;rcases z with ((z|⟨e,G,rfl⟩)|⟨e,G,rfl⟩)|⟨e,G,rfl⟩;exact(F.fre x z).1;exact(F.rcd 0 e G).2.1;exact(F.rcd 1 e G).2.1;exact(F.rcd 2 e G).2.1;have:=F.sum;unfold Ag.room;rw[M 0 (by omega),M 1 (by omega),M 2 (by omega)];simp only[List.length_map];omega
end Mq
open Go.RowKit Go.Proofs.Tryz
structure Yn (op ct n:Nat) (st:Stv) (a:Ag) (free:List Nat) (pl:Nat->List Nat):Prop where
 dead:st.dk.dead=false
 arm:st.dk.Xr=n
 op:st.Qe=op
 ct:st.count<=ct
 dk:Xu st.dk.bytes st.Qe st.count st.head a free pl
structure Gw (op:Nat) (st:Stv) (a:Ag):Prop where
 dead:st.dk.dead=true
 op:st.Qe=op
 dk:∃ct hd free pl,Xu st.dk.bytes st.Qe ct hd a free pl/\Xl a free pl
variable{c bA:Ag}{w a q b Q:Nat}{O cD cF:Nat -> Nat}{k:List Nat}{L:Nat -> List (Nat×Value)}{W:Nat -> List Nat}{H:Stv}{z:z10}{aA:Nat×Nat}{p:World}{aL:Av}{r:List UInt8}{o:Int}
theorem Jv.places (z:Jv c w O k L W):Xl c k W:=⟨z.pn,z.nd,z.lt,z.sum⟩
theorem iS (h:Yn w a q H c k W) (z:a+1 < 18446744073709551616):H.next=H.count+1:=by
 have:=h.ct;unfold Stv.next
 omega
theorem Cy (h:Yn w a q H c (k++[b]) W) (G:a+1000 < 18446744073709551616) (hn:q≠1) (P:Xl c (k++[b]) W) (hi:Q < 3) (hb:z.size<=20) (I:(c.fl Q).base+(c.fl Q).kept.length < 2147483647):
  (H.Qu b Q ((c.fl Q).base+(c.fl Q).kept.length+1) z.data.toList).1=0/\Yn w (a+1) (q - 1) (H.Qu b Q ((c.fl Q).base+(c.fl Q).kept.length+1) z.data.toList).2 (c.Xm Q z) k (λt=>if t=Q then W Q++[b]else W t):=by
 have F:=iS h (by omega);have hd:=h.dk.Xm P hi hb (by have:=h.ct;omega) (by omega);have h1:=h.dead;have h2:=h.arm;have h3:=h.ct;unfold Stv.Qu Dk.put;rw[if_neg (by rw[h1];simp),if_neg (by rw[h2];exact hn),F];exact⟨rfl,rfl,by show H.dk.Xr - 1=q - 1;rw[h2],h.op,by show H.count+1<=a+1;omega,hd⟩
theorem Cz (h:Yn w a 1 H c k W) (P:Xl c k W) (z s q:Nat) (b:List UInt8):
  (H.Qu z s q b).1=4/\Gw w (H.Qu z s q b).2 c:=by
 have h1:=h.dead;have h2:=h.arm;unfold Stv.Qu Dk.put;rw[if_neg (by rw[h1];simp),if_pos h2];exact⟨rfl,rfl,h.op,_,_,k,W,h.dk,P⟩
theorem Da {op ct:Nat} {st:Stv} {a:Ag} (h:Yn op ct 1 st a k W) (P:Xl a k W) (x y z:Nat):
  (st.Qp x y z).1=4/\Gw op (st.Qp x y z).2 a:=by
 have h1:=h.dead;have h2:=h.arm;unfold Stv.Qp Dk.put;rw[if_neg (by rw[h1];simp),if_pos h2];exact⟨rfl,rfl,h.op,_,_,k,W,h.dk,P⟩
def Ml (op ct n:Nat) (w x:World) (p:Nat) (a:Ag) (c:Av):Prop:=
 ∃g free sh z st,Qy w x p g a.Qf a.Qd a.fenced free sh st c/\Yn op ct n st a free z/\Jv a st.Qe g free sh z
def iT (op:Nat) (w x:World) (p:Nat) (a:Ag) (c:Av):Prop:=∃g free sh st,Qy w x p g a.Qf a.Qd a.fenced free sh st c/\Gw op st a
section
variable {w x y:World} {p:Nat} {g:Nat->Nat} {tk:Nat} {wel fen:Bool} {free:List Nat} {sh:Nat->List (Nat×Value)} {st st2:Stv} {c:Av} {a:Ag} {op ct n:Nat} {pl:Nat->List Nat}
theorem lF (G:Ja w p g a.Qf a.Qd a.fenced free sh st c) (hs:st.dk.dead=false) (O:Jv a st.Qe g free sh pl) (i:Int) (s:z10) (H:a.Je i s.size≠0):
  Cp 50 #[C' p,Ej i,.string s] w λr Z=>Rr r (Ej (a.Je i s.size))/\Z=w:=by
 have c0:w.cell? (Ea p 0)=some (C' c.s):=by rw[D' G.ks.blk,G.ks.a0]
 have J:=AN G.stt;rw[hs]at J;have M:=y' J;obtain⟨aa,cap,Q,_⟩:=G.ks.fr.shape;have ab:w.cell? (Ea p 22)=some (.slice aa free.length cap):=by rw[D' G.ks.blk,G.ks.af,Q]
 have V:=O.sum;obtain⟨m,Y⟩:=exq (free.length);rw[<-Y]at ab V;have I:=y' (CD i w);obtain⟨e,z⟩:=exq (a.Je i s.size);rw[<-z];have ac:(Qb.isStr i=false/\e=5)\/(Qb.isStr i=true/\20 < s.size/\e=6)\/(Qb.isStr i=true/\¬20 < s.size/\m=0/\e=7):=by
  unfold Ag.Je at z H;by_cases h1:i < 0\/3<=i;rw[if_pos h1]at z;refine .inl ⟨?_,z⟩;cases ad:Qb.isStr i;rfl;simp[Qb.isStr]at ad;omega;rw[if_neg h1]at z H;have hst:Qb.isStr i=true:=by simp[Qb.isStr];omega
  by_cases h2:20 < s.size;rw[if_pos h2]at z;exact .inr (.inl ⟨hst,h2,z⟩);rw[if_neg h2]at z H;by_cases h3:24<=a.room;rw[if_pos h3]at z;exact .inr (.inr ⟨hst,h2,by omega,z⟩);rw[if_neg h3]at H;exact absurd rfl H
 clear G J Q Y H z O V;unfold C' at *;rcases ac with ⟨h1,rfl⟩|⟨h1,h2,rfl⟩|⟨h1,h2,rfl,rfl⟩
 .rw[h1]at I;go_enter func50,ntmps50;go_wp2_with (first|(go_at_call 66;refine Cm M ?_;rintro r y ⟨rfl,F⟩;obtain rfl:w=y:=F.symm)|(go_at_call 71;refine Cm I ?_;rintro r y ⟨rfl,F⟩;obtain rfl:w=y:=F.symm));go_ret;exact⟨rfl,rfl⟩
 .rw[h1]at I;have ah:(20:Int) < (s.size:Int):=by omega
  go_enter func50,ntmps50;go_wp2_with (first|(go_at_call 66;refine Cm M ?_;rintro r y ⟨rfl,F⟩;obtain rfl:w=y:=F.symm)|(go_at_call 71;refine Cm I ?_;rintro r y ⟨rfl,F⟩;obtain rfl:w=y:=F.symm));go_ret;exact⟨rfl,rfl⟩
 rw[h1]at I;have ah:¬ (20:Int) < (s.size:Int):=by omega
 go_enter func50,ntmps50;go_wp2_with (first|(go_at_call 66;refine Cm M ?_;rintro r y ⟨rfl,F⟩;obtain rfl:w=y:=F.symm)|(go_at_call 71;refine Cm I ?_;rintro r y ⟨rfl,F⟩;obtain rfl:w=y:=F.symm));go_ret;exact⟨rfl,rfl⟩
theorem lG (z:Ja w p g a.Qf a.Qd a.fenced free sh st c) (hs:Yn op ct n st a free pl) (aR:ct+1000 < 18446744073709551616) (aS:n≠1) (O:Jv a st.Qe g free sh pl) {i:Nat} (hi:i < 3) (s:z10) (ay:s.size<=20) (bw:a.room < 24) (az:(a.fl i).base+(a.fl i).kept.length < 2147483647):
  Cp 50 #[C' p,Ej i,.string s] w λr G=>Rr r (Ej 0)/\Ml op (ct+1) (n - 1) w G p (a.Xm i s) c:=by
 have aT:free≠ []:=λh=>by have:=O.sum;rw[h]at this;simp at this;omega
 obtain⟨fr,q,rfl⟩:∃fr q,free=fr++[q]:=by rcases xN free with h|⟨l,x,h⟩;exact absurd h aT;exact⟨l,x,by rw[h,xM]⟩
 have bP:q < 24:=O.lt q (by simp);have bz:=Cy hs aR aS O.places hi ay az;have aU:=hs.dead;clear aR aS hs;have c0:w.cell? (Ea p 0)=some (C' c.s):=by rw[D' z.ks.blk,z.ks.a0]
 have aA:=AN z.stt;rw[aU]at aA;have aV:=y' aA;have hst:Qb.isStr (i:Int)=true:=by simp[Qb.isStr];omega
 have aB:=CD (i:Int) w;rw[hst]at aB;have aW:=y' aB;obtain⟨bQ,cap,I,_,_,aC⟩:=z.ks.fr.shape;have aX:(fr++[q]).length=fr.length+1:=by simp
 rw[aX]at I aC;obtain⟨aY,aZ,rfl,ba⟩:=aC (by omega);have bb:w.cell? (Ea p 22)=some (Es aY aZ (fr.length+1) cap):=by rw[D' z.ks.blk,z.ks.af,I]
 have bc:w.cell? (Ea aY (aZ+fr.length))=some (Ej q):=by rw[ba fr.length (by omega)];simp[O']
 have bA:fr.length+1<=24:=by have:=O.sum;simp at this;omega
 obtain⟨m,F⟩:=exq (fr.length);rw[<-F]at bb bc bA I;have bR:IntKind.i64.wrap (((m+1:Nat):Int) - 1)=(m:Int):=by rw[z28];omega
 have bS:IntKind.i64.wrap ((m:Int)+1 - 1)=(m:Int):=by rw[z28];omega
 have bT:IntKind.i64.wrap (m:Int)=(m:Int):=by rw[z28];omega
 have bU:(0:Int)<=(m:Int):=by omega
 have bV:(m:Int) < ((m+1:Nat):Int):=by omega
 have bW:(m:Int) < (m:Int)+1:=by omega
 have bX:(((m+1:Nat):Int) ==0)=false:=by simp;omega
 have bY:((m:Int)+1==0)=false:=by simp;omega
 obtain⟨aD,J⟩:=exq ((a.fl i).base+(a.fl i).kept.length);have aE:=λn=>MS (z.below (z36 (z11 _ _) n)) O hi (O.bs i hi);rw[<-J]at aE az;have bd:=λn=>y' (aE n);have be:IntKind.i64.wrap ((aD:Int)+1)=((aD+1:Nat):Int):=by rw[z28];omega
 obtain⟨aa,M⟩:=exq (aD+1);rw[<-M]at be;obtain⟨h0,Q⟩:=bz;rw[<-J,<-M]at h0 Q;have bB:s.data.toList.length=s.size:=by simp
 have V:=PC (st:=st) q i aa s.data.toList (by omega) (by rw[z.len];omega);rw[z.len]at V;have aF:=λy (ab:El w y)=>JE y c.s c.dp st c.dlv c.duv (z.below ab).stt q i aa s (by rw[z.len];omega) (by omega) (by omega) ay;have ac:(st.Qu q i aa s.data.toList).2.Qe=st.Qe:=rfl;obtain⟨st2,aG⟩:=exq ((st.Qu q i aa s.data.toList).2);rw[<-aG]at Q V ac;rw[h0,<-aG]at aF;have bf:=λy ab=>y' (aF y ab);have bZ:¬ (20:Int) < (s.size:Int):=by omega
 have ca:(0:Int)<=(i:Int):=by omega
 have cb:(i:Int) < 3:=by omega
 have aH:=y' (z13 Q (z13 V (z13 ac (z13 F (z13 J (z13 M I))))));have ao:=y' O;have bC:=y' z;have bD:=z12 z.ks.blk;have bg:=λy=>y' (kY s y (by omega));clear z O aA aB hst aF Q V ac F J M I aE h0 aG aC ba bB aX aT bw az ay aU;unfold C' at *;go_enter func50,ntmps50;go_upto_region 9 with (first|(go_at_call 66;refine Cm aV ?_;rintro r y ⟨rfl,aI⟩;obtain rfl:w=y:=aI.symm)|(go_at_call 71;refine Cm aW ?_;rintro r y ⟨rfl,aI⟩;obtain rfl:w=y:=aI.symm));go_quiet (first|(go_at_call 79;exact Fo (d' (bd _))));go_upto_region 10 with fail;refine G' (λx=>El w x) (z36 (z11 _ _) _) ?_;clear bc aV aW bd be;intro x aq;have d0:=Bc aq bD c0;have bh:=y' aq;have bi:=y' (d' (bf x aq));clear aq c0 bb bf;go_upto_region 13 with (go_at_call 80;refine Cm bi ?_;rintro r y ⟨rfl,cc,k1,k2,k3⟩);obtain⟨Q,V,ac,F,J,M,I⟩:=d' aH;have bj:=JP ((d' bC).below (d' bh)) k1 k2 k3 V;have au:=y' (bj.behind (d' bh));refine G' (λG=>Qy w G p g a.Qf a.Qd a.fenced (fr++[q]) sh st2 c) (d' au) ?_;clear k1 k2 k3 bj au d0 bi Q V ac F J M I;rintro G ⟨c1,Y,bk,bl,t1,t2⟩;obtain⟨cd,ad,aj,bE,_,bm⟩:=Y.ks.fr.shape;obtain⟨ah,ai,rfl,_⟩:=bm (by simp);have F:=(d' aH).2.2.2.1;have aJ:(fr++[q]).length=m+1:=by simp[F]
 rw[aJ]at aj bE;have ce:m<=ad:=by omega
 have d22:G.cell? (Ea p 22)=some (Es ah ai (m+1) ad):=by rw[D' Y.ks.blk,Y.ks.af,aj]
 have bn:G.frozen? ⟨p,22,none⟩=false:=H' (i:=22) Y.ks.blk;have aK:=z12 Y.ks.blk;have aL:Ql G 3 1 (Es ah ai m ad) fr.length (O' fr):=by
  have h:=Y.ks.fr;rw[aJ,aj]at h;have h2:=h.init;rw[<-F];have:(O' (fr++[q])).take m=O' fr:=by rw[F];simp[O']
  rw[this]at h2;exact h2
 have aM:=λbo (aN:El G bo)=>y' (KY (bk.trans (fbF aN) (λ_ _ h=>h.elim)) bl t1 t2 (VN (free2:=fr) (x:=bo) (v:=Es ah ai m ad) (Y.below aN) (Far.refl _ _) (by rw[F];rw[F]at aL;exact aL.far (fbF aN) Ih) (.inr (.inl (by rw[aj];rfl)))));clear Y bk bl t1 t2 bm aL aj aJ F;refine Z'
  [Ep p 0,Ep p 0,Ep p 0,Ep p 22,Ev (Es ah ai (m+1) ad),Ep p 0,Ep p 0,Ep p 22,Ev (Es ah ai (m+1) ad),
   Ei ((m+1:Nat):Int),Ei m,Ev (Es ah ai m ad),Ep p 0,Ep p 22,Et]
  [[0],[0],[2061],[3062],[4063],[0],[6065],[7066],[8067],[9068],[10069],[5064,11070],[1060],[13072],[14073,12071]] [61,62,63,64,65,66,67,68,69,70,71,72,73,74,0] [60,14,12]
  14 _ rfl rfl ?_ ?_
 .refine⟨?_,?_,?_,?_,?_,?_,?_,?_,?_,?_,?_,?_,?_,?_,trivial⟩;all_goals
   intro a' y hb aO;have bp:=Bc hb aK d22;clear hb aM;simp[J']at aO;go_simp;try exact⟨_,rfl,z11 _ _,rfl⟩
   try exact z11 _ _
   try exact⟨z11 _ _,by simp⟩
 intro f y Z H;simp only[AJ,List.take]at H;have bF:=H.2.2.2.2.2.2.2.2.2.2.2.1;have bG:=H.2.2.2.2.2.2.2.2.2.2.2.2.2.1;clear H;have bq:=y' (d' (aM y Z));have bp:=Bc Z aK d22;have bH:y.frozen? ⟨p,22,none⟩=false:=(Z.frozen (p:=⟨p,22,none⟩) aK).trans bn;clear Z aM d22 bn;simp only[V',bF,bG];go_simp;go_upto_region 14 with fail;refine G' (λG=>Qy w G p g a.Qf a.Qd a.fenced fr sh st2 c) (d' bq) ?_;clear bq bp bH;rintro z3 ⟨c3,ak,av,ax,t1,t2⟩;have bI:=(d' ao).small hi;have br:(sh (i * 3)).length < 1000:=by rw[(d' ao).kp i hi,JO _ _ _ ((d' ao).pn i hi)];omega
 have aP:=λy (ab:El z3 y)=>oK ((ak.below ab).shAt (i:=i * 3) (by omega)) br aa s q;simp only[JD,show 4+i * 3 * 2=4+i * 6 by omega]at aP;have aQ:=λy ab=>y' (aP y ab);have bJ:=y' (z13 ak (z13 av (z13 ax (z13 t1 t2))));clear ak av ax t1 t2 aP bI br;refine Z'
  [Ep p 0,Ei i,Ep p 0,Ep p 4,Ep p (4+i * 6),Ep p (4+i * 6),Ei aa,Ev (.string s),Ev (.string s),Ei q,Ev (.agg #[.string s,Ej q]),Et]
  [[0],[1],[1074],[3076],[4077,2075],[5078],[7],[2],[8081],[8],[9082,10083],[6079,7080,11084]] [75,76,77,78,79,80,81,82,83,84,85,86] [74,12]
  11 _ rfl rfl ?_ ?_
 .refine⟨?_,?_,?_,?_,?_,?_,?_,?_,?_,?_,?_,trivial⟩;all_goals
   intro a' y hb aO;clear hb aQ;simp[J']at aO;go_simp;try exact⟨_,rfl,z11 _ _,rfl⟩
   try exact z11 _ _
   try exact⟨z11 _ _,by simp⟩
  all_goals first
   |(refine Cm (bg _) ?_;rintro r G ⟨rfl,hb⟩;exact⟨rfl,hb⟩)
   |(refine Cm (bg _) ?_;rintro r G ⟨rfl,hb⟩;exact⟨_,rfl,hb,rfl⟩)
   |skip
 intro f2 y Z H;simp only[AJ,List.take]at H;have bK:=H.2.2.2.2.2.1;have bL:=H.2.2.2.2.2.2.1;have bM:=H.2.2.2.2.2.2.2.2.2.2.1;clear H;have bN:=y' (d' (aQ y Z));have bt:=y' Z;clear Z aQ;simp only[V',bK,bL,bM];go_simp;refine Cm bN ?_;rintro r u ⟨rfl,hst⟩;have au:=y' hst;clear hst;go_wp2;go_ret;refine⟨rfl,?_⟩;obtain⟨Q,V,ac,F,J,M,I⟩:=d' aH;obtain⟨ak,av,ax,t1,t2⟩:=d' bJ;have hst:=d' au;have bO:EC y u p (4+i * 3 * 2) 116 c3.arr (c3.nv (i * 3)) (c3.mv (i * 3)) (CY (sh (i * 3)) aa (JD s q)):=by rw[show 4+i * 3 * 2=4+i * 6 by omega];exact hst
 have h1:=KY av ax t1 t2 ((FR (ak.below (d' bt)) (by omega) bO).behind (d' bt));have bu:=pB (d' ao) hi s;rw[<-J,<-M,<-ac]at bu;exact⟨g,fr,_,_,st2,h1,Q,bu⟩
theorem lH (z:Ja w p g a.Qf a.Qd a.fenced free sh st c) (hs:Yn op ct 1 st a free pl) (O:Jv a st.Qe g free sh pl) {i:Nat} (hi:i < 3) (s:z10) (ao:s.size<=20) (aJ:a.room < 24) (aq:(a.fl i).base+(a.fl i).kept.length < 2147483647):
  Cp 50 #[C' p,Ej i,.string s] w λr aK=>Rr r (Ej 4)/\iT op w aK p a c:=by
 have au:free≠ []:=λh=>by have:=O.sum;rw[h]at this;simp at this;omega
 obtain⟨fr,q,rfl⟩:∃fr q,free=fr++[q]:=by rcases xN free with h|⟨l,x,h⟩;exact absurd h au;exact⟨l,x,by rw[h,xM]⟩
 have aT:q < 24:=O.lt q (by simp);have aL:=λF=>Cz hs O.places q i F s.data.toList;have av:=hs.dead;clear hs;have c0:w.cell? (Ea p 0)=some (C' c.s):=by rw[D' z.ks.blk,z.ks.a0]
 have Z:=AN z.stt;rw[av]at Z;have ax:=y' Z;have hst:Qb.isStr (i:Int)=true:=by simp[Qb.isStr];omega
 have aa:=CD (i:Int) w;rw[hst]at aa;have ay:=y' aa;obtain⟨aU,cap,G,_,_,ab⟩:=z.ks.fr.shape;have az:(fr++[q]).length=fr.length+1:=by simp
 rw[az]at G ab;obtain⟨aA,aB,rfl,aC⟩:=ab (by omega);have aD:w.cell? (Ea p 22)=some (Es aA aB (fr.length+1) cap):=by rw[D' z.ks.blk,z.ks.af,G]
 have aE:w.cell? (Ea aA (aB+fr.length))=some (Ej q):=by rw[aC fr.length (by omega)];simp[O']
 have aM:fr.length+1<=24:=by have:=O.sum;simp at this;omega
 obtain⟨m,J⟩:=exq (fr.length);rw[<-J]at aD aE aM G;have aV:IntKind.i64.wrap (((m+1:Nat):Int) - 1)=(m:Int):=by rw[z28];omega
 have aW:IntKind.i64.wrap ((m:Int)+1 - 1)=(m:Int):=by rw[z28];omega
 have aX:IntKind.i64.wrap (m:Int)=(m:Int):=by rw[z28];omega
 have aY:(0:Int)<=(m:Int):=by omega
 have aZ:(m:Int) < ((m+1:Nat):Int):=by omega
 have ba:(m:Int) < (m:Int)+1:=by omega
 have bb:(((m+1:Nat):Int) ==0)=false:=by simp;omega
 have bc:((m:Int)+1==0)=false:=by simp;omega
 obtain⟨ac,M⟩:=exq ((a.fl i).base+(a.fl i).kept.length);have ad:=λn=>MS (z.below (z36 (z11 _ _) n)) O hi (O.bs i hi);rw[<-M]at ad aq;have aF:=λn=>y' (ad n);have aG:IntKind.i64.wrap ((ac:Int)+1)=((ac+1:Nat):Int):=by rw[z28];omega
 obtain⟨F,Q⟩:=exq (ac+1);rw[<-Q]at aG;obtain⟨h0,I⟩:=aL F;have aN:s.data.toList.length=s.size:=by simp
 have H:=PC (st:=st) q i F s.data.toList (by omega) (by rw[z.len];omega);rw[z.len]at H;have ah:=λy (ai:El w y)=>JE y c.s c.dp st c.dlv c.duv (z.below ai).stt q i F s (by rw[z.len];omega) (by omega) (by omega) ao;have V:(st.Qu q i F s.data.toList).2.Qe=st.Qe:=rfl;obtain⟨st2,aj⟩:=exq ((st.Qu q i F s.data.toList).2);rw[<-aj]at I H V;rw[h0,<-aj]at ah;have aH:=λy ai=>y' (ah y ai);have bd:¬ (20:Int) < (s.size:Int):=by omega
 have be:(0:Int)<=(i:Int):=by omega
 have bf:(i:Int) < 3:=by omega
 have aO:=y' (z13 I (z13 H (z13 V (z13 J (z13 M (z13 Q G))))));have bg:=y' O;have aP:=y' z;have aQ:=z12 z.ks.blk;clear z O Z aa hst ah I H V J M Q G ad h0 aj ab aC aN az au aJ aq ao av;unfold C' at *;go_enter func50,ntmps50;go_upto_region 9 with (first|(go_at_call 66;refine Cm ax ?_;rintro r y ⟨rfl,ak⟩;obtain rfl:w=y:=ak.symm)|(go_at_call 71;refine Cm ay ?_;rintro r y ⟨rfl,ak⟩;obtain rfl:w=y:=ak.symm));go_quiet (first|(go_at_call 79;exact Fo (d' (aF _))));go_upto_region 10 with fail;refine G' (λx=>El w x) (z36 (z11 _ _) _) ?_;clear aE ax ay aF aG;intro x Y;have d0:=Bc Y aQ c0;have aI:=y' Y;have aR:=y' (d' (aH x Y));clear Y c0 aD aH;go_wp2_with (go_at_call 80;refine Cm aR ?_;rintro r y ⟨rfl,bh,k1,k2,k3⟩;replace k1:=y' k1;replace k2:=y' k2;replace k3:=y' k3);obtain⟨I,H,V,J,M,Q,G⟩:=d' aO;have aS:=JP ((d' aP).below (d' aI)) (d' k1) (d' k2) (d' k3) H;go_ret;exact⟨rfl,_,_,_,st2,aS.behind (d' aI),I⟩
end
def plD (z:Nat->List Nat) (n:Nat->Nat) (j:Nat):Nat->List Nat:=λt=>if t < j then(z t).drop (n t)else z t
def frD (free:List Nat) (z:Nat->List Nat) (n:Nat->Nat):Nat->List Nat
 |0=>free
 |j+1=>frD free z n j++(z j).take (n j)
theorem Db (z:Nat->List Nat) (n:Nat->Nat):plD z n 0=z:=by funext t;unfold plD;rw[if_neg (by omega)]
theorem pU (z:Nat->List Nat) (n:Nat->Nat) (j:Nat):plD z n j j=z j:=by unfold plD;rw[if_neg (by omega)]
theorem Dc (free:List Nat) (z:Nat->List Nat) (n:Nat->Nat) (j:Nat):frD free z n (j+1)=frD free z n j++(plD z n j j).take (n j):=by rw[pU];rfl
theorem Dd (z:Nat->List Nat) (n:Nat->Nat) (j:Nat):plD z n (j+1)=λt=>if t=j then(plD z n j j).drop (n j)else plD z n j t:=by
 funext t;rw[pU];unfold plD;by_cases h:t=j;subst h;rw[if_pos (by omega),if_pos rfl];rw[if_neg h];by_cases h2:t < j;rw[if_pos (by omega),if_pos h2];rw[if_neg (by omega),if_neg h2]
theorem vY:∀j,w∈frD k W O j->w∈k\/∃i,i < j/\w∈ (W i).take (O i)
 |0,h=>.inl h
 |j+1,h=>by
  unfold frD at h;rw[z55]at h;rcases h with h|h
  .exact(vY j h).imp id (λ⟨i,hi,z⟩=>⟨i,by omega,z⟩)
  .exact .inr ⟨j,by omega,h⟩
theorem Yn.same {op n:Nat} (h:Yn op w n H c k W) (hb:∀i,i < 3->(bA.fl i).base=(c.fl i).base/\(bA.fl i).kept.map (·.1)=(c.fl i).kept.map (·.1)):Yn op w n H bA k W:=⟨h.dead,h.arm,h.op,h.ct,h.dk.same hb⟩
def OH (a:Ag):Nat:=((a.fl 0).base+(a.fl 0).base+(a.fl 0).kept.length)+((a.fl 1).base+(a.fl 1).base+(a.fl 1).kept.length)+((a.fl 2).base+(a.fl 2).base+(a.fl 2).kept.length)
theorem yP (hb:∀i,i < 3->(bA.fl i).base=(c.fl i).base/\(bA.fl i).kept.map (·.1)=(c.fl i).kept.map (·.1)):OH bA=OH c:=by
 have hl:∀i,i < 3->(bA.fl i).kept.length=(c.fl i).kept.length:=λi hi=>by have:=congrArg List.length (hb i hi).2;simpa using this
 unfold OH;rw[(hb 0 (by omega)).1,(hb 1 (by omega)).1,(hb 2 (by omega)).1,hl 0 (by omega),hl 1 (by omega),hl 2 (by omega)]
theorem vZ (z:∀i,i < 3->(c.fl i).base+(c.fl i).kept.length<=2147483647):OH c<=12884901882:=by
 have h0:=z 0 (by omega);have h1:=z 1 (by omega);have h2:=z 2 (by omega);unfold OH;omega
theorem ZL (z:Jv c w O k L W) (F:∀i,i < 3->cF i=(c.fl i).base+cD i) (G:¬ (cF 0=O 0/\cF 1=O 1/\cF 2=O 2)):0 < cD 0+cD 1+cD 2:=by
 have H:=z.bs 0 (by omega);have I:=z.bs 1 (by omega);have b2:=z.bs 2 (by omega);have J:=F 0 (by omega);have M:=F 1 (by omega);have Q:=F 2 (by omega);omega
theorem yQ {ct:Nat} (h:Yn w ct a H c k W) (M:ct+1000 < 18446744073709551616) (Q:a≠1) (P:Xl c k W) (n X:Nat->Nat) (hn:∀i,i < 3->n i<=(c.fl i).kept.length) (F:∀i,i < 3->X i=(c.fl i).base+n i) (G:∀i,i < 3->(c.fl i).base+(c.fl i).kept.length<=2147483647):
  (H.Qp (X 0) (X 1) (X 2)).1=0/\Yn w (ct+1) (a - 1) (H.Qp (X 0) (X 1) (X 2)).2 (c.drop n) (frD k W n 3) (plD W n 3):=by
 have I:=iS h (by omega);have z:∀i,i < 3->((c.drop n).fl i).base=(c.fl i).base+n i/\((c.drop n).fl i).kept.map (·.1)=((c.fl i).kept.drop (n i)).map (·.1):=λi hi=>by simp[Ag.drop,Za,hi,Js.drop]
 have hd:=h.dk.gone (a':=c.drop n) (free':=frD k W n 3) (pl':=plD W n 3) P n hn z (λi hi=>by unfold plD;rw[if_pos hi]) (λx J=>vY 3 J) (by have:=h.ct;omega) G;rw[(z 0 (by omega)).1,(z 1 (by omega)).1,(z 2 (by omega)).1,<-F 0 (by omega),<-F 1 (by omega),<-F 2 (by omega)]at hd;have h1:=h.dead;have h2:=h.arm;have h3:=h.ct;unfold Stv.Qp Dk.put;rw[if_neg (by rw[h1];simp),if_neg (by rw[h2];omega),I];exact⟨rfl,rfl,by show H.dk.Xr - 1=a - 1;rw[h2],h.op,by show H.count+1<=ct+1;omega,hd⟩
def Zx (o:Nat×Nat) (st:Stv) (a:Ag) (free:List Nat) (z:Nat->List Nat):Prop:=Yn o.1 (1+OH a) o.2 st a free z
theorem Zx.same {op:Nat×Nat} (h:Zx op H c k W) (hb:∀i,i < 3->(bA.fl i).base=(c.fl i).base/\(bA.fl i).kept.map (·.1)=(c.fl i).kept.map (·.1)):Zx op H bA k W:=by
 unfold Zx;rw[yP hb];exact Yn.same (op:=op.1) (n:=op.2) h hb
theorem Zx.flags (h:Zx aA H c k W) (tk:Nat) (z F:Bool):Zx aA H {c with Qf:=tk,Qd:=z,fenced:=F} k W:=h.same (λ_ _=>⟨rfl,rfl⟩)
def QF (o:Nat×Nat) (k:Nat):Nat×Nat:=if k=0 then o else(o.1,o.2 - 1)
theorem FT (o:Nat×Nat):QF o 0=o:=rfl
theorem pV (o:Nat×Nat) {k:Nat} (h:0 < k):QF o k=(o.1,o.2 - 1):=by unfold QF;rw[if_neg (by omega)]
theorem Gx (o:Nat×Nat) (k:Nat):(QF o k).1=o.1:=by unfold QF;split <;> rfl
theorem De {st:Stv} (h:Zx aA st c k W) (P:Xl c k W) (n X:Nat->Nat) (hn:∀i,i < 3->n i<=(c.fl i).kept.length) (F:∀i,i < 3->X i=(c.fl i).base+n i) (z:∀i,i < 3->(c.fl i).base+(c.fl i).kept.length<=2147483647) (H:0 < n 0+n 1+n 2) (G:aA.2≠1):
  (st.Qp (X 0) (X 1) (X 2)).1=0/\Zx (aA.1,aA.2 - 1) (st.Qp (X 0) (X 1) (X 2)).2 (c.drop n) (frD k W n 3) (plD W n 3):=by
 have I:=vZ z;obtain⟨h1,h2⟩:=yQ (ct:=1+OH c) h (by omega) G P n X hn F z;refine⟨h1,⟨h2.dead,h2.arm,h2.op,z26 h2.ct ?_,h2.dk⟩⟩;have hl:∀i,i < 3->((c.drop n).fl i).base=(c.fl i).base+n i/\((c.drop n).fl i).kept.length=(c.fl i).kept.length - n i:=λi hi=>by simp[Ag.drop,Za,hi,Js.drop]
 have n0:=hn 0 (by omega);have n1:=hn 1 (by omega);have n2:=hn 2 (by omega);show 1+OH c+1<=1+OH (c.drop n);unfold OH;rw[(hl 0 (by omega)).1,(hl 0 (by omega)).2,(hl 1 (by omega)).1,(hl 1 (by omega)).2,(hl 2 (by omega)).1,(hl 2 (by omega)).2];omega
def Zy (op:Nat×Nat) (w x:World) (p:Nat) (a:Ag) (c:Av):Prop:=
 ∃g free sh z st,Qy w x p g a.Qf a.Qd a.fenced free sh st c/\Zx op st a free z/\Jv a st.Qe g free sh z
theorem Zy.behind {op:Nat×Nat} {w x y:World} {p:Nat} {a:Ag} {c:Av} (h:Zy op x y p a c) (hb:El w x):Zy op w y p a c:=by
 obtain⟨g,free,sh,z,st,F,hs,G⟩:=h;exact⟨g,free,sh,z,st,F.behind hb,hs,G⟩
theorem Zy.below {op:Nat×Nat} {w x y:World} {p:Nat} {a:Ag} {c:Av} (h:Zy op w x p a c) (hb:El x y):Zy op w y p a c:=by
 obtain⟨g,free,sh,z,st,F,hs,G⟩:=h;exact⟨g,free,sh,z,st,F.below hb,hs,G⟩
theorem EV (z:Ja p w O c.Qf c.Qd c.fenced k L H aL) (hs:Zx aA H c k W) (F:Jv c H.Qe O k L W):Zy aA p p w c aL:=⟨O,k,L,W,H,oY z,hs,F⟩
section
variable {w:World} {p:Nat} {g:Nat->Nat} {free:List Nat} {sh:Nat->List (Nat×Value)} {st:Stv} {c:Av} {a:Ag} {pl:Nat->List Nat} {op:Nat×Nat}
theorem pW (aa:Ja w p g a.Qf a.Qd a.fenced free sh st c) (hs:Zx op st a free pl) (bc:op.2≠1) (cw:∀i,i < 3->(a.fl i).base+(a.fl i).kept.length<=2147483647) (O:Jv a st.Qe g free sh pl) (n X:Nat->Nat) (hn:∀i,i < 3->n i<=(a.fl i).kept.length) (bq:∀i,i < 3->X i=(a.fl i).base+n i) (br:∀i,i < 3->X i < 4294967296)
  (bI:¬ (X 0=g 0/\X 1=g 1/\X 2=g 2)):
  Cp 117 #[C' p,.agg #[Ej (X 0),Ej (X 1),Ej (X 2)]] w λr z=>Rr r (Ej 0)/\Zy (op.1,op.2 - 1) w z p (a.drop n) c:=by
 have g0:w.cell? (Ea p 1)=some (Ej (g 0)):=by rw[D' aa.ks.blk];exact aa.ks.ag 0 (by omega)
 have g1:w.cell? (Ea p 2)=some (Ej (g 1)):=by rw[D' aa.ks.blk];exact aa.ks.ag 1 (by omega)
 have g2:w.cell? (Ea p 3)=some (Ej (g 2)):=by rw[D' aa.ks.blk];exact aa.ks.ag 2 (by omega)
 have bJ:=z12 aa.ks.blk;obtain⟨h0,bK⟩:=De hs O.places n X hn bq cw (ZL O bq bI) bc;have bt:=OG (st:=st) (X 0) (X 1) (X 2) aa.stt.hd (by rw[aa.len];omega);rw[aa.len]at bt;have bL:=KI (st:=st) (X 0) (X 1) (X 2);have bM:=λy (ak:Zp y c.s c.dp st c.dlv c.duv)=>EY y c.s c.dp st c.dlv c.duv ak (X 0) (X 1) (X 2) (br 0 (by omega)) (br 1 (by omega)) (br 2 (by omega));obtain⟨aD,bN⟩:=exq ((st.Qp (X 0) (X 1) (X 2)).2);rw[h0,<-bN]at bM;rw[<-bN]at bK bt bL;have cx:∀z:World,(Op.equalIn 10000 100 (.agg #[Ej (X 0),Ej (X 1),Ej (X 2)]) (.agg #[Ej (g 0),Ej (g 1),Ej (g 2)])).run prog z=.ok false z:=λz=>by rw[RW];congr 1;by_cases bd:(X 0:Int)=(g 0:Int);by_cases aE:(X 1:Int)=(g 1:Int);have aV:¬ (X 2:Int)=(g 2:Int):=λaV=>bI ⟨by omega,by omega,by omega⟩;simp[aV];simp[aE];simp[bd]
 have cy:=λ(z:World) (be:Av) (h:Ja z p g a.Qf a.Qd a.fenced free sh aD be)=>pE h X;have cz:∀j:Nat,j < 3->∀cA:Array Value,cA= #[Ej (X 0),Ej (X 1),Ej (X 2)]->cA[j]? =some (Ej (X j)):=by
  rintro j hj _ rfl;obtain rfl|rfl|rfl:j=0\/j=1\/j=2:=by omega
  all_goals rfl
 have cB:=λy ak=>y' (bM y ak);have cC:=λz be h=>y' (cy z be h);have bO:=y' cz;have bu:=y' aa;have cD:=y' O;have aW:=y' (z13 bK (z13 bt (z13 bL (z13 hn bq))));obtain⟨aF,bP⟩:=exq (X 0);obtain⟨aG,bQ⟩:=exq (X 1);obtain⟨aH,bR⟩:=exq (X 2);rw[<-bP,<-bQ,<-bR]at cB cx cC bO ⊢;have ee:=y' (z13 bP (z13 bQ bR));generalize g 0=ef,g 1=eg,g 2=eh at *;clear bc aa O bK bt bL bM cy cz h0 bN bI bP bQ bR hn bq br hs cw;unfold C' at *;go_enter func117,ntmps117;go_upto_region 1 with fail;refine G' (λx=>Eh x w.heap.size #[Ej aF,Ej aG,Ej aH] 100/\El w x) ⟨z19 _ _,bna⟩ ?_;rintro x ⟨hb,aI⟩;obtain⟨aO,aP,b2⟩:=DQ hb;simp at aO aP b2;have d0:=Bc aI bJ g0;have d1:=Bc aI bJ g1;have d2:=Bc aI bJ g2;have aJ:=y' aI;have bf:=y' hb;clear hb aI g0 g1 g2;go_quiet (fail);go_upto_region 3 with fail;refine G' (λx=>Eh x w.heap.size #[Ej aF,Ej aG,Ej aH] 100/\El w x) ⟨d' bf,(d' aJ).trans (z36 (z11 _ _) _ |>.mono (d' aJ).size)⟩ ?_;clear aO aP b2 d0 d1 d2 aJ bf cx;rintro x ⟨hb,aI⟩;obtain⟨aO,aP,b2⟩:=DQ hb;simp at aO aP b2;have ei:=z12 hb;have aJ:=y' aI;have bf:=y' hb;have cE:∀k,w.heap.size<=k->¬StU c.s c.dp c.dlv c.duv k:=λk bc h=>by have:=(d' bu).lt k (.inr (.inl h));omega
 clear hb aI;refine AH
  [Ep p 0,Ep p 0,Ep p 0,Ep c.s 0,Ev (.agg #[Ej aF,Ej aG,Ej aH]),
   λv y=>v=Ej 0/\∃bg,Zp y c.s c.dp aD c.dlv bg/\Loc w c.duv bg,Ei 0]
  [[0],[1015],[2016],[3017],[3],[4018,5019],[6020]] [16,17,18,19,20,21,6] [5,1,9,6,48]
  [(5,StU c.s c.dp c.dlv c.duv)] ?_ ?_ (hst:=by repeat' (first|exact Y' _|exact(λ_ _ _ h hb=>⟨h.1,h.2.imp λ_ h=>⟨h.1.far (fbF hb) Ih,h.2⟩⟩)|exact trivial|apply z13))
 .refine⟨?_,?_,?_,?_,?_,?_,?_,trivial⟩;all_goals
   intro a' z hb Z;have aK:=hb.blk (d' bf) (AS (by exact cE _ (z16 _)));obtain⟨bd,aE,aV⟩:=DQ aK;simp at bd aE aV;clear aK;simp[J']at Z
  iterate 3
   .clear hb;go_simp;exact⟨_,rfl,Far.refl _ _,rfl⟩
  .have z0:z.cell? (Ea p 0)=some (Er c.s 0):=(by have bS:=(d' bu).below (d' aJ);have:=hb.blk bS.ks.blk (AS (by exactλh=>bS.sep p (.inl rfl) h));rw[D' this,bS.ks.a0];rfl);clear hb;go_simp;exact⟨_,rfl,Far.refl _ _,rfl⟩
  .clear hb;go_simp;exact⟨_,rfl,Far.refl _ _,rfl⟩
  .have ai:El x z:=IQ hb;have bT:=y' (d' (cB z (((d' bu).below (d' aJ)).below ai).stt));have bw:=ai.size;have ej:=(d' aJ).size;clear hb ai;go_simp;refine Cm bT ?_;rintro r dt ⟨rfl,bg,k1,k2,k3⟩;exact⟨_,rfl,AQ (.head _) k3,rfl,bg,k1,EG k2 (by omega)⟩
  clear hb;obtain⟨Z,_⟩:=Z;go_simp;exact⟨_,rfl,Far.refl _ _,rfl⟩
 intro f z hF J;obtain⟨_,bg,k1,k2⟩:=J.2.2.2.2.2.1;have du:=J.2.2.2.2.2.2.1;have hF:Far (StU c.s c.dp c.dlv c.duv) x z:=IH hF;have bh:=JP (d' bu) k1 k2 ((I' (E:=StU c.s c.dp c.dlv c.duv) (d' aJ)).trans hF Ih) (d' aW).2.1;have ai:=hF.blk (d' bf) (cE _ (z16 _));have cF:=bh.trans (λbe h=>d' (cC z be h));obtain⟨ek,ao,_⟩:=id bh;have f1:z.frozen? ⟨p,1,none⟩=false:=H' (i:=1) ao.ks.blk;have f2:z.frozen? ⟨p,2,none⟩=false:=H' (i:=2) ao.ks.blk;have f3:z.frozen? ⟨p,3,none⟩=false:=H' (i:=3) ao.ks.blk;have d1:z.cell? (Ea p 1)=some (Ej (g 0)):=by rw[D' ao.ks.blk];exact ao.ks.ag 0 (by omega)
 have d2:z.cell? (Ea p 2)=some (Ej (g 1)):=by rw[D' ao.ks.blk];exact ao.ks.ag 1 (by omega)
 have d3:z.cell? (Ea p 3)=some (Ej (g 2)):=by rw[D' ao.ks.blk];exact ao.ks.ag 2 (by omega)
 obtain⟨aO,aP,b2⟩:=DQ ai;simp at aO aP b2;have bU:¬w.heap.size=p:=by omega
 have cG:=y' cF;have az:=y' ai;clear J hF k1 k2 bh ai cF ao;simp only[V',du];generalize f 15=em,f 16=en,f 17=eo,f 18=eq,f 19=er,f 20=es;go_upto_region 7 with fail;have cH:(((z.setCell ⟨p,1,none⟩ (Ej aF)).setCell ⟨p,2,none⟩ (Ej aG)).setCell ⟨p,3,none⟩ (Ej aH)).heap[w.heap.size]? =some (.cells #[Ej aF,Ej aG,Ej aH] 100 (0,0)):=by rw[AG bU,AG bU,AG bU];exact d' az
 refine G' (λy=>Eh y w.heap.size #[Ej aF,Ej aG,Ej aH] 100/\Qy w y p X a.Qf a.Qd a.fenced free sh aD c) ⟨cH,d' cG⟩ ?_;clear cH az cG aO aP b2 f1 f2 f3 d1 d2 d3;rintro y cI;have bV:=y' cI;clear cI;go_wp2;go_loopw[6,28] (λ_ i wr=>∃j:Nat,j<=3/\i=.int .i64 j/\wr.heap[w.heap.size]? =some (.cells #[.int .i64 aF,.int .i64 aG,.int .i64 aH] 100 (0,0))/\∃aL G pl',Qy w wr p X a.Qf a.Qd a.fenced aL G aD c/\Jv (agD a n j) aD.Qe (λt=>((agD a n j).fl t).base) aL G pl'/\aL=frD free pl n j/\pl'=plD pl n j) (λ_ i _=>3 - (intOf i).toNat)
 case atStart=>refine⟨0,by omega,rfl,(d' bV).1,free,sh,pl,(d' bV).2,?_,rfl,(Db pl n).symm⟩;rw[Cn,(d' aW).2.2.1];exact {(d' cD)with bs:=λ_ _=>rfl}
 case round=>
  obtain⟨j,hj,rfl,aK,aL,G,pl',cJ,aX,cK,cL⟩:=hrel;have bi:=y' (z13 cK cL);clear bV cK cL;by_cases aA:j < 3
  .obtain⟨c1,aM,bj,bk,t1,t2⟩:=cJ;have aq:=(d' aW).2.2.2.1 j aA;have aQ:=(d' aW).2.2.2.2 j aA;have au:=aX.kp j aA;have aB:=aX.pn j aA;rw[YV]at au aB;have cM:kM (G (j * 3)):=(by rw[au];exact OR _ _ _);have hcut:DE (G (j * 3)) (X j)=n j:=(by rw[au,aQ];exact OS _ _ _ _ aq aB);have bW:=λy (ak:El wr y)=>fO ((aM.below ak).shAt (i:=j * 3) (by omega)) cM (X j);simp only[hcut]at bW;have aN:∀y (ak:El wr y),Hid (Cp 166 #[Er p (4+j * 6),Ej (X j)] y λe w'=>∃av cap,e=.returned (.slice av (n j) cap)/\Ql w' 140 2 (.slice av (n j) cap) (n j) (LY ((G (j * 3)).take (n j)))/\Vn y w' p (4+j * 3 * 2) 116 c1.arr (c1.nv (j * 3)) (c1.mv (j * 3)) ((G (j * 3)).drop (n j))):=(by intro y ak;have h:=bW y ak;rw[show 4+j * 3 * 2=4+j * 6 by omega]at h ⊢;refine y' (h.mono ?_);rintro e w' ⟨v,rfl,bX,hs⟩;have cN:=Ql.Jc (AP bX (z54 _));obtain⟨av,cap,rfl,_⟩:=cN.shape;exact⟨av,cap,rfl,cN,hs⟩);have cO:wr.cell? (Ea w.heap.size j)=some (Ej (X j)):=(by rw[D' aK];exact(d' bO) j aA _ rfl);have et:=z12 aK;have cP:=GG aM aK (by decide) (by decide) (by decide) (by decide) (by decide) (by decide) (by decide);have cQ:¬ (w.heap.size=p\/ShU (c1.nv (j * 3)) (c1.mv (j * 3)) w.heap.size):=λh=>cP (h.elim (λh=>.inl (.inl h)) (λh=>.inl (.inr (.inr ⟨_,by omega,h⟩))));have eu:(0:Int)<=(j:Int):=(by omega);have ev:(j:Int) < 3:=(by omega);have dv:=y' (z13 aM (z13 bj (z13 bk (z13 t1 t2))));have bY:=y' aX;have bZ:=y' aK;have bz:=y' (z13 aq (z13 aQ (z13 au aB)));obtain⟨F,ca⟩:=exq (n j);obtain⟨aR,cb⟩:=exq (X j);rw[<-ca]at aN;rw[<-cb]at aN cO;have bl:=y' (z13 ca cb);clear bW cM hcut aM bj bk t1 t2 aX aK aq aQ au aB cP ca cb;go_upto_region 10 with fail;refine AH
    [Ep p 0,Ei j,Ep p 0,Ep p 4,Ep p (4+j * 6),Ep p (4+j * 6),Ei j,Ep w.heap.size j,Ei aR,
     λv z=>∃av cap,v=.slice av F cap/\Ql z 140 2 (.slice av F cap) F (LY ((G (j * 3)).take F))/\Vn wr z p (4+j * 3 * 2) 116 c1.arr (c1.nv (j * 3)) (c1.mv (j * 3)) ((G (j * 3)).drop F),Ei F,Ei 0]
    [[0],[6],[1031],[3033],[4034,2032],[5035],[6],[3,7037],[8038],[6036,9039],[10040],[]] [32,33,34,35,36,37,38,39,40,41,42,43] [31,12,26]
    [(9,λk=>k=p\/ShU (c1.nv (j * 3)) (c1.mv (j * 3)) k)] ?_ ?_ (hst:=by repeat' (first|exact Y' _|exact(λ_ _ _ h hb=>h.imp λ_ h=>h.imp λ_ h=>⟨h.1,h.2.1.keep (λg I=>hb.block g (h.2.1.lt g I)),aH' h.2.2 hb⟩)|exact trivial|apply z13)) (hstF:=by repeat' (first|exact trivial|exact .inl rfl|exact .inr (.inr (ab' _ _))|exact .inr (.inl (by decide+kernel))|apply z13))
   .refine⟨?_,?_,?_,?_,?_,?_,?_,?_,?_,?_,?_,?_,trivial⟩;all_goals
     intro a' z hb Z;have bd:z.cell? (Ea w.heap.size j)=some (Ej aR):=by have:=hb.blk (d' bZ) (AS (by exact cQ));rw[D' this,<-D' (d' bZ)];exact cO
     simp[J']at Z
    iterate 9
     .clear hb aN;go_simp;exact⟨_,rfl,Far.refl _ _,rfl⟩
    .have ai:El wr z:=IQ hb;have bT:=y' (d' (aN z ai));have az:=y' ai;clear hb ai aN;go_simp;refine Cm bT ?_;rintro r dt ⟨av,cap,rfl,k1,k2⟩;exact⟨_,rfl,AQ (.head _) k2.far,av,cap,rfl,k1,⟨k2.out,(I' (d' az)).trans k2.far Ih⟩⟩
    .obtain⟨av,cap,ew,_⟩:=Z;clear hb aN;go_simp;exact⟨_,rfl,Far.refl _ _,rfl⟩
    clear hb aN;go_simp;exact⟨_,rfl,Far.refl _ _,rfl⟩
   intro f2 ey aj J;obtain⟨dw,dx,cR,cc,cd⟩:=J.2.2.2.2.2.2.2.2.2.1;have cS:=J.2.2.2.2.2.2.2.2.2.2.1;have cT:=J.2.2.2.2.2.2.2.2.2.2.2.1;clear J aj aN;simp only[V',cR,cS,cT];generalize f2 31=ez,f2 32=eA,f2 33=eB,f2 34=eC,f2 35=eD,f2 36=eE,f2 37=eF,f2 38=eG,f2 39=eH;obtain⟨aM,bj,bk,t1,t2⟩:=d' dv;have cU:=cd.far.blk (d' bZ) cQ;have ce:=KY bj bk t1 t2 (FR aM (i:=j * 3) (by omega) (cd.step (aM.ks.am (j * 3) (by omega))));obtain⟨bm,aY⟩:=exq (λt=>if t=j * 3 then(G (j * 3)).drop F else G t);rw[<-aY]at ce;obtain⟨cf,bA⟩:=exq (LY ((G (j * 3)).take F));rw[<-bA]at cc;have cV:∀t,t < F->∃cg:z10,cf[t * 2]? =some (.string cg)/\cf[t * 2+1]? =some (Ej ((pl' j).getD t 0:Nat)):=by
    intro t ch;obtain⟨aq,aQ,au,aB⟩:=d' bz;rw[<-(d' bl).1]at aq;rw[bA,au,YX];have:=YW (a.fl j).base ((a.fl j).kept.take F) ((pl' j).take F) t (by simp[aB]) (by simp;omega);have I:((pl' j).take F).getD t 0=(pl' j).getD t 0:=by rw[z15,z15,z73,if_pos ch]
    rw[I]at this;exact⟨_,this.1,this.2⟩
   have cW:∀t,t < F->(pl' j).take (t+1)=(pl' j).take t++[(pl' j).getD t 0]:=by
    intro t ch;obtain⟨aq,aQ,au,aB⟩:=d' bz;rw[<-(d' bl).1]at aq;have bn:t < (pl' j).length:=by omega
    rw[sX,z17 bn,z15,z17 bn];rfl
   have eI:F<=24:=(by have h1:=(d' cD).small aA;have h2:=(d' bz).1;rw[<-(d' bl).1]at h2;omega);have cX:=y' (z13 cU (z13 cc ce));have cY:=y' (z13 cV cW);have ci:=y' (z13 aY bA);clear aM bj bk t1 t2 cU ce aY bA cV cW cc cd cS cT cR;go_wp2;go_loopw[8,42] (λ_ i wr2=>∃t:Nat,t<=F/\i=.int .i64 t/\wr2.heap[w.heap.size]? =some (.cells #[.int .i64 aF,.int .i64 aG,.int .i64 aH] 100 (0,0))/\Ql wr2 140 2 (.slice dw F dx) F cf/\Qy w wr2 p X a.Qf a.Qd a.fenced (aL++(pl' j).take t) bm aD c) (λ_ i _=>F - (intOf i).toNat)
   case atStart=>obtain⟨cj,bB,dy⟩:=d' cX;exact⟨0,by omega,rfl,cj,bB,by simpa using dy⟩
   case round=>
    obtain⟨t,ch,rfl,ax,ab,cZ⟩:=hrel;clear cX;by_cases bn:t < F
    .obtain⟨eJ,eK,ck,_,_,da⟩:=ab.shape;injection ck with ck _ dz;subst ck dz;obtain⟨eL,db,rfl,cl⟩:=da (by omega);obtain⟨cg,dc,dd⟩:=(d' cY).1 t bn;have r0:=(cl (t * 2) (by omega)).trans dc;have cm:=(cl (t * 2+1) (by omega)).trans dd;rw[show db+(t * 2+1)=db+t * 2+1 by omega]at cm;obtain⟨M,cn⟩:=exq ((pl' j).getD t 0);rw[<-cn]at cm;have dA:=y' cn;obtain⟨c2,H,ac,ad,s1,ah⟩:=cZ;have eM:(0:Int)<=(t:Int):=(by omega);have de:(t:Int) < (F:Int):=(by omega);have cp:=y' (z13 H (z13 ac (z13 ad (z13 s1 ah))));have dB:=y' (z13 ax ab);clear H ac ad s1 ah da cl dc dd cn ax ab;go_upto_region 13 with fail;obtain⟨bC,cq⟩:=exq (wr.heap.size);have df:=y' cq;rw[<-cq];clear cq;refine G' (λy=>Eh y bC #[.string cg,Ej M] 140/\El wr y) ?_ ?_;rw[d' df];exact⟨z19 _ _,bna⟩;clear r0 cm;rintro aS ⟨bD,aT⟩;obtain⟨H,ac,ad,s1,ah⟩:=d' cp;have Q:=H.below aT;obtain⟨V,bE⟩:=exq (aL++(pl' j).take t);rw[<-bE]at Q;obtain⟨aC,bF⟩:=exq (V.length);obtain⟨aZ,ba,bb,_⟩:=Q.ks.fr.shape;have ab:=Q.ks.fr;rw[<-bF]at bb ab;have eN:aC<=24+24:=(by have h1:=(d' bY).sum;rw[bF,bE,z29,z71];omega);have d22:aS.cell? (Ea p 22)=some c2.fv:=(by rw[D' Q.ks.blk,Q.ks.af]);have dC:aS.cell? (Ea p 22)=some (.slice aZ aC ba):=(by rw[d22,bb]);have bG:=Q.ks.fr.ne Q.ks.blk (by decide);have dD:=Q.ks.fr.ne bD (by decide);have eO:=z12 Q.ks.blk;have eP:=z12 bD;have dE:¬bC=p:=(by have:=z12 H.ks.blk;have:=d' df;omega);have dF:=λg I=>Q.ks.fr.lt g I;have bo:=y' Q;have dG:=y' aT;have dH:=y' bD;have dI:=y' ab;have dg:=y' (z13 bE bF);have dJ:=y' (z13 H (z13 ac (z13 ad (z13 s1 ah))));clear H ac ad s1 ah Q aT bD ab bE bF d22 dC;refine AH
      [Ep p 0,Ep p 0,Ep p 0,Ep p 22,Ev (.slice aZ aC ba),Ep bC 1,Ei M,Li aS.heap.size M,Lj aS c2.fv (V++[M]),Ep p 0,Ep p 22,
       λ_ z=>Qy aS z p X a.Qf a.Qd a.fenced (V++[M]) bm aD c2]
      [[0],[0],[2047],[3048],[4049],[8],[6051],[7052],[5050,8053],[1046],[10055],[11056,9054]] [47,48,49,50,51,52,53,54,55,56,57,0] [46,11,12]
      [(8,λk=>c2.fv.ownBlock=some k),(11,λk=>k=p)] ?_ ?_ (hst:=by repeat' (first|exact Y' _|exact aN' _ _|exact aO' _ _ _|exact(λ_ _ _ h hb=>h.below hb)|exact trivial|apply z13)) (hstF:=by repeat' (first|exact trivial|exact .inl rfl|exact .inr (.inr (ab' _ _))|exact .inr (.inr (ap' (λg I=>dF g I)))|exact .inr (.inr (ap' (λg (I:g=p)=>by omega)))|exact .inr (.inr (aG' (λg (I:g=p)=>⟨by omega,by rw[I];exact bG⟩)))|exact .inr (.inl (show DM _ 11 8=true by decide+kernel))|apply z13))
     .refine⟨?_,?_,?_,?_,?_,?_,?_,?_,?_,?_,?_,?_,trivial⟩;all_goals
       intro a' z hb Z;have bw:=hb.size;have az:=y' hb;clear hb;simp[J']at Z
      iterate 4
       .go_simp;exact⟨_,rfl,Far.refl _ _,rfl⟩
      .have d0:=(d' az).blk (d' bo).ks.blk (by rintro⟨q,Y,g1,g2,ay⟩;simp at Y;rcases Y with rfl|rfl;exact bG ay;exact absurd (show DM _ 11 4=false from g2) (by decide+kernel));have d1:z.cell? (Ea p 22)=some (.slice aZ aC ba):=(by rw[D' d0,(d' bo).ks.af,bb]);clear d0;go_simp;exact⟨_,rfl,Far.refl _ _,rfl⟩
      .go_simp;exact⟨_,rfl,Far.refl _ _,rfl⟩
      .have d0:=(d' az).blk (d' dH) (by rintro⟨q,Y,g1,g2,ay⟩;simp at Y;rcases Y with rfl|rfl;exact dD ay;exact dE ay);have d1:z.cell? (Ea bC 1)=some (Ej M):=Bi 1 d0;clear d0;go_simp;exact⟨_,rfl,Far.refl _ _,rfl⟩
      .go_simp;exact⟨_,rfl,I' bna,_,rfl,bw,z19 z _⟩
      have dK:=(d' dI).far (d' az) (by rintro g I ⟨q,Y,g1,g2,ay⟩;simp at Y;rcases Y with rfl|rfl;exact g1 rfl;have ay:g=p:=ay;exact bG (by rw[I,ay]));obtain⟨g,I,eQ,dL⟩:=Z.2;have dM:Ql z 3 1 (.slice aZ aC ba) aC (O' V):=(by rw[<-bb];exact dK);refine ES rfl (.tmp 50) (.tmp 53) 101 rfl 3 _ 1 8 underlying101 Ca rfl (.slice aZ aC ba) aC (O' V) dM (by simp[Act.eval,Z]) ⟨g,0,none⟩ 1 1 [Ej M] (by simp[Act.eval,I]) rfl ?_ (by intro u hu;simp at hu;subst hu;rfl) (by omega) (by omega) (by omega) ?_;intro k u bc;rw[JB,D' dL,z45];simpa using bc;intro v' w' g1 g2;obtain⟨_,bB⟩:=d' dg;have dN:Ql w' 3 1 v' (V++[M]).length (O' (V++[M])):=(by rw[z29,z90,<-bB,show O' (V++[M])=O' V++[Ej M] by simp[O']];exact g1);have cr:=g2.grown;rw[<-bb]at cr g2;exact⟨v',rfl,AQ (.head _) (BU cr),dN,IK bw g2,z26 bw cr.size⟩
      .go_simp;exact⟨_,rfl,Far.refl _ _,rfl⟩
      .go_simp;exact⟨_,rfl,Far.refl _ _,rfl⟩
      have aj:Far (λk=>c2.fv.ownBlock=some k) aS z:=(d' az).mono (by rintro k _ ⟨q,Y,g1,g2,ay⟩;simp at Y;rcases Y with rfl|rfl;exact ay;exact absurd rfl g1);have d0:=aj.blk (d' bo).ks.blk bG;have f1:z.frozen? ⟨p,22,none⟩=false:=H' (i:=22) d0;have d1:z.cell? (Ea p 22)=some (.slice aZ aC ba):=(by rw[D' d0,(d' bo).ks.af,bb]);obtain⟨eR,cs⟩:=Z;obtain⟨dO,dP,dQ,_⟩:=cs.1.shape;have dh:=y' cs;have cu:=y' aj;clear cs d0 aj;rw[dQ]at dh;go_simp;refine⟨AQ (.tail _ (.head _)) (T' z p 22 _),?_⟩;obtain⟨dR,di,_⟩:=d' dh;have dj:(V++[M]).length=V.length+1:=(by simp);rw[dj]at di;have dS:Ql z 3 1 (.slice dO (V.length+1) dP) (V++[M]).length (O' (V++[M])):=(by rw[<-dj];exact dR);exact VN (d' bo) _ (d' cu) dS di
     intro f3 z3 dl J;have dm:=J.2.2.2.2.2.2.2.2.2.2.2.1;have aj:Far (λk=>c2.fv.ownBlock=some k\/k=p) aS z3:=dl.mono (λk _ h=>by obtain⟨q,Y,h⟩:=h;simp at Y;rcases Y with rfl|rfl;exact .inl h;exact .inr h);have dT:=y' dm;have cu:=y' aj;clear dm J dl aj;simp only[V'];generalize f3 46=eS,f3 47=eT,f3 48=eU,f3 49=eV,f3 50=eW,f3 51=eX,f3 52=eY,f3 53=eZ,f3 54=fa,f3 55=fb,f3 56=fc;go_wp2;obtain⟨ax,ab⟩:=d' dB;obtain⟨H,ac,ad,s1,ah⟩:=d' dJ;have aT:=d' dG;have aj:=d' cu;obtain⟨cj,bB⟩:=d' dg;have dU:¬ (c2.fv.ownBlock=some w.heap.size\/w.heap.size=p):=by rintro(h|h);exact(H.ks.fr.ne ax (by decide)) h;exact absurd h (by omega)
     refine⟨⟨t+1,by omega,by go_num,?_,?_,?_⟩,by simp[intOf];omega⟩;exact aj.blk ((aT.block _ (z12 ax)).trans ax) dU;refine(ab.far (fbF aT) Ih).far aj (λg I h=>?_);rcases h with h|h;exact(ab.ty H.ks.fr (by decide) I) h;exact(ab.ne H.ks.blk (by decide)) (by rw[I,h]);rw[(d' cY).2 t bn,<-z39,<-cj,<-d' dA];exact KY ac ad s1 ah ((d' dT).behind aT)
    have de:F=t:=(by omega);subst de;obtain⟨c2,H,ac,ad,s1,ah⟩:=cZ;have aY:=(d' ci).1;have dn:YT (bm (j * 3+1)):=(by rw[aY];show YT (if j * 3+1=j * 3 then _ else G (j * 3+1));rw[if_neg (by omega)];exact(d' bY).si j aA);have bH:=λy (ak:El wr y)=>y' (fT ((H.below ak).shAt (i:=j * 3+1) (by omega)) dn aR);rw[show 4+(j * 3+1) * 2=4+j * 6+2 by omega]at bH;have dV:wr.cell? (Ea w.heap.size j)=some (Ej aR):=(by rw[D' ax,(d' bl).2];exact(d' bO) j aA _ rfl);have dq:=z12 ax;have cp:=y' (z13 H (z13 ac (z13 ad (z13 s1 ah))));have dr:=y' ax;clear H ac ad s1 ah ax aY dn ab;go_upto_region 15 with fail;refine Z'
     [Ep p 0,Ei j,Ep p 0,Ep p 4,Ep p (4+j * 6),Ep p (4+j * 6+2),Ei j,Ep w.heap.size j,Ei aR,Et]
     [[0],[6],[1058],[3060],[4061,2059],[5062],[6],[3,7064],[8065],[6063,9066]] [59,60,61,62,63,64,65,66,67,68] [58,10,1]
     9 _ rfl rfl ?_ ?_
    .refine⟨?_,?_,?_,?_,?_,?_,?_,?_,?_,trivial⟩;all_goals
      intro a' z hb Z;have bd:=Bc hb dq dV;clear hb bH;simp[J']at Z;go_simp;try exact⟨_,rfl,z11 _ _,rfl⟩
      try exact z11 _ _
    intro f4 ds aU J;simp only[AJ,List.take]at J;have dW:=J.2.2.2.2.2.1;have dX:=J.2.2.2.2.2.2.2.2.1;clear J;have dY:=y' (d' (bH ds aU));have dZ:=y' aU;clear aU bH;simp only[V',dW,dX];generalize f4 58=u58,f4 59=u59,f4 60=u60,f4 61=u61,f4 62=u62,f4 64=u64,f4 65=u65;go_simp;refine Cm dY ?_;rintro r u ⟨v,rfl,bX,bp⟩;have ea:=y' bp;clear bX bp;go_wp2;obtain⟨H,ac,ad,s1,ah⟩:=d' cp;have aU:=d' dZ;have Q:=H.below aU;have bp:=d' ea;have eb:Vn ds u p (4+(j * 3+1) * 2) 116 c2.arr (c2.nv (j * 3+1)) (c2.mv (j * 3+1)) ((bm (j * 3+1)).drop (DE (bm (j * 3+1)) aR)):=by rw[show 4+(j * 3+1) * 2=4+j * 6+2 by omega];exact bp
    have bh:=KY ac ad s1 ah ((FR Q (i:=j * 3+1) (by omega) (eb.step (H.ks.am (j * 3+1) (by omega)))).behind aU);have ec:=GG H (d' dr) (by decide) (by decide) (by decide) (by decide) (by decide) (by decide) (by decide);obtain⟨aq,aQ,au,aB⟩:=d' bz;obtain⟨aE,aV⟩:=d' bl;have ed:((G (j * 3+1)).map (·.1)).Pairwise (· < ·):=(by have:=(H.ks.shs (j * 3+1) (by omega)).sorted;rw[(d' ci).1]at this;have e:(λt=>if t=j * 3 then(G (j * 3)).drop F else G t) (j * 3+1)=G (j * 3+1):=if_neg (by omega);rw[e]at this;exact this);have cv:=tT (d' bY) aA (n:=n j) (by rw[YV];exact aq) ed;rw[<-Co]at cv;refine⟨⟨j+1,by omega,by go_num,?_,aL++(pl' j).take F,_,(λt=>if t=j then(pl' j).drop F else pl' t),bh,?_,?_,?_⟩,by simp[intOf];omega⟩;refine bp.far.blk ((aU.block _ dq).trans (d' dr)) (λh=>ec ?_);rcases h with h|h;exact .inl (.inl h);exact .inl (.inr (.inr ⟨_,by omega,h⟩));have hcut:DE (G (j * 3)) ((a.fl j).base+n j)=n j:=(by rw[au];exact OS _ _ _ _ aq aB);rw[YV,hcut,<-aE,<-show aR=(a.fl j).base+F by rw[aV,aE];exact aQ]at cv;rw[(d' ci).1];have e:(λt=>if t=j * 3 then(G (j * 3)).drop F else G t) (j * 3+1)=G (j * 3+1):=if_neg (by omega);rw[e];exact {cv with bs:=λ_ _=>rfl};rw[(d' bi).1,(d' bi).2,aE];exact(Dc free pl n j).symm;rw[(d' bi).2,aE];exact(Dd pl n j).symm
  obtain rfl:j=3:=by omega
  go_wp2;go_ret;refine⟨rfl,X,aL,G,pl',aD,cJ,by rw[(d' bi).1,(d' bi).2];exact(d' aW).1,?_⟩;rw[yG]at aX;exact {aX with bs:=λi hi=>(d' aW).2.2.2.2 i hi |>.trans (by simp[Ag.drop,Za,hi,Js.drop])}
theorem uF (z:Ja w p g a.Qf a.Qd a.fenced free sh st c) (hs:Zx op st a free pl) (ab:op.2=1) (O:Jv a st.Qe g free sh pl) (X:Nat->Nat) (J:∀i,i < 3->X i < 4294967296)
  (aF:¬ (X 0=g 0/\X 1=g 1/\X 2=g 2)):
  Cp 117 #[C' p,.agg #[Ej (X 0),Ej (X 1),Ej (X 2)]] w λr F=>Rr r (Ej 4)/\iT op.1 w F p a c:=by
 have g0:w.cell? (Ea p 1)=some (Ej (g 0)):=by rw[D' z.ks.blk];exact z.ks.ag 0 (by omega)
 have g1:w.cell? (Ea p 2)=some (Ej (g 1)):=by rw[D' z.ks.blk];exact z.ks.ag 1 (by omega)
 have g2:w.cell? (Ea p 3)=some (Ej (g 2)):=by rw[D' z.ks.blk];exact z.ks.ag 2 (by omega)
 have ac:=z12 z.ks.blk;obtain⟨h0,ad⟩:=Da (st:=st) (a:=a) (op:=op.1) (ct:=1+OH a) (by have h:=hs;unfold Zx at h;rw[ab]at h;exact h) O.places (X 0) (X 1) (X 2);have M:=OG (st:=st) (X 0) (X 1) (X 2) z.stt.hd (by rw[z.len];omega);rw[z.len]at M;have ah:=KI (st:=st) (X 0) (X 1) (X 2);have ai:=λy (aj:Zp y c.s c.dp st c.dlv c.duv)=>EY y c.s c.dp st c.dlv c.duv aj (X 0) (X 1) (X 2) (J 0 (by omega)) (J 1 (by omega)) (J 2 (by omega));obtain⟨aG,ak⟩:=exq ((st.Qp (X 0) (X 1) (X 2)).2);rw[h0,<-ak]at ai;rw[<-ak]at ad M ah;have aH:∀F:World,(Op.equalIn 10000 100 (.agg #[Ej (X 0),Ej (X 1),Ej (X 2)]) (.agg #[Ej (g 0),Ej (g 1),Ej (g 2)])).run prog F=.ok false F:=λF=>by rw[RW];congr 1;by_cases ao:(X 0:Int)=(g 0:Int);by_cases aq:(X 1:Int)=(g 1:Int);have Q:¬ (X 2:Int)=(g 2:Int):=λQ=>aF ⟨by omega,by omega,by omega⟩;simp[Q];simp[aq];simp[ao]
 have aI:=λy aj=>y' (ai y aj);have V:=y' z;have aQ:=y' O;have aJ:=y' (z13 ad (z13 M ah));obtain⟨au,av⟩:=exq (X 0);obtain⟨ax,ay⟩:=exq (X 1);obtain⟨az,aA⟩:=exq (X 2);rw[<-av,<-ay,<-aA]at aI aH ⊢;have aR:=y' (z13 av (z13 ay aA));generalize g 0=aS,g 1=aT,g 2=aU at *;clear z O ad M ah ai h0 ak aF av ay aA J hs ab;unfold C' at *;go_enter func117,ntmps117;go_upto_region 1 with fail;refine G' (λx=>Eh x w.heap.size #[Ej au,Ej ax,Ej az] 100/\El w x) ⟨z19 _ _,bna⟩ ?_;rintro x ⟨hb,G⟩;obtain⟨Y,Z,b2⟩:=DQ hb;simp at Y Z b2;have d0:=Bc G ac g0;have d1:=Bc G ac g1;have d2:=Bc G ac g2;have H:=y' G;have aa:=y' hb;clear hb G g0 g1 g2;go_quiet (fail);go_upto_region 3 with fail;refine G' (λx=>Eh x w.heap.size #[Ej au,Ej ax,Ej az] 100/\El w x) ⟨d' aa,(d' H).trans (z36 (z11 _ _) _ |>.mono (d' H).size)⟩ ?_;clear Y Z b2 d0 d1 d2 H aa aH;rintro x ⟨hb,G⟩;obtain⟨Y,Z,b2⟩:=DQ hb;simp at Y Z b2;have aV:=z12 hb;have H:=y' G;have aa:=y' hb;have aN:∀k,w.heap.size<=k->¬StU c.s c.dp c.dlv c.duv k:=λk ab h=>by have:=(d' V).lt k (.inr (.inl h));omega
 clear hb G;refine AH
  [Ep p 0,Ep p 0,Ep p 0,Ep c.s 0,Ev (.agg #[Ej au,Ej ax,Ej az]),
   λv y=>v=Ej 4/\∃I,Zp y c.s c.dp aG c.dlv I/\Loc w c.duv I,Ei 4]
  [[0],[1015],[2016],[3017],[3],[4018,5019],[6020]] [16,17,18,19,20,21,6] [5,1,9,6,48]
  [(5,StU c.s c.dp c.dlv c.duv)] ?_ ?_ (hst:=by repeat' (first|exact Y' _|exact(λ_ _ _ h hb=>⟨h.1,h.2.imp λ_ h=>⟨h.1.far (fbF hb) Ih,h.2⟩⟩)|exact trivial|apply z13))
 .refine⟨?_,?_,?_,?_,?_,?_,?_,trivial⟩;all_goals
   intro a' F hb aB;have aK:=hb.blk (d' aa) (AS (by exact aN _ (z16 _)));obtain⟨ao,aq,Q⟩:=DQ aK;simp at ao aq Q;clear aK;simp[J']at aB
  iterate 3
   .clear hb;go_simp;exact⟨_,rfl,Far.refl _ _,rfl⟩
  .have z0:F.cell? (Ea p 0)=some (Er c.s 0):=(by have aC:=(d' V).below (d' H);have:=hb.blk aC.ks.blk (AS (by exactλh=>aC.sep p (.inl rfl) h));rw[D' this,aC.ks.a0];rfl);clear hb;go_simp;exact⟨_,rfl,Far.refl _ _,rfl⟩
  .clear hb;go_simp;exact⟨_,rfl,Far.refl _ _,rfl⟩
  .have aD:El x F:=IQ hb;have aO:=y' (d' (aI F (((d' V).below (d' H)).below aD).stt));have aW:=aD.size;have aX:=(d' H).size;clear hb aD;go_simp;refine Cm aO ?_;rintro r aY ⟨rfl,I,k1,k2,k3⟩;exact⟨_,rfl,AQ (.head _) k3,rfl,I,k1,EG k2 (by omega)⟩
  clear hb;obtain⟨aB,_⟩:=aB;go_simp;exact⟨_,rfl,Far.refl _ _,rfl⟩
 intro f F hF aE;obtain⟨_,I,k1,k2⟩:=aE.2.2.2.2.2.1;have aL:=aE.2.2.2.2.2.2.1;have hF:Far (StU c.s c.dp c.dlv c.duv) x F:=IH hF;have aM:=JP (d' V) k1 k2 ((I' (E:=StU c.s c.dp c.dlv c.duv) (d' H)).trans hF Ih) (d' aJ).2.1;have aP:=y' aM;clear aM aE hF k1 k2;simp only[V',aL];clear aL;generalize f 15=aZ,f 16=ba,f 17=bb,f 18=bc,f 19=bd,f 20=be;go_wp2;go_ret;exact⟨rfl,g,free,sh,aG,d' aP,(d' aJ).1⟩
theorem uG (F:Ja w p g a.Qf a.Qd a.fenced free sh st c) (hs:Zx op st a free pl) (J:∀i,i < 3->(a.fl i).base+(a.fl i).kept.length<=2147483647) (O:Jv a st.Qe g free sh pl) (n X:Nat->Nat) (M:op.2≠1\/n 0+n 1+n 2=0) (hn:∀i,i < 3->n i<=(a.fl i).kept.length) (G:∀i,i < 3->X i=(a.fl i).base+n i) (Q:∀i,i < 3->X i < 4294967296):
  Cp 117 #[C' p,.agg #[Ej (X 0),Ej (X 1),Ej (X 2)]] w λr H=>Rr r (Ej 0)/\Zy (QF op (n 0+n 1+n 2)) w H p (a.drop n) c:=by
 by_cases h:X 0=g 0/\X 1=g 1/\X 2=g 2;have I:∀i,i < 3->X i=g i:=by
  intro i hi;obtain rfl|rfl|rfl:i=0\/i=1\/i=2:=by omega
  exact h.1;exact h.2.1;exact h.2.2
 have z:∀i,i < 3->n i=0:=λi hi=>by have:=I i hi;have:=G i hi;have:=O.bs i hi;omega
 have V:a.drop n=a:=yH z;rw[V,show n 0+n 1+n 2=0 by have:=z 0 (by omega);have:=z 1 (by omega);have:=z 2 (by omega);omega,FT];refine(tU F X I).mono ?_;rintro r H ⟨rfl,hb⟩;exact⟨rfl,(EV F hs O).below hb⟩;have Y:=ZL O G h;rw[pV op Y];exact pW F hs (M.resolve_right (by omega)) J O n X hn G Q h
theorem Gy {a:Ag} {op:Nat} {g:Nat->Nat} {free:List Nat} {sh:Nat->List (Nat×Value)} {pl:Nat->List Nat} (O:Jv a op g free sh pl) {n X:Nat->Nat} (z:∀i,i < 3->X i=(a.fl i).base+n i) (F:0 < n 0+n 1+n 2):¬ (X 0=g 0/\X 1=g 1/\X 2=g 2):=by
 rintro⟨h0,h1,h2⟩;have G:=O.bs 0 (by omega);have H:=O.bs 1 (by omega);have b2:=O.bs 2 (by omega);have I:=z 0 (by omega);have J:=z 1 (by omega);have M:=z 2 (by omega);omega
def erV (o:Nat×Nat) (S:Nat) (v:Int):Int:=if o.2=1/\0 < S then 4 else v
def Rq (op:Nat×Nat) (S:Nat) (w z:World) (p:Nat) (a a':Ag) (c:Av):Prop:=if op.2=1/\0 < S then iT op.1 w z p a c else Zy (QF op S) w z p a' c
theorem WU {o:Nat×Nat} {S:Nat} {v:Int} (h:o.2=1/\0 < S):erV o S v=4:=if_pos h
theorem JH {o:Nat×Nat} {S:Nat} {v:Int} (h:¬ (o.2=1/\0 < S)):erV o S v=v:=if_neg h
theorem Rq.is {op:Nat×Nat} {S:Nat} {w z:World} {p:Nat} {a a':Ag} {c:Av} (h:¬ (op.2=1/\0 < S)):Rq op S w z p a a' c=Zy (QF op S) w z p a' c:=if_neg h
theorem Rq.dead {op:Nat×Nat} {S:Nat} {w z:World} {p:Nat} {a a':Ag} {c:Av} (h:op.2=1/\0 < S):Rq op S w z p a a' c=iT op.1 w z p a c:=if_pos h
theorem Rq.behind {op:Nat×Nat} {S:Nat} {w x z:World} {p:Nat} {a a':Ag} {c:Av} (h:Rq op S x z p a a' c) (hb:El w x):Rq op S w z p a a' c:=by
 by_cases k:op.2=1/\0 < S;rw[Rq.dead k]at h ⊢;obtain⟨g,f,s,t,h1,h2⟩:=h;exact⟨g,f,s,t,h1.behind hb,h2⟩;rw[Rq.is k]at h ⊢;exact h.behind hb
theorem wA (z:Ja w p g a.Qf a.Qd a.fenced free sh st c) (hs:Zx op st a free pl) (H:∀i,i < 3->(a.fl i).base+(a.fl i).kept.length<=2147483647) (O:Jv a st.Qe g free sh pl) (n X:Nat->Nat) (hn:∀i,i < 3->n i<=(a.fl i).kept.length) (F:∀i,i < 3->X i=(a.fl i).base+n i) (G:∀i,i < 3->X i < 4294967296):
  Cp 117 #[C' p,.agg #[Ej (X 0),Ej (X 1),Ej (X 2)]] w λr I=>Rr r (Ej (erV op (n 0+n 1+n 2) 0))/\Rq op (n 0+n 1+n 2) w I p a (a.drop n) c:=by
 by_cases k:op.2=1/\0 < n 0+n 1+n 2;simp only[WU k,Rq.dead k];exact uF z hs k.1 O X G (Gy O F k.2);simp only[JH k,Rq.is k];exact uG z hs H O n X (by omega) hn F G
theorem ZM (J:Ja w p g a.Qf a.Qd a.fenced free sh st c) (hs:Zx op st a free pl) (O:Jv a st.Qe g free sh pl) (e:Nat) (s q:Int) (b:z10):
  Cp 78 #[C' p,.agg #[Ej 5,Ej e,Ej s,Ej q,.string b]] w λr V=>Rr r (Ej 0)/\Zy op w V p (a.Qv 5 e s q b) c:=by
 have ak:=z12 J.ks.blk;have Y:=λV (ah:El w V)=>y' (DW (J.below ah));obtain⟨ep,Z⟩:=exq (a.Qa);have ab:st.Qe=ep:=by rw[Z];exact O.ep
 rw[ab]at Y;have hd:a.Qv 5 e s q b=if ep < e then {a with fenced:=true}else if e=ep then {a with Qd:=false}else a:=by unfold Ag.Qv;rw[<-Z];by_cases h1:ep < e;rw[if_pos ⟨rfl,by omega⟩,if_pos h1];rw[if_neg (by omega),if_neg h1];by_cases h2:e=ep;rw[if_neg (by omega),if_pos rfl,if_pos h2];rw[if_pos (by omega),if_neg h2]
 obtain⟨a2,ac⟩:=exq (a.Qv 5 e s q b);rw[<-ac]at hd ⊢;have ad:=y' (JT w #[Ej 5,Ej e,Ej s,Ej q,.string b]);have z:=y' (z13 J (z13 hs O));have aa:=y' hd;clear J hs O ab Z ac hd;unfold C' at *;go_enter func78,ntmps78;go_upto_region 1 with fail;refine G' (Xz w #[Ej 5,Ej e,Ej s,Ej q,.string b]) (d' ad) ?_;clear ad;intro x X;have M:=Bi 1 X.box;simp at M;have G:=λn=>y' (d' (Y (x.drewN n) (X.drewN n).bel));have Q:=y' X;clear X;have K:=(d' z).1.below (d' Q).bel;have d25:∀n,(x.drewN n).cell? (Ea p 25)=some (.bool a.fenced):=λn=>by show x.cell? _= _;rw[D' K.ks.blk,K.ks.ae]
 have f25:∀n,(x.drewN n).frozen? ⟨p,25,none⟩=false:=λn=>H' (w:=x) (i:=25) K.ks.blk;have H:=y' (z13 d25 f25);have I:∀n,El w (x.drewN n):=λn=>((d' Q).drewN n).bel;have F:=y' I;clear K d25 f25 I;by_cases h1:ep < e
 .have ai:(ep:Int) < (e:Int):=by omega
  go_quiet (first|(go_at_call 52;exact z58 (d' (G _))))
  have d:=(d' H).1 nq;have f:=(d' H).2 nq;go_wp2;go_ret;refine⟨rfl,?_⟩;rw[d' aa,if_pos h1];exact⟨g,free,sh,pl,st,(tV ((d' z).1.below ((d' F) nq)) true).behind ((d' F) nq),(d' z).2.1.flags _ _ _,(d' z).2.2.flags a.Qf a.Qd true⟩
 have ai:¬ (ep:Int) < (e:Int):=by omega
 go_quiet (first|(go_at_call 52;exact z58 (d' (G _))))
 go_upto_region 3 with fail
 refine G' (Xz w #[Ej 5,Ej e,Ej s,Ej q,.string b]) ((d' Q).drewN _) ?_;clear Q M G H F;intro x X;have M:=Bi 1 X.box;simp at M;have G:=λn=>y' (d' (Y (x.drewN n) (X.drewN n).bel));have K:=(d' z).1.below X.bel;have d24:∀n,(x.drewN n).cell? (Ea p 24)=some (.bool a.Qd):=λn=>by show x.cell? _= _;rw[D' K.ks.blk,K.ks.aw]
 have f24:∀n,(x.drewN n).frozen? ⟨p,24,none⟩=false:=λn=>H' (w:=x) (i:=24) K.ks.blk;have I:∀n,El w (x.drewN n):=λn=>(X.drewN n).bel;have F:=y' I;have H:=y' (z13 d24 f24);clear K d24 f24 X I;by_cases h2:e=ep
 .have aj:((e:Int) == (ep:Int))=true:=by simp[h2]
  go_quiet (first|(go_at_call 52;exact z58 (d' (G _))))
  have d:=(d' H).1 nq;have f:=(d' H).2 nq;go_wp2;go_ret;refine⟨rfl,?_⟩;rw[d' aa,if_neg h1,if_pos h2];exact⟨g,free,sh,pl,st,(YZ ((d' z).1.below ((d' F) nq)) false).behind ((d' F) nq),(d' z).2.1.flags _ _ _,(d' z).2.2.flags a.Qf false a.fenced⟩
 have aj:((e:Int) == (ep:Int))=false:=by simp;omega
 go_quiet (first|(go_at_call 52;exact z58 (d' (G _))))
 go_wp2;go_ret;refine⟨rfl,?_⟩;rw[d' aa,if_neg h1,if_neg h2];exact(EV (d' z).1 (d' z).2.1 (d' z).2.2).below ((d' F) nq)
end
theorem uH (f:Nat->Js) (i:Nat):(Mq.fresh f 3 i).base=(f i).base/\(Mq.fresh f 3 i).kept.map (·.1)=(f i).kept.map (·.1):=by
 unfold Mq.fresh;split;exact⟨rfl,by simp⟩;exact⟨rfl,rfl⟩
theorem Qn (f:Nat->Js) (s:Nat) (x:List Nat) (i:Nat):(upd f s {f s with held:=x} i).base=(f i).base/\(upd f s {f s with held:=x} i).kept.map (·.1)=(f i).kept.map (·.1):=by
 unfold upd;split;rename_i h;rw[h];exact⟨rfl,rfl⟩;exact⟨rfl,rfl⟩
section
variable {w:World} {p:Nat} {g:Nat->Nat} {free:List Nat} {sh:Nat->List (Nat×Value)} {st:Stv} {c:Av} {a:Ag} {pl:Nat->List Nat} {op:Nat×Nat}
theorem fY (Q:Ja w p g a.Qf a.Qd a.fenced free sh st c) (hs:Zx op st a free pl) (O:Jv a st.Qe g free sh pl) (e:Nat) (s q:Int) (b:z10) (cl:e=a.Qa) (bu:b.size=12) (aZ:∀i,i < 3->(a.fl i).base+(a.fl i).kept.length<=1000000000):
  Cp 76 #[C' p,.agg #[Ej 2,Ej e,Ej s,Ej q,.string b]] w λr z=>Rr r (Ej (erV op (a.Jb 2 e s q b 0+a.Jb 2 e s q b 1+a.Jb 2 e s q b 2) 0))/\Rq op (a.Jb 2 e s q b 0+a.Jb 2 e s q b 1+a.Jb 2 e s q b 2) w z p a (a.Qv 2 e s q b) c:=by
 have ba:=z12 Q.ks.blk;have bw:=λz (J:El w z)=>y' (DW (Q.below J));obtain⟨n,hn⟩:=exq (a.Jb 2 e s q b);rw[<-hn];obtain⟨S,bb⟩:=exq (n 0+n 1+n 2);rw[<-bb];obtain⟨bz,aF⟩:=exq (erV op S 0);rw[<-aF];have bc:=y' aF;have hd:a.Qv 2 e s q b={a.drop n with Qd:=true,fl:=Mq.fresh (a.drop n).fl 3}:=by unfold Ag.Qv;rw[if_neg (by omega),if_neg (by omega),if_neg (by omega),if_pos rfl,hn]
 have bd:∀i,i < 3->n i<=(a.fl i).kept.length:=λi _=>by rw[hn];exact MK _ _ _ _ _ _ _
 have bA:∀i,n i=min (Qh b.data.toList (4 * i) - (a.fl i).base).toNat (a.fl i).kept.length:=λi=>by rw[hn];unfold Ag.Jb;rw[if_neg (by omega),if_pos rfl];rfl
 obtain⟨X,aG⟩:=exq (λi=>(a.fl i).base+n i:Nat->Nat);have aH:∀i,max ((a.fl i).base:Int) (min (Qh b.data.toList (4 * i)) (((a.fl i).base+(a.fl i).kept.length:Nat):Int))=(X i:Int):=λi=>by rw[Gr,aG];show _=(((a.fl i).base+n i:Nat):Int);rw[bA i]
 have be:=λz (J:El w z)=>wA (Q.below J) hs (λi hi=>by have:=aZ i hi;omega) O n X bd (λi _=>by rw[aG]) (λi hi=>by have:=aZ i hi;have:=bd i hi;rw[aG];show(a.fl i).base+n i < _;omega);have bB:=λz=>OX b z bu;have aI:=λi (hi:i < 3) z (J:El w z)=>MS (Q.below J) O hi (O.bs i hi);have bf:w.cell? (Ea p 1)=some (Ej (a.fl 0).base):=by rw[D' Q.ks.blk,<-O.bs 0 (by omega)];exact Q.ks.ag 0 (by omega)
 have bg:w.cell? (Ea p 2)=some (Ej (a.fl 1).base):=by rw[D' Q.ks.blk,<-O.bs 1 (by omega)];exact Q.ks.ag 1 (by omega)
 have bh:w.cell? (Ea p 3)=some (Ej (a.fl 2).base):=by rw[D' Q.ks.blk,<-O.bs 2 (by omega)];exact Q.ks.ag 2 (by omega)
 have aJ:=λz J=>y' (aI 0 (by omega) z J);have aK:=λz J=>y' (aI 1 (by omega) z J);have aL:=λz J=>y' (aI 2 (by omega) z J);have ab:=aH 0;have ac:=aH 1;have ad:=aH 2;simp only[Nat.mul_zero,Nat.mul_one,show 4 * 2=8 from rfl]at ab ac ad;have cm:=λz=>y' (bB z);generalize Qh b.data.toList 0=n0,Qh b.data.toList 4=n1,Qh b.data.toList 8=n2 at *;rw[<-bb,<-aF]at be;have aM:=λz J=>y' (be z J);obtain⟨bi,bj⟩:=exq (X 0);obtain⟨bk,bl⟩:=exq (X 1);obtain⟨bm,bn⟩:=exq (X 2);rw[<-bj]at ab;rw[<-bl]at ac;rw[<-bn]at ad;rw[<-bj,<-bl,<-bn]at aM;obtain⟨bC,bD⟩:=exq ((a.fl 0).base+(a.fl 0).kept.length);obtain⟨bE,bF⟩:=exq ((a.fl 1).base+(a.fl 1).kept.length);obtain⟨b2,bG⟩:=exq ((a.fl 2).base+(a.fl 2).kept.length);rw[<-bD]at ab aJ;rw[<-bF]at ac aK;rw[<-bG]at ad aL;obtain⟨g0,bH⟩:=exq ((a.fl 0).base);obtain⟨g1,bI⟩:=exq ((a.fl 1).base);obtain⟨g2,bJ⟩:=exq ((a.fl 2).base);rw[<-bH]at ab bf;rw[<-bI]at ac bg;rw[<-bJ]at ad bh;simp only[show((0:Nat):Int)=0 from rfl,show((1:Nat):Int)=1 from rfl,show((2:Nat):Int)=2 from rfl]at aJ aK aL;obtain⟨ep,bK⟩:=exq (a.Qa);have bL:st.Qe=ep:=by rw[bK];exact O.ep
 rw[bL]at bw;have cy:((e:Int) != (ep:Int))=false:=by simp;omega
 obtain⟨a2,bM⟩:=exq (a.Qv 2 e s q b);rw[<-bM]at hd ⊢;obtain⟨a1,bN⟩:=exq (a.drop n);rw[<-bN]at hd aM;have cn:=y' hd;have bO:=y' (JT w #[Ej 2,Ej e,Ej s,Ej q,.string b]);have i0:∀w:World,(Instr.index 35 (.agg #[Ej n0,Ej n1,Ej n2]) (Ej 0)).run prog w=.ok (Ej n0) w:=λ_=>by kernel_rfl
 have cp:∀w:World,(Instr.index 35 (.agg #[Ej n0,Ej n1,Ej n2]) (Ej 1)).run prog w=.ok (Ej n1) w:=λ_=>by kernel_rfl
 have cq:∀w:World,(Instr.index 35 (.agg #[Ej n0,Ej n1,Ej n2]) (Ej 2)).run prog w=.ok (Ej n2) w:=λ_=>by kernel_rfl
 clear bb aF Q O hs hn hd bd bA aG aH be bB aI bj bl bn bD bF bG bH bI bJ bL bK bM bN cl bu aZ;unfold C' at *;go_enter func76,ntmps76;go_upto_region 1 with fail;refine G' (Xz w #[Ej 2,Ej e,Ej s,Ej q,.string b]) (d' bO) ?_;clear bO;intro x F;have bP:=Bi 1 F.box;simp at bP;have bQ:=λn=>y' (d' (bw (x.drewN n) (F.drewN n).bel));have aa:=y' F;clear F;go_quiet (first|(go_at_call 52;exact z58 (d' (bQ _))));go_upto_region 3 with fail;refine G' (Xz w #[Ej 2,Ej e,Ej s,Ej q,.string b]) ((d' aa).drewN _) ?_;clear aa bP bQ;intro x F;have ah:=Bi 4 F.box;simp at ah;have d0:=Bc F.bel ba bf;have d1:=Bc F.bel ba bg;have d2:=Bc F.bel ba bh;have cr:=F.lt;have aa:=y' F;clear F bf bg bh;go_upto_region 4 with fail;obtain⟨M,bo⟩:=exq (x.heap.size);have bR:=y' bo;have bp:w.heap.size<=M:=by have:=(d' aa).bel.size;omega
 rw[<-bo];have cz:¬w.heap.size=M:=by omega
 clear bo;refine G' (λy=>Eh y M #[Ej g0,Ej g1,Ej g2] 100/\Xz w #[Ej 2,Ej e,Ej s,Ej q,.string b] y) ?_ ?_;rw[d' bR];exact⟨z19 _ _,(d' aa).below bna⟩;clear aa bR ah d0 d1 d2 cr;rintro y ⟨h5,F⟩;have ah:=Bi 4 F.box;simp at ah;have ai:=y' (z13 h5 F);clear h5 F;go_upto_region 5 with (go_at_call 116;refine Cm (cm _) ?_;rintro r z ⟨rfl,hb⟩);have bS:=(hb.block _ (z12 (d' ai).1)).trans (d' ai).1;have bT:=(d' ai).2.bel.trans (hb.mono (d' ai).2.bel.size);have bU:=y' (z13 bS bT);clear hb bS bT ai ah;go_loopw[6,7,22] (λ_ _ i wr=>∃j:Nat,j<=3/\i=.int .i64 j/\wr.heap[M]? =some (.cells #[.int .i64 (if 0 < j then bi else g0:Nat),.int .i64 (if 1 < j then bk else g1:Nat),.int .i64 (if 2 < j then bm else g2:Nat)] 100 (0,0))/\Below w.heap.size w wr) (λ_ _ i _=>3 - (intOf i).toNat)
 case atStart=>obtain⟨h1,h2⟩:=d' bU;exact⟨0,by omega,rfl,by simpa using h1,h2⟩
 case round=>
  obtain⟨j,hj,rfl,h5,bV⟩:=hrel;clear bU;obtain⟨aj,ak,ao⟩:=DQ h5;have Y:=z12 h5;have aN:=y' h5;have G:=y' bV;clear h5 bV;rcases(show j=0\/j=1\/j=2\/j=3 by omega)with rfl|rfl|rfl|rfl
  .simp at aj;go_wp2_with fail;refine Z'
    [Ei 0,Ei 0,Ep M 0,Ei g0,Ei n0,Ep p 0,Ei 0,Ei bC,Ei (min n0 (bC:Int)),Ei bi,Ep M 0,Et]
    [[6],[6],[5,2027],[3028],[7],[0],[6],[6031,7032],[5030,8033],[4029,9034],[5,1026],[11036,10035]] [27,28,29,30,31,32,33,34,35,36,37,0] [26,11,28]
    11 _ rfl rfl ?_ ?_
   .refine⟨?_,?_,?_,?_,?_,?_,?_,?_,?_,?_,?_,trivial⟩;all_goals
     intro a' z hb aq;have d0:=Bc hb Y aj;have Z:=y' (d' (aJ z ((d' G).trans (hb.mono (d' G).size))));clear hb;simp[J']at aq;go_simp;try exact⟨_,rfl,z11 _ _,rfl⟩
     try exact z11 _ _
    all_goals first
     |(refine Cm Z ?_;rintro r au ⟨rfl,q,rfl⟩;exact⟨rfl,z36 (z11 _ _) q⟩)
     |(refine Cm Z ?_;rintro r au ⟨rfl,q,rfl⟩;exact⟨_,rfl,z36 (z11 _ _) q,rfl⟩)
     |skip
   intro f z H I;simp only[AJ,List.take]at I;have av:=I.2.2.2.2.2.2.2.2.2.1;have ax:=I.2.2.2.2.2.2.2.2.2.2.1;clear I;have z5:=(H.block _ Y).trans (d' aN);have d0:=Bc H Y aj;have f0:=H' (i:=0) z5;have ay:=y' z5;have az:=y' ((d' G).trans (H.mono (d' G).size));clear H z5;simp only[V',av,ax];generalize f 26=bW,f 27=bX,f 28=bY,f 29=bZ,f 30=ca,f 31=cb,f 32=cc,f 33=cd,f 34=ce;go_simp;go_wp2;refine⟨⟨1,by omega,by go_num,?_,?_⟩,by simp[intOf]⟩;have:=AA (j:=0) (v:=Ej bi) (d' ay);simpa using this;exact(d' az).setCell (p:=⟨M,0,none⟩) bp _
  .simp at ak;go_wp2_with fail;refine Z'
    [Ei 1,Ei 1,Ep M 1,Ei g1,Ei n1,Ep p 0,Ei 1,Ei bE,Ei (min n1 (bE:Int)),Ei bk,Ep M 1,Et]
    [[6],[6],[5,2027],[3028],[7],[0],[6],[6031,7032],[5030,8033],[4029,9034],[5,1026],[11036,10035]] [27,28,29,30,31,32,33,34,35,36,37,0] [26,11,28]
    11 _ rfl rfl ?_ ?_
   .refine⟨?_,?_,?_,?_,?_,?_,?_,?_,?_,?_,?_,trivial⟩;all_goals
     intro a' z hb aq;have d1:=Bc hb Y ak;have Z:=y' (d' (aK z ((d' G).trans (hb.mono (d' G).size))));clear hb;simp[J']at aq;go_simp;try exact⟨_,rfl,z11 _ _,rfl⟩
     try exact z11 _ _
    all_goals first
     |(refine Cm Z ?_;rintro r au ⟨rfl,q,rfl⟩;exact⟨rfl,z36 (z11 _ _) q⟩)
     |(refine Cm Z ?_;rintro r au ⟨rfl,q,rfl⟩;exact⟨_,rfl,z36 (z11 _ _) q,rfl⟩)
     |skip
   intro f z H I;simp only[AJ,List.take]at I;have av:=I.2.2.2.2.2.2.2.2.2.1;have ax:=I.2.2.2.2.2.2.2.2.2.2.1;clear I;have z5:=(H.block _ Y).trans (d' aN);have d1:=Bc H Y ak;have f1:=H' (i:=1) z5;have ay:=y' z5;have az:=y' ((d' G).trans (H.mono (d' G).size));clear H z5;simp only[V',av,ax];generalize f 26=bW,f 27=bX,f 28=bY,f 29=bZ,f 30=ca,f 31=cb,f 32=cc,f 33=cd,f 34=ce;go_simp;go_wp2;refine⟨⟨2,by omega,by go_num,?_,?_⟩,by simp[intOf]⟩;have:=AA (j:=1) (v:=Ej bk) (d' ay);simpa using this;exact(d' az).setCell (p:=⟨M,1,none⟩) bp _
  .simp at ao;go_wp2_with fail;refine Z'
    [Ei 2,Ei 2,Ep M 2,Ei g2,Ei n2,Ep p 0,Ei 2,Ei b2,Ei (min n2 (b2:Int)),Ei bm,Ep M 2,Et]
    [[6],[6],[5,2027],[3028],[7],[0],[6],[6031,7032],[5030,8033],[4029,9034],[5,1026],[11036,10035]] [27,28,29,30,31,32,33,34,35,36,37,0] [26,11,28]
    11 _ rfl rfl ?_ ?_
   .refine⟨?_,?_,?_,?_,?_,?_,?_,?_,?_,?_,?_,trivial⟩;all_goals
     intro a' z hb aq;have d2:=Bc hb Y ao;have Z:=y' (d' (aL z ((d' G).trans (hb.mono (d' G).size))));clear hb;simp[J']at aq;go_simp;try exact⟨_,rfl,z11 _ _,rfl⟩
     try exact z11 _ _
    all_goals first
     |(refine Cm Z ?_;rintro r au ⟨rfl,q,rfl⟩;exact⟨rfl,z36 (z11 _ _) q⟩)
     |(refine Cm Z ?_;rintro r au ⟨rfl,q,rfl⟩;exact⟨_,rfl,z36 (z11 _ _) q,rfl⟩)
     |skip
   intro f z H I;simp only[AJ,List.take]at I;have av:=I.2.2.2.2.2.2.2.2.2.1;have ax:=I.2.2.2.2.2.2.2.2.2.2.1;clear I;have z5:=(H.block _ Y).trans (d' aN);have d2:=Bc H Y ao;have f2:=H' (i:=2) z5;have ay:=y' z5;have az:=y' ((d' G).trans (H.mono (d' G).size));clear H z5;simp only[V',av,ax];generalize f 26=bW,f 27=bX,f 28=bY,f 29=bZ,f 30=ca,f 31=cb,f 32=cc,f 33=cd,f 34=ce;go_simp;go_wp2;refine⟨⟨3,by omega,by go_num,?_,?_⟩,by simp[intOf]⟩;have:=AA (j:=2) (v:=Ej bm) (d' ay);simpa using this;exact(d' az).setCell (p:=⟨M,2,none⟩) bp _
  simp at aj ak ao;have bq:=y' (d' (aM wr (d' G)));clear aM aJ aK aL i0 cp cq ab ac ad;by_cases hb:op.2=1/\0 < S
  .have cs:((bz:Int) != (0:Int))=true:=(by rw[d' bc,WU hb];rfl);have aA:=y' hb;clear hb;go_wp2_with (go_at_call 117;refine Cm bq ?_;rintro r y ⟨rfl,aB⟩);go_ret;rw[Rq.dead (d' aA)]at aB ⊢;obtain⟨aO,aP,aQ,aR,aS,aT⟩:=aB;exact⟨rfl,aO,aP,aQ,aR,aS.behind (d' G),aT⟩
  have cs:((bz:Int) != (0:Int))=false:=by rw[d' bc,JH hb];rfl
  have aA:=y' hb;clear hb;go_upto_region 12 with (go_at_call 117;refine Cm bq ?_;rintro r y ⟨rfl,aB⟩);rw[Rq.is (d' aA)]at aB;obtain⟨aO,aP,aQ,cu,aR,aS,aT,cf⟩:=aB;have cg:=y' (aS.behind (d' G));have ch:=y' (z13 aT cf);clear aS aT cf bq aj ak ao aN;go_wp2;go_loopw[9,44] (λ_ i wr=>∃j:Nat,j<=3/\i=.int .i64 j/\Qy w wr p aO a1.Qf a1.Qd a1.fenced aP (clr aQ j) aR c) (λ_ i _=>3 - (intOf i).toNat)
  case atStart=>exact⟨0,by omega,rfl,by rw[Cu];exact d' cg⟩
  case round=>
   obtain⟨j,hj,rfl,aU⟩:=hrel;clear cg;by_cases cA:j < 3
   .obtain⟨c1,V,aC,aD,t1,t2⟩:=aU;have br:=tO (V.shAt (i:=j * 3+1) (by omega));rw[show 4+(j * 3+1) * 2=4+j * 6+2 by omega]at br;have ci:=y' br;have cj:=y' (z13 V (z13 aC (z13 aD (z13 t1 t2))));have cB:(0:Int)<=(j:Int):=(by omega);have cC:(j:Int) < 3:=(by omega);clear V aC aD t1 t2 br;go_upto_region 16 with (go_at_call 118;refine Cm ci ?_;rintro r y ⟨rfl,hst⟩);obtain⟨V,aC,aD,t1,t2⟩:=d' cj;have aV:EC wr y p (4+(j * 3+1) * 2) 116 c1.arr (c1.nv (j * 3+1)) (c1.mv (j * 3+1)) []:=(by rw[show 4+(j * 3+1) * 2=4+j * 6+2 by omega];exact hst);obtain⟨c2,aE,aW,aX,s1,aY⟩:=KY aC aD t1 t2 (FR V (i:=j * 3+1) (by omega) aV);have bt:=YS (aE.shAt (i:=j * 3+2) (by omega));rw[show 4+(j * 3+2) * 2=4+j * 6+4 by omega]at bt;have cv:=y' bt;have cw:=y' (z13 aE (z13 aW (z13 aX (z13 s1 aY))));clear V aC aD t1 t2 aE aW aX s1 aY bt hst aV cj ci;go_wp2_with (go_at_call 119;refine Cm cv ?_;rintro r z ⟨rfl,hst⟩);obtain⟨aE,aW,aX,s1,aY⟩:=d' cw;have aV:EC y z p (4+(j * 3+2) * 2) 116 c2.arr (c2.nv (j * 3+2)) (c2.mv (j * 3+2)) []:=(by rw[show 4+(j * 3+2) * 2=4+j * 6+4 by omega];exact hst);have ck:=KY aW aX s1 aY (FR aE (i:=j * 3+2) (by omega) aV);rw[Cv]at ck;exact⟨⟨j+1,by omega,by go_num,ck⟩,by simp[intOf];omega⟩
   obtain rfl:j=3:=(by omega);obtain⟨c1,V,_⟩:=id aU;have f24:=H' (i:=24) V.ks.blk;have d24:wr.cell? (Ea p 24)=some (.bool a1.Qd):=(by rw[D' V.ks.blk,V.ks.aw]);have cx:=y' (aU.trans (λcD h=>YZ h true));clear aU V;go_wp2;go_ret;refine⟨by rw[d' bc,JH (d' aA)];rfl,?_⟩;rw[Rq.is (d' aA),d' cn];exact⟨aO,aP,clr aQ 3,cu,aR,d' cx,(d' ch).1.same (λi _=>uH _ i),tW (d' ch).2⟩
theorem yR (I:Ja w p g a.Qf a.Qd a.fenced free sh st c) (hs:Zx op st a free pl) (O:Jv a st.Qe g free sh pl) (e:Nat) (s q:Nat) (b:z10) (cr:e=a.Qa) (aL:a.Qd=true) (ao:s < 3) (aW:0 < b.size) (aM:∀i,i < 3->(a.fl i).base+(a.fl i).kept.length<=1000000000):
  Cp 77 #[C' p,.agg #[Ej 4,Ej e,Ej s,Ej q,.string b]] w λr F=>Rr r (Ej (erV op (a.Jb 4 e s q b 0+a.Jb 4 e s q b 1+a.Jb 4 e s q b 2) 0))/\Rq op (a.Jb 4 e s q b 0+a.Jb 4 e s q b 1+a.Jb 4 e s q b 2) w F p a (a.Qv 4 e s q b) c:=by
 have aC:=z12 I.ks.blk;have bz:=λF (M:El w F)=>y' (DW (I.below M));have bA:w.cell? (Ea p 24)=some (.bool true):=by rw[D' I.ks.blk,I.ks.aw,aL]
 obtain⟨G,aX⟩:=exq (a.ackSeq s q);have bB:G=min q ((a.fl s).base+(a.fl s).kept.length):=by rw[aX];rfl
 obtain⟨n,hn⟩:=exq (a.Jb 4 e s q b);rw[<-hn];obtain⟨S,aN⟩:=exq (n 0+n 1+n 2);rw[<-aN];obtain⟨aY,aO⟩:=exq (erV op S 0);rw[<-aO];have aP:=y' aO;have hd:a.Qv 4 e s q b=if G < (a.fl s).base then a else {a.drop n with fl:=upd (a.drop n).fl s {(a.drop n).fl s with held:=Mq.bitsOf G b[0].toNat 3}}:=by unfold Ag.Qv;rw[if_neg (by omega),if_neg (by omega),if_neg (by omega),if_neg (by omega),if_pos rfl,hn,Mk aW];have hst:((s:Nat):Int).toNat=s:=rfl;rw[hst,<-aX,aL];by_cases h:G < (a.fl s).base;rw[if_pos (.inr h),if_pos h];rw[if_neg (by simp;omega),if_neg h]
 have aZ:∀i,i < 3->n i<=(a.fl i).kept.length:=λi _=>by rw[hn];exact MK _ _ _ _ _ _ _
 have ba:∀i,n i=if i=s then min (q - (a.fl s).base) (a.fl s).kept.length else 0:=λi=>by
  rw[hn];unfold Ag.Jb;rw[if_neg (by omega),if_neg (by omega)];by_cases h:i=s
  .subst h;rw[if_pos ⟨rfl,rfl,aL⟩,if_pos rfl];unfold Ag.gone;congr 1;omega
  rw[if_neg (λcs=>h (by have:=cs.2.1;omega)),if_neg h]
 have aQ:G < (a.fl s).base->n 0+n 1+n 2=0:=λh=>by
  have M:∀i,n i=0:=λi=>by rw[ba i];split;omega;rfl
  rw[M 0,M 1,M 2]
 obtain⟨X,bb⟩:=exq (λi=>if i=s then G else(a.fl i).base:Nat->Nat);have aD:¬G < (a.fl s).base->∀F,El w F->Hid (Cp 117 #[C' p,.agg #[Ej (X 0),Ej (X 1),Ej (X 2)]] F λr cu=>Rr r (Ej aY)/\Rq op S F cu p a (a.drop n) c):=λah F M=>by
  have bC:∀i,i < 3->X i=(a.fl i).base+n i:=λi hi=>by rw[bb,ba i];show(if i=s then G else(a.fl i).base)= _;by_cases h:i=s;subst h;rw[if_pos rfl,if_pos rfl];omega;rw[if_neg h,if_neg h];rfl
  rw[aO,aN];refine y' (wA (I.below M) hs (λi hi=>by have:=aM i hi;omega) O n X aZ bC (λi hi=>?_));have:=aM i hi;have:=aZ i hi;rw[bC i hi];omega
 have bc:=λF (M:El w F)=>MS (I.below M) O ao (O.bs s ao);have bD:w.cell? (Ea p 1)=some (Ej (a.fl 0).base):=by rw[D' I.ks.blk,<-O.bs 0 (by omega)];exact I.ks.ag 0 (by omega)
 have bE:w.cell? (Ea p 2)=some (Ej (a.fl 1).base):=by rw[D' I.ks.blk,<-O.bs 1 (by omega)];exact I.ks.ag 1 (by omega)
 have bF:w.cell? (Ea p 3)=some (Ej (a.fl 2).base):=by rw[D' I.ks.blk,<-O.bs 2 (by omega)];exact I.ks.ag 2 (by omega)
 have bd:w.cell? (Ea p (1+s))=some (Ej (a.fl s).base):=by rw[D' I.ks.blk,<-O.bs s ao];exact I.ks.ag s ao
 obtain⟨bG,ai⟩:=exq ((a.fl s).base+(a.fl s).kept.length);rw[<-ai]at bc bB;have cv:=λF M=>y' (bc F M);have cV:min (q:Int) (bG:Int)=(G:Int):=by omega
 have bH:G<=1000000000:=by have:=aM s ao;omega
 have be:=λF=>y' (fR G bH b aW F);obtain⟨bits,bf⟩:=exq (Mq.bitsOf G b[0].toNat 3);have bI:bits.length<=3:=by rw[bf];exact ET _ _ _
 rw[<-bf]at hd be;obtain⟨ep,bJ⟩:=exq (a.Qa);have bK:st.Qe=ep:=by rw[bJ];exact O.ep
 rw[bK]at bz;have cW:((e:Int) != (ep:Int))=false:=by simp;omega
 obtain⟨a2,bL⟩:=exq (a.Qv 4 e s q b);rw[<-bL]at hd ⊢;obtain⟨a1,bM⟩:=exq (a.drop n);rw[<-bM]at hd aD;have bN:=y' hd;have bO:=y' (JT w #[Ej 4,Ej e,Ej s,Ej q,.string b]);obtain⟨bs,bg⟩:=exq ((a.fl s).base);rw[<-bg]at bd aD aQ;rw[<-aN]at aQ;have bh:=y' aQ;have bP: #[Value.int .i64 (X 0),Ej (X 1),Ej (X 2)]=(#[Value.int .i64 (a.fl 0).base,Ej (a.fl 1).base,Ej (a.fl 2).base]:Array Value).setIfInBounds s (Ej G):=by
  rw[bb];obtain rfl|rfl|rfl:s=0\/s=1\/s=2:=by omega
  all_goals simp
 have bQ:=y' bP;have bR:=y' bg;have cw:=y' (EV I hs O);have cX:(0:Int)<=(s:Int):=by omega
 have cY:(s:Int) < 3:=by omega
 generalize (a.fl 0).base=g0,(a.fl 1).base=g1,(a.fl 2).base=g2 at *;obtain⟨cx,bS⟩:=exq (X 0);obtain⟨cy,bT⟩:=exq (X 1);obtain⟨cz,bU⟩:=exq (X 2);rw[<-bS,<-bT,<-bU]at aD bQ;have cA:=y' aD;have cB:=y' (λh=>absurd (I.lt _ h) (by omega):¬PaU p c w.heap.size);clear aN aO aQ I O hs hn hd aZ ba bb bc bK bJ bL bM cr aL aM aX bB ai bf bg bP bS bT bU aD aW bH;unfold C' at *;go_enter func77,ntmps77;go_upto_region 1 with fail;refine G' (Xz w #[Ej 4,Ej e,Ej s,Ej q,.string b]) (d' bO) ?_;clear bO;intro x z;have bV:=Bi 1 z.box;simp at bV;have d24:=Bc z.bel aC bA;have bW:=λn=>y' (d' (bz (x.drewN n) (z.drewN n).bel));have H:=y' z;clear z bA;go_quiet (first|(go_at_call 52;exact z58 (d' (bW _))));go_upto_region 3 with fail;refine G' (Xz w #[Ej 4,Ej e,Ej s,Ej q,.string b]) ((d' H).drewN _) ?_;clear H bV bW d24;intro x z;have J:=Bi 2 z.box;have bi:=Bi 3 z.box;simp at J bi;have aE:=z.lt;have H:=y' z;clear z;refine AI
  [Ep w.heap.size 3,Ei q,Ep p 0,Ep w.heap.size 2,Ei s,Ei bG,Ei G,Ei G]
  [[3],[1023],[0],[3],[4026],[3025,5027],[2024,6028],[7029]] [24,25,26,27,28,29,30,6] [5,1,17,7,46] ?_ ?_
 .refine⟨?_,?_,?_,?_,?_,?_,?_,?_,trivial⟩;all_goals
   intro a' F Q cC;have bj:=Bc Q aE J;have cZ:=Bc Q aE bi;have bX:=y' (d' (cv F ((d' H).bel.trans (Q.mono (d' H).bel.size))));clear Q;simp[J']at cC;go_simp;try exact z11 _ _
  all_goals first
   |exact⟨rfl,z11 _ _⟩
   |exact⟨_,rfl,z11 _ _,rfl⟩
   |(refine Cm bX ?_;rintro r bk ⟨rfl,k,rfl⟩;exact⟨rfl,z36 (z11 _ _) k⟩)
   |(refine Cm bX ?_;rintro r bk ⟨rfl,k,rfl⟩;exact⟨_,rfl,z36 (z11 _ _) k,rfl⟩)
   |skip
 intro f F Q bl;simp only[AJ]at bl;have cD:=bl.2.2.2.2.2.2.2.1;clear bl;have aq:=y' ((d' H).below Q);clear Q;simp only[V',cD];generalize f 23=da,f 24=db,f 25=dc,f 26=dd,f 27=de,f 28=df,f 29=dg;go_upto_region 4 with fail;refine G' (Xz w #[Ej 4,Ej e,Ej s,Ej q,.string b]) (d' aq) ?_;clear aq H J bi aE;intro x z;have J:=Bi 2 z.box;simp at J;have cE:=Bc z.bel aC bd;have H:=y' z;clear z bd;by_cases ah:G < bs
 .have cF:(G:Int) < (bs:Int):=by omega
  go_quiet (fail)
  go_wp2;go_ret;refine⟨by rw[d' aP,JH (by have:=(d' bh) ah;omega)];rfl,?_⟩;rw[d' bN,<-d' bR,if_pos ah];have hb:¬ (op.2=1/\0 < S):=by have:=(d' bh) ah;omega
  rw[Rq.is hb,(d' bh) ah,FT];exact(d' cw).below (((d' H).drewN _).bel)
 have cF:¬ (G:Int) < (bs:Int):=by omega
 go_quiet (fail)
 go_upto_region 6 with fail
 refine G' (Xz w #[Ej 4,Ej e,Ej s,Ej q,.string b]) ((d' H).drewN _) ?_;clear H J cE;intro x z;have J:=Bi 2 z.box;simp at J;have d0:=Bc z.bel aC bD;have d1:=Bc z.bel aC bE;have d2:=Bc z.bel aC bF;have aE:=z.lt;have H:=y' z;obtain⟨au,bm⟩:=exq (x.heap.size);have bY:=y' bm;have cG:w.heap.size < au:=by omega
 clear z bD bE bF;go_upto_region 7 with fail;rw[<-bm];clear bm;refine G' (λy=>Eh y au #[Ej g0,Ej g1,Ej g2] 100/\Xz w #[Ej 4,Ej e,Ej s,Ej q,.string b] y) ?_ ?_;rw[d' bY];exact⟨z19 _ _,(d' H).below bna⟩;clear H bY J d0 d1 d2 aE;rintro y ⟨Z,z⟩;have J:=Bi 2 z.box;simp at J;have f6:=H' (i:=s) Z;obtain⟨old,cH⟩:∃v:Nat,y.cell? (Ea au s)=some (Ej v):=by
  rw[D' Z];obtain rfl|rfl|rfl:s=0\/s=1\/s=2:=by omega
  exact⟨g0,rfl⟩;exact⟨g1,rfl⟩;exact⟨g2,rfl⟩
 have bZ:=y' (z13 Z z);clear Z z;go_upto_region 8 with fail;refine G' (λy=>Eh y au #[Ej cx,Ej cy,Ej cz] 100/\Xz w #[Ej 4,Ej e,Ej s,Ej q,.string b] y) ?_ ?_;obtain⟨Z,z⟩:=d' bZ;have cI:=T' y au s (Ej G);refine⟨?_,⟨cI.blk z.box (by omega),z.bel.setCell (p:=⟨au,s,none⟩) (Nat.le_of_lt cG) _⟩⟩;rw[d' bQ];exact AA Z;clear bZ J f6 cH;rintro y ⟨Z,z⟩;obtain⟨ca,cb,bj⟩:=DQ Z;have J:=Bi 2 z.box;simp at ca cb bj J;have bn:=y' (d' ((d' cA) ah y z.bel));have H:=y' z;clear Z z;by_cases hb:op.2=1/\0 < S
 .have cJ:((aY:Int) != (0:Int))=true:=by rw[d' aP,WU hb];rfl
  have aF:=y' hb;clear hb;go_wp2_with (go_at_call 117;refine Cm bn ?_;rintro r F ⟨rfl,aG⟩);go_ret;rw[Rq.dead (d' aF)]at aG ⊢;obtain⟨av,ax,aj,ay,cK,aR⟩:=aG;exact⟨rfl,av,ax,aj,ay,cK.behind (d' H).bel,aR⟩
 have cJ:((aY:Int) != (0:Int))=false:=by rw[d' aP,JH hb];rfl
 have aF:=y' hb;clear hb;go_upto_region 11 with (go_at_call 117;refine Cm bn ?_;rintro r F ⟨rfl,aG⟩);rw[Rq.is (d' aF)]at aG;obtain⟨av,ax,aj,cL,ay,⟨c1,V,aa,ad,t1,t2⟩,aR,cc⟩:=aG;have Q:=aa.blk (d' H).box (d' cB);have cd:=Qy.behind (w:=w) (⟨c1,V,aa,ad,t1,t2⟩:Qy y F p av a1.Qf a1.Qd a1.fenced ax aj ay c) (d' H).bel;have J:=Bi 2 Q;simp at J;have aq:=y' (z13 Q cd);have ce:=y' (z13 aR cc);clear V aa ad t1 t2 aR cc Q cd H bn ca cb bj;go_quiet (fail);go_upto_region 12 with fail;refine G' (λy=>Eh y w.heap.size #[Ej 4,Ej e,Ej s,Ej q,.string b] 63/\Qy w y p av a1.Qf a1.Qd a1.fenced ax aj ay c) ?_ ?_;exact⟨(d' aq).1,(d' aq).2.below (z36 (z11 _ _) _)⟩;clear aq J;rintro x ⟨az,c1,V,aa,ad,t1,t2⟩;have bo:=y' (YS (V.shAt (i:=s * 3+2) (by omega)));rw[show 4+(s * 3+2) * 2=4+s * 6+4 by omega]at bo;have cf:=y' (z13 az (z13 V (z13 aa (z13 ad (z13 t1 t2)))));clear az V aa ad t1 t2;go_upto_region 13 with (go_at_call 119;refine Cm bo ?_;rintro r bk ⟨rfl,hst⟩);rw[show 4+s * 6+4=4+(s * 3+2) * 2 by omega]at hst;obtain⟨az,V,aa,ad,t1,t2⟩:=d' cf;have cg:=GG V az (by decide) (by decide) (by decide) (by decide) (by decide) (by decide) (by decide);have ch:=hst.2.blk az (λh=>cg (.inl (h.elim .inl (λh=>.inr (.inr ⟨s * 3+2,by omega,h⟩)))));have cM:=KY aa ad t1 t2 (FR V (by omega) hst);have cN:=Bi 4 ch;simp at cN;clear az V aa ad t1 t2 cg hst cf bo ch;obtain⟨c2,aH,aS,aT,s1,aU⟩:=cM;have cO:=y' (z13 aH (z13 aS (z13 aT (z13 s1 aU))));clear aH aS aT s1 aU;have ci:=y' (d' (be bk));clear be;obtain⟨m,bp⟩:=exq (bits.length);rw[<-bp]at ci bI;have bq:=y' bp;clear bp;go_wp2_with (go_at_call 120;refine Cm ci ?_;rintro r z3 ⟨v,rfl,aI,ai⟩;obtain⟨cj,cap,rfl,_⟩:=(CV aI).shape;replace aI:=y' aI;replace ai:=y' ai);go_loopw[10,67] (λ_ i wr=>∃t:Nat,t<=m/\i=.int .i64 t/\Ql wr 3 1 (.slice cj m cap) m (O' bits)/\∃aJ,Ja wr p av a1.Qf a1.Qd a1.fenced ax (λj=>if j=s * 3+2 then(bits.take t).foldl (λl n=>CY l n MQ) []else aj j) ay aJ/\Far (PaU p c) w wr/\(∀k,PaU p aJ k->PaU p c k\/w.heap.size<=k)/\aJ.s=c.s/\aJ.rv=c.rv/\(∀g,(Value.slice cj m cap).ownBlock=some g->¬PaU p aJ g)) (λ_ i _=>m - (intOf i).toNat)
 case atStart=>obtain⟨aH,aS,aT,s1,aU⟩:=d' cO;refine⟨0,by omega,rfl,CV (d' aI),c2,aH.below (d' ai),aS.trans (I' (E:=PaU p c) (d' ai)) Ih,aT,s1,aU,λg aA hu=>?_⟩;have h1:=(z14 (d' aI) g aA).1;have h2:=aH.lt g hu;omega
 case round=>
  obtain⟨t,dh,rfl,ak,c3,Y,ab,ac,u1,u2,aB⟩:=hrel;by_cases ck:t < m
  .obtain⟨di,dj,br,_,_,cl⟩:=ak.shape;injection br with br _ cP;subst br cP;obtain⟨dl,dm,rfl,cm⟩:=cl (by omega);obtain⟨aK,bt⟩:∃aK,bits[t]? =some aK:=⟨bits[t]'(by have:=d' bq;omega),z17 _⟩
   have r0:=(cm t (by omega));rw[show(O' bits)[t]? =some (Ej aK) by simp[O',bt]]at r0;have cn:bits.take (t+1)=bits.take t++[aK]:=(by rw[sX,bt];rfl);have cp:((bits.take t).foldl (λl n=>CY l n MQ) []).length < 1000:=(by have:=iN (bits.take t);have:=List.length_take_le t bits;omega);have bu:=y' (Ci (Y.shAt (i:=s * 3+2) (by omega)) (by rw[if_pos rfl];exact cp) aK);rw[if_pos rfl,<-MT,<-cn]at bu;rw[show 4+(s * 3+2) * 2=4+s * 6+4 by omega]at bu;have dn:(0:Int)<=(t:Int):=(by omega);have dq:(t:Int) < (m:Int):=(by omega);have bw:=y' (z13 ak (z13 Y (z13 ab (z13 ac (z13 u1 (z13 u2 aB))))));clear ak Y ab ac u1 u2 aB cl cm cn cp bt;go_wp2_with (go_at_call 121;refine Cm bu ?_;rintro r z4 ⟨rfl,hst⟩);rw[show 4+s * 6+4=4+(s * 3+2) * 2 by omega]at hst;obtain⟨ak,Y,ab,ac,u1,u2,aB⟩:=d' bw;obtain⟨c4,cQ,cR,cq,v1,cS⟩:=FR Y (by omega) hst;have cT:∀k,(k=p\/ShU (c3.nv (s * 3+2)) (c3.mv (s * 3+2)) k)->PaU p c3 k:=λk aV=>aV.elim (λh=>.inl (.inl h)) (λh=>.inl (.inr (.inr ⟨s * 3+2,by omega,h⟩)));refine⟨⟨t+1,by omega,rfl,ak.far hst.2 (λg aA h=>aB g aA (cT g h)),c4,?_,ab.trans cR (λk aV hu=>(ac k hu).elim id (λh=>by omega)),λk aV=>?_,v1.trans u1,cS.trans u2,λg aA hu=>?_⟩,?_⟩;rw[show(λj=>if j=s * 3+2 then(bits.take (t+1)).foldl (λl n=>CY l n MQ) []else aj j)=(λj=>if j=s * 3+2 then(bits.take (t+1)).foldl (λl n=>CY l n MQ) []else if j=s * 3+2 then(bits.take t).foldl (λl n=>CY l n MQ) []else aj j) by funext j;by_cases h:j=s * 3+2;rw[if_pos h,if_pos h];rw[if_neg h,if_neg h,if_neg h]];exact cQ;rcases cq k aV with h|h;exact ac k h;exact .inr (z26 ab.size h);rcases cq g hu with h|h;exact aB g aA h;have:=ak.lt g aA;omega;simp[intOf];omega
  have e:t=m:=by omega
  have dr:¬ (t:Int) < (m:Int):=by omega
  have bw:=y' (z13 Y (z13 ab (z13 ac (z13 u1 u2))));have cU:=y' (z13 e ck);clear ak Y ab ac u1 u2 aB e ck;go_wp2;go_ret;refine⟨by rw[d' aP,JH (d' aF)];rfl,?_⟩;rw[Rq.is (d' aF),d' bN,<-d' bR,if_neg ah];obtain⟨Y,ab,ac,u1,u2⟩:=d' bw;rw[show bits.take t=bits by rw[(d' cU).1,d' bq];exact Kl]at Y;exact⟨av,ax,_,cL,ay,⟨c3,Y,ab,ac,u1,u2⟩,(d' ce).1.same (λi _=>Qn _ _ _ i),yI (d' ce).2 ao bits (by rw[<-d' bq];exact bI)⟩
end
def GI (a:Ag) (l:List UInt8):Nat:=
 if Qb.reads l=true then a.Jb (Jk l) (Jf l) (Qs l).toNat (Xh l).toNat (Jp l) 0+a.Jb (Jk l) (Jf l) (Qs l).toNat (Xh l).toNat (Jp l) 1+a.Jb (Jk l) (Jf l) (Qs l).toNat (Xh l).toNat (Jp l) 2 else 0
theorem Df (F:Qb.reads r=true) (h1:Jk r=o) (h2:Jf r=w) (h3:Qs r=a) (h4:Xh r=q) (h5:Jp r=z):
  GI c r=c.Jb o w a q z 0+c.Jb o w a q z 1+c.Jb o w a q z 2:=by
 unfold GI;rw[if_pos F,h1,h2,h3,h4,h5];rfl
theorem lI (z:Qb.reads r=false):GI c r=0:=by
 unfold GI;rw[if_neg (by rw[z];decide)]
section
variable {w:World} {p:Nat} {g0:Nat->Nat} {free:List Nat} {sh:Nat->List (Nat×Value)} {st:Stv} {c:Av} {a a2:Ag} {pl:Nat->List Nat} {op:Nat×Nat}
theorem fZ (z:Ja w p g0 a.Qf a.Qd a.fenced free sh st c) (hs:Zx op st a free pl) (O:Jv a st.Qe g0 free sh pl) (bs:Value) (l:List UInt8) (H:Qk w bs l) (I:Qb.reads l=false):
  Cp 45 #[C' p,bs] w λr J=>Rr r (Ej 1)/\Zy op w J p a c:=by
 have c0:w.cell? (Ea p 0)=some (C' c.s):=by rw[D' z.ks.blk,z.ks.a0]
 have G:=AN z.stt;rw[hs.dead]at G;have M:=y' G;have F:=GS bs l w H;rw[I]at F;simp only[Bool.false_eq_true,if_false,CR]at F;have Q:=y' F;have V:=y' (EV z hs O);clear z G F;unfold C' at *;go_enter func45,ntmps45;go_wp2_with (first|(go_at_call 66;refine Cm M ?_;rintro r y ⟨rfl,rfl⟩)|(go_at_call 69;refine Cm Q ?_;rintro r y ⟨rfl,hb⟩;replace hb:=y' hb));go_ret;exact⟨rfl,(d' V).below ((d' hb).alloc (d' hb).size _)⟩
theorem pX (F:Ja w p g0 a.Qf a.Qd a.fenced free sh st c) (hs:Zx op st a free pl) (ah:Int) (M:World->World->Prop) (aq:∀y z:World,El w y->M y z->M w z) (bs:Value) (k e s q:Int) (b:z10) (G Z:Nat)
  (aS:G=0/\k=2/\Z=76\/G=1/\k=4/\Z=77\/G=2/\k=5/\Z=78\/G=3/\k≠2/\k≠4/\k≠5/\ah=0/\∀y,El w y->M w y)
  (au:∀y,El w y->Cp 69 #[bs] y λr z=>Rr r (.tuple #[.agg #[Ej k,Ej e,Ej s,Ej q,.string b],Ej 0])/\El y z)
  (av:G < 3->∀y,El w y->Cp Z #[C' p,.agg #[Ej k,Ej e,Ej s,Ej q,.string b]] y λr z=>Rr r (Ej ah)/\M y z):
  Cp 45 #[C' p,bs] w λr z=>Rr r (Ej ah)/\M w z:=by
 have c0:w.cell? (Ea p 0)=some (C' c.s):=by rw[D' F.ks.blk,F.ks.a0]
 have ai:=AN F.stt;rw[hs.dead]at ai;have ax:=y' ai;have ay:=y' (au w (z11 _ _));have aT:=λh y aU=>y' (av h y aU);clear av;obtain⟨aa,cap,az,bi,bj,aA⟩:=F.rl.shape;obtain⟨g,o,rfl,H⟩:=aA (by omega);have r0:w.cell? (Ea g o)=some (Ej 2):=by have:=H 0 (by omega);simpa[EN]using this
 have aB:w.cell? (Ea g (o+1))=some (.func (.func 76) #[C' p] #[]):=by have:=H 1 (by omega);simpa[EN]using this
 have aC:w.cell? (Ea g (o+2))=some (Ej 4):=by have:=H 2 (by omega);simpa[EN]using this
 have aD:w.cell? (Ea g (o+2+1))=some (.func (.func 77) #[C' p] #[]):=by have:=H 3 (by omega);simpa[EN]using this
 have aE:w.cell? (Ea g (o+4))=some (Ej 5):=by have:=H 4 (by omega);simpa[EN]using this
 have aF:w.cell? (Ea g (o+4+1))=some (.func (.func 78) #[C' p] #[]):=by have:=H 5 (by omega);simpa[EN]using this
 have aG:w.cell? (Ea p 26)=some (Es g o 3 cap):=by rw[D' F.ks.blk,F.ks.ar,az]
 have J:g < w.heap.size:=z69 _ _ r0;have aV:=z12 F.ks.blk;have aW:=y' aq;have bk:∀ (n:Nat) (aa:Addr) (m:Mode) (z:World),(store aa (.func (.func n) #[Er p 0] #[]) m).run prog z=stored prog z aa (.func (.func n) #[Er p 0] #[]) m:=λn aa m z=>run_store _ _ _ _ _ rfl;obtain⟨Q,aH⟩:∃Q:Nat->World->Prop,∀I u,Q I u=(Eh u I #[Ej k,Ej e,Ej s,Ej q,.string b] 63/\El w u):=⟨_,λ_ _=>rfl⟩;have ab:=y' aH;clear aH aq F ai au H aA az;unfold C' at *;rcases aS with ⟨V,rfl,rfl⟩|⟨V,rfl,rfl⟩|⟨V,rfl,rfl⟩|⟨V,k2,k4,k5,rfl,aI⟩
 case' inr.inr.inr=>
  have bl:((2:Int) ==k)=false:=by simp;omega
  have bm:((4:Int) ==k)=false:=by simp;omega
  have bn:((5:Int) ==k)=false:=by simp;omega
  have aX:=y' aI;clear aI k2 k4 k5
 all_goals
  have ac:=y' V;clear V;go_enter func45,ntmps45;go_upto_region 4 with (first|(go_at_call 66;refine Cm ax ?_;rintro r y ⟨rfl,aY⟩;obtain rfl:w=y:=aY.symm)|(go_at_call 69;refine Cm ay ?_;rintro r y ⟨rfl,hb⟩));obtain⟨I,aj⟩:=exq (y.heap.size);have bo:w.heap.size<=I:=by have:=hb.size;omega
  have aJ:=y' aj;have ak:=y' hb;rw[<-aj];clear aj hb;refine G' (Q I) ?_ ?_;rw[d' ab,d' aJ];exact⟨z19 _ _,(d' ak).alloc (d' ak).size _⟩;clear aJ ak c0 ay ax;intro u hu;have aK:=y' hu;rw[d' ab]at hu;have d26:=Bc hu.2 aV aG;clear hu aG;go_wp2;go_loopw[8,27] (λ_ i wr=>∃j:Nat,j<=G/\i=.int .i64 j/\Q I wr) (λ_ i _=>4 - (intOf i).toNat)
  case atStart=>exact⟨0,by omega,rfl,d' aK⟩
  case round=>
   obtain⟨j,hj,rfl,aL⟩:=hrel;clear aK d26;rw[d' ab]at aL;obtain⟨ad,hb⟩:=aL;have s0:=Bc hb J r0;have s1:=Bc hb J aB;have bp:=Bc hb J aC;have s3:=Bc hb J aD;have bq:=Bc hb J aE;have br:=Bc hb J aF;obtain⟨aZ,ba,bb,bc,bd⟩:=GL ad;simp at aZ ba bb bc bd;have be:=z12 ad;have ao:=y' hb;have aM:∀Y,Q I (wr.alloc Y):=λY=>(by rw[d' ab];exact⟨(hao _ _ be).trans ad,hb.alloc hb.size _⟩);have bf:=y' aM;have aN:∀Y,El w (wr.alloc Y):=λY=>hb.alloc hb.size _;have aO:=y' aN;clear ad hb aM aN r0 aB aC aD aE aF;rcases(show(j < G/\j < 3)\/j=G by have:=d' ac;omega)with h|h
   .have bg:j=0\/j=1\/j=2:=(by omega);have aP:=y' h;obtain⟨bh,aQ⟩:=exq (j+1);have aR:=y' aQ;clear h hj aQ;rcases bg with rfl|rfl|rfl;all_goals first
     |(exfalso;have:=d' ac;have:=d' aP;omega)
     |(go_wp2;exact⟨⟨bh,by have:=d' aP;have:=d' aR;omega,by rw[d' aR];go_num,(d' bf) _⟩,by simp[intOf]⟩)
   obtain rfl:=h.trans (d' ac);clear h hj;first
    |(go_wp2_with ((first|go_at_call 76|go_at_call 77|go_at_call 78);refine Cm (aT (by have:=d' ac;omega) _ (by first|exact(d' aO) _|exact(d' ao))) ?_;rintro r z ⟨rfl,k1⟩;replace k1:=y' k1)
      go_ret;exact⟨rfl,d' aW _ _ (by first|exact(d' aO) _|exact(d' ao)) (d' k1)⟩)
    |(go_wp2
      go_ret;exact⟨rfl,d' aX _ (d' ao)⟩)
theorem yS {a:Ag} {k e s q:Int} {b:z10} (h:¬e=a.Qa):a.Jb k e s q b 0+a.Jb k e s q b 1+a.Jb k e s q b 2=0:=by
 have z:∀i,a.Jb k e s q b i=0:=λi=>by unfold Ag.Jb;rw[if_pos h]
 rw[z,z,z]
theorem yT {a:Ag} {e s q:Int} {b:z10} (h:¬ (e=a.Qa/\a.Qd=true)):a.Jb 4 e s q b 0+a.Jb 4 e s q b 1+a.Jb 4 e s q b 2=0:=by
 have z:∀i,a.Jb 4 e s q b i=0:=λi=>by unfold Ag.Jb;by_cases F:e=a.Qa;rw[if_neg (by simpa using F),if_neg (by decide),if_neg (λG=>h ⟨F,G.2.2⟩)];rw[if_pos F]
 rw[z,z,z]
theorem QG {a:Ag} {k e s q:Int} {b:z10} (k2:k≠2) (k4:k≠4):a.Jb k e s q b 0+a.Jb k e s q b 1+a.Jb k e s q b 2=0:=by
 have z:∀i,a.Jb k e s q b i=0:=λi=>by unfold Ag.Jb;by_cases F:e=a.Qa;rw[if_neg (by simpa using F),if_neg k2,if_neg (λh=>k4 h.1)];rw[if_pos F]
 rw[z,z,z]
theorem VQ (Q:Ja w p g0 a.Qf a.Qd a.fenced free sh st c) (hs:Zx op st a free pl) (O:Jv a st.Qe g0 free sh pl) (aa:∀i,i < 3->(a.fl i).base+(a.fl i).kept.length<=1000000000) (bs:Value) (l:List UInt8) (ab:Qk w bs l):
  Cp 45 #[C' p,bs] w λr I=>Rr r (Ej (erV op (GI a l) (CJ a l).1))/\Rq op (GI a l) w I p a (CJ a l).2 c:=by
 have F:¬ (op.2=1/\0 < 0):=by omega
 cases H:Qb.reads l;rw[yK H,lI H];simp only[JH F,Rq.is F,FT];exact fZ Q hs O bs l ab H;have Y:=lC H;obtain⟨k,e,s,q,b,h1,h2,h3,h4,h5,g1,g2,ac,ad⟩:=LB H;rw[tZ H h1 h2 h3 h4 h5,Df H h1 h2 h3 h4 h5];rw[h1,h2,h3,h4,h5]at Y;have V:∀y,El w y->Cp 69 #[bs] y λr I=>Rr r (.tuple #[.agg #[Ej k,Ej e,Ej s,Ej q,.string b],Ej 0])/\El y I:=λy z=>by have:=GS bs l y (ab.below z);rw[H]at this;simp only[if_true,LR,h1,h2,h3,h4,h5]at this;exact this
 have J:=λy (z:El w y)=>Q.below z;have M:=pX Q hs (erV op (a.Jb k e s q b 0+a.Jb k e s q b 1+a.Jb k e s q b 2) 0) (λy I=>Rq op (a.Jb k e s q b 0+a.Jb k e s q b 1+a.Jb k e s q b 2) y I p a (a.Qv k e s q b) c) (λ_ _ hb h=>Rq.behind h hb) bs k e s q b;by_cases k2:k=2;refine M 0 _ (.inl ⟨rfl,k2,rfl⟩) V (λ_ y z=>?_);clear M;subst k2;by_cases G:e=a.Qa;exact fY (J y z) hs O e s q b G (RE Y) aa;refine(ZA (J y z) O e s q b G).mono ?_;rintro r I ⟨rfl,hb⟩;rw[show a.Qv 2 e s q b=a by unfold Ag.Qv;rw[if_neg (by omega),if_pos (by omega)],yS (λh=>G (by omega)),JH F,Rq.is F,FT];exact⟨rfl,(EV (J y z) hs O).below hb⟩;by_cases k4:k=4;refine M 1 _ (.inr (.inl ⟨rfl,k4,rfl⟩)) V (λ_ y z=>?_);clear M;subst k4;by_cases G:e=a.Qa/\a.Qd=true;exact yR (J y z) hs O e s q b G.1 G.2 g2 (by have:=(RF Y).1;omega) aa;refine(lA (J y z) O e s q b ?_).mono ?_;by_cases h:e=a.Qa;right;cases Z:a.Qd;rfl;exact absurd ⟨h,Z⟩ G;exact .inl h;rintro r I ⟨rfl,hb⟩;have:a.Qv 4 e s q b=a:=by unfold Ag.Qv;rw[if_neg (by omega)];by_cases h:e=a.Qa;rw[if_neg (by omega),if_neg (by omega),if_neg (by omega),if_pos rfl];cases Z:a.Qd;rw[if_pos (.inl (by simp))];exact absurd ⟨h,Z⟩ G;rw[if_pos (by omega)]
 rw[this,yT (λh=>G ⟨by omega,h.2⟩),JH F,Rq.is F,FT];exact⟨rfl,(EV (J y z) hs O).below hb⟩;by_cases k5:k=5;refine M 2 _ (.inr (.inr (.inl ⟨rfl,k5,rfl⟩))) V (λ_ y z=>?_);clear M;subst k5;rw[QG (by decide) (by decide)];simp only[JH F,Rq.is F,FT];exact ZM (J y z) hs O e s q b;have hd:a.Qv k e s q b=a:=by unfold Ag.Qv;rw[if_neg (by omega)];by_cases h:e=a.Qa;rw[if_neg (by omega),if_neg (by omega),if_neg (by omega),if_neg (by omega)];rw[if_pos (by omega)]
 refine M 3 0 (.inr (.inr (.inr ⟨rfl,k2,k4,k5,by rw[QG k2 k4,JH F],λy z=>?_⟩))) V (λh=>absurd h (by omega));rw[hd,QG k2 k4,Rq.is F,FT];exact(EV Q hs O).below z
end
theorem pY (a:Ag) (i:Nat):(a.tick.1.fl i).base=(a.fl i).base/\(a.tick.1.fl i).kept.map (·.1)=(a.fl i).kept.map (·.1):=by
 unfold Ag.tick;split;exact⟨rfl,rfl⟩;split;exact⟨rfl,rfl⟩;simp only
 unfold Xf;split;exact⟨rfl,QB _ _ _ _ _⟩;exact⟨rfl,rfl⟩
