/-
  Part 8 of a proof.
-/
import Derived.Maps.AppendAt
import Derived.Sort.CutIn
import Derived.Test.YtamafdcnbcoegabGreatOa7
set_option maxRecDepth 100000
set_option maxHeartbeats 40000000
namespace Go.Proofs.YtamafdcnbcoegabGreat
attribute [local simp, local go_sem] Ev Ep Ei Eb Et Ej Ea En Er Es
open Qb Mq
abbrev yM:= @List.mem_iff_getElem?
abbrev Gs:= @List.mem_map_of_mem
abbrev uA:= @Go.callsIn_wide
abbrev Lk:= @List.filter_cons_of_pos
abbrev Ll:= @List.filter_cons_of_neg
abbrev Lm:= @List.range_succ_eq_map
abbrev Ln:= @List.filter_congr
open Go.RowKit Go.Proofs.Tryz
structure DK where
 A:Nat->AD->Prop
 S:Nat->AD->Prop
 upA:∀ {n m:Nat} {t:AD},n<=m->A n t->A m t
 upS:∀ {n m:Nat} {t:AD},n<=m->S n t->S m t
def Qx (K:DK) (B D n:Nat) (x:World) (F:Nat):Prop:=
 ∃A G H I hs z ls,Qr B n A x F G H I hs z ls/\JG D F G H I (z++ls)/\(∀t∈z,K.A n t)/\∀t∈ls,K.S n t
theorem Qr.mono {B n m:Nat} {A:Nat->Nat->Prop} {x:World} {z:Nat} {F G H:Value} {hs:List Nat} {I ls:List AD} (S:Qr B n A x z F G H hs I ls) (h:n<=m):Qr B m A x z F G H hs I ls:=
 ⟨z26 S.hn h,S.wat,S.Yj,S.Vu,S.sixA,S.sixS,S.each,S.apart,S.us,S.asu,S.ssu,S.usB,S.bx,S.a2⟩
section
variable {K:DK} {B D n m:Nat} {x y:World} {wb:Nat}
theorem Qx.mono (h:Qx K B D n x wb) (z:n<=m):Qx K B D m x wb:=by
 obtain⟨A,G,H,I,hs,J,ls,S,M,Q,V⟩:=h;exact⟨A,G,H,I,hs,J,ls,S.mono z,M,λt F=>K.upA z (Q t F),λt F=>K.upS z (V t F)⟩
theorem Qx.below (h:Qx K B D n x wb) (hb:El x y):Qx K B D n y wb:=by
 obtain⟨A,z,F,G,hs,H,ls,S,I,J,M⟩:=h;exact⟨A,z,F,G,hs,H,ls,S.below hb,I,J,M⟩
theorem Qx.size (h:Qx K B D n x wb):Qx K B x.heap.size n x wb:=by
 obtain⟨A,z,F,G,hs,H,ls,S,M,I,J⟩:=h;exact⟨A,z,F,G,hs,H,ls,S,S.bnd,I,J⟩
theorem Qx.looks (h:Qx K B D n x wb):
  Cp 62 #[C' wb] x λr w'=>Rr r (.bool true)/\Qx K B D n w' wb/\El x w':=by
 have h0:=h;obtain⟨A,F,G,z,hs,H,ls,S,_⟩:=h;refine(xA A x wb _ _ z hs S.wat).mono ?_;rintro r w' ⟨rfl,k,rfl⟩;exact⟨rfl,h0.below (z36 (z11 _ _) _),z36 (z11 _ _) _⟩
end
section
variable {B D n N:Nat} {A:Nat->Nat->Prop} {x y:World} {wb:Nat} {asv ssv hv:Value} {hs:List Nat} {la ls:List AD}
variable{w:Nat}
theorem Qr.noneOf (S:Qr B n A x wb asv ssv hv hs la ls) (z:x.heap.size<=w):QA wb asv ssv hv (la++ls) w:=
 ⟨λh=>by have:=S.wat.us_lt w h;omega,λh=>by have:=(z14 S.Yj w h).2;omega,λh=>by have:=(z14 S.Vu w h).2;omega,λi u hu h=>by have:=u.lt (S.each i u hu) w h;omega⟩
theorem Qr.mine (S:Qr B n A x wb asv ssv hv hs la ls) (z:x.heap.size<=w):B<=w/\UE A wb asv ssv hv (la++ls) w:=
 ⟨z26 S.bx z,S.noneOf z,λo h=>by have:=(S.a2 w o h).1;omega⟩
theorem Qr.keep (S:Qr B n A x wb asv ssv hv hs la ls) {F:Value} {M:List Nat} {E2:Nat->Prop} (G:∀k,E2 k->QA wb asv ssv hv (la++ls) k) (J:Far (λk=>E2 k\/Us wb hv k) x y) (L:Loc x hv F) (aa:M.length<=N)
  (W:Jm (λb o=>(b < y.heap.size/\¬Us wb F b)/\(A b o\/E2 b\/x.heap.size<=b)) y wb asv ssv F M):
  Qr B N (λb o=>(b < y.heap.size/\¬Us wb F b)/\(A b o\/E2 b\/x.heap.size<=b)) y wb asv ssv F M la ls:=by
 have V:=λk h=>(z14 S.Yj k h).2;have Y:=λk h=>(z14 S.Vu k h).2;have Z:∀ (j:Nat) (u:AD),(la++ls)[j]? =some u->∀k,u.In k->k < x.heap.size:=λj u hu=>u.lt (S.each j u hu);have Q:∀k,k < x.heap.size->¬Us wb hv k->¬Us wb F k:=by rintro k H h (e|e);exact h (.inl e);rcases L with z|z|⟨g',z,ab⟩;rw[z]at e;cases e;exact h (.inr (z ▸ e));rw[z]at e;injection e with e;omega
 refine⟨aa,W,?_,?_,S.sixA,S.sixS,?_,S.apart,?_,?_,?_,?_,z26 S.bx J.size,?_⟩;refine J.own S.Yj (λg I=>?_);rintro(e|e);exact(G g e).2.1 I;exact(S.asu g I).2.1 e;refine J.own S.Vu (λg I=>?_);rintro(e|e);exact(G g e).2.2.1 I;exact(S.ssu g I).2 e;intro j u hu;refine u.far (S.each j u hu) J ?_;rintro k H (e|e);exact(G k e).2.2.2 j u hu H;exact(S.us j u hu k H).2.1 e;intro j u hu k H;have h:=S.us j u hu k H;exact⟨h.1,Q k (Z j u hu k H) h.2.1,h.2.2⟩;intro k h;have h1:=S.asu k h;exact⟨h1.1,Q k (V k h) h1.2.1,h1.2.2⟩;intro k h;have h1:=S.ssu k h;exact⟨h1.1,Q k (Y k h) h1.2⟩;rintro k (e|e);exact S.usB k (.inl e);rcases L with z|z|⟨g',z,ab⟩;rw[z]at e;cases e;exact S.usB k (.inr (z ▸ e));rw[z]at e;injection e with e;have:=S.bx;omega;rintro b o ⟨⟨h1,h2⟩,h3⟩;refine⟨h1,h2,λe=>?_,λe=>?_,λj u hu hb=>?_⟩;rcases h3 with h3|h3|h3;exact(S.a2 b o h3).2.2.1 e;exact(G b h3).2.1 e;have:=V b e;omega;rcases h3 with h3|h3|h3;exact(S.a2 b o h3).2.2.2.1 e;exact(G b h3).2.2.1 e;have:=Y b e;omega;rcases h3 with h3|h3|h3;exact(S.a2 b o h3).2.2.2.2 j u hu hb;exact(G b h3).2.2.2 j u hu hb;have:=Z j u hu b hb;omega
theorem Qr.pushA {X w1:World} {v1:Value} (S:Qr B n A x wb asv ssv hv hs la ls) (M:JG D wb asv ssv hv (la++ls)) (au:la.length < 6) (hb:El x X) (Q:App X w1 asv v1) (z:AD)
  (ab:w1.ownsRow 0 164 1 v1 (la.map (λz=>C' z.q)++[C' z.q]).length (la.map (λz=>C' z.q)++[C' z.q])) (V:z.Is X) (I:∀k,z.In k->B<=k/\UE A wb asv ssv hv (la++ls) k):
  Qr B n A (w1.setCell ⟨wb,0,none⟩ v1) wb v1 ssv hv hs (la++[z]) ls/\Far (λk=>B<=k/\k < D) x (w1.setCell ⟨wb,0,none⟩ v1)/\Far (λk=>k=wb\/asv.ownBlock=some k) x (w1.setCell ⟨wb,0,none⟩ v1):=by
 have av:=λk h=>(z14 S.Yj k h).2;have ac:=λk h=>(z14 S.Vu k h).2;have ax:=z12 S.wat.blk;have ad:=z.lt V;have ah:asv.ownBlock≠some wb:=λe=>(S.asu wb e).2.1 (.inl rfl);have Y:=BU Q.grown;have ai:=T' w1 wb 0 v1;have Z:Far (λk=>k=wb\/asv.ownBlock=some k) X (w1.setCell ⟨wb,0,none⟩ v1):=(Y.mono (E':=λk=>k=wb\/asv.ownBlock=some k) (λ_ _ h=>.inr h)).trans ai (λ_ _ h=>.inl h);have H:Far (λk=>k=wb\/asv.ownBlock=some k) x (w1.setCell ⟨wb,0,none⟩ v1):=(I' (E:=λk=>k=wb\/asv.ownBlock=some k) hb).trans Z Ih;have J:∀g,v1.ownBlock=some g->asv.ownBlock=some g\/X.heap.size<=g:=by intro g F;rcases Q.where_ with h|⟨_,g',h,ay⟩;exact .inl (h ▸ F);rw[h]at F;injection F with F;exact .inr (by omega)
 have aa:Eh w1 wb #[asv,ssv,hv] 91:=Y.blk ((fbF hb).blk S.wat.blk (λh=>h)) ah;have aj:(w1.setCell ⟨wb,0,none⟩ v1).heap[wb]? =some (.cells #[v1,ssv,hv] 91 (0,0)):=by have:=AA (j:=0) (v:=v1) aa;simpa using this
 have ak:(w1.setCell ⟨wb,0,none⟩ v1).ownsRow 0 164 1 v1 (la++[z]).length ((la++[z]).map λz=>C' z.q):=by have:=EK (u:=v1) (j:=0) ab aa (by decide);simpa using this
 have az:=hb.size;have ao:z.Is (w1.setCell ⟨wb,0,none⟩ v1):=z.far V Z (λk G=>by rintro(e|e);exact(I k G).2.1.1 (.inl e);exact(I k G).2.1.2.1 e);refine⟨S.moreCore z la.length (λj=>if j < la.length then j else j - 1) ?_ ?_ (H.mono (λk _ h=>h.elim .inl (λh=>.inr (.inl h)))) aj ak ?_ (by simp;omega) S.sixS (λg F=>(J g F).imp id (by omega)) (λg F=>.inl F) ?_ ao ?_,H.mono (λk _ e=>?_),H⟩
 .intro j u hu;rw[z39]at hu;by_cases h1:j < la.length;rw[z44 h1]at hu;refine .inr ⟨by omega,?_⟩;rw[if_pos h1,z44 h1];exact hu;rw[z27 (by omega)]at hu;by_cases h2:j=la.length;subst h2;simp at hu;exact .inl ⟨rfl,hu.symm⟩;refine .inr ⟨h2,?_⟩;rw[if_neg h1,z27 (by omega)];rw[z27 (by simp;omega)]at hu;rw[<-hu];congr 1;simp;omega
 intro j k hj G aq;by_cases h1:j < la.length;by_cases h2:k < la.length;rw[if_pos h1,if_pos h2];exact aq;rw[if_pos h1,if_neg h2];omega;by_cases h2:k < la.length;rw[if_neg h1,if_pos h2];omega;rw[if_neg h1,if_neg h2];omega;refine H.own S.Vu (λg F=>?_);rintro(e|e);exact(S.ssu g F).2 (.inl e);exact(S.asu g e).2.2 F;intro g F;rcases J g F with h|h;exact(S.asu g h).2.2;intro e;have:=ac g e;omega;intro k G;have h1:=I k G;have h2:=ad k G;refine⟨h1,λe=>?_,h1.2.1.2.2.1⟩;rcases J k e with h|h;exact h1.2.1.2.1 h;omega;rcases e with rfl|e;exact⟨S.usB k (.inl rfl),M k (.inl (.inl rfl))⟩;exact⟨(S.asu k e).1,M k (.inr (.inl e))⟩
theorem Qr.pushS {X w1:World} {v1:Value} (S:Qr B n A x wb asv ssv hv hs la ls) (M:JG D wb asv ssv hv (la++ls)) (aq:ls.length < 6) (hb:El x X) (Q:App X w1 ssv v1) (z:AD)
  (ab:w1.ownsRow 0 176 1 v1 (ls.map (λz=>C' z.q)++[C' z.q]).length (ls.map (λz=>C' z.q)++[C' z.q])) (V:z.Is X) (I:∀k,z.In k->B<=k/\UE A wb asv ssv hv (la++ls) k):
  Qr B n A (w1.setCell ⟨wb,1,none⟩ v1) wb asv v1 hv hs la (ls++[z])/\Far (λk=>B<=k/\k < D) x (w1.setCell ⟨wb,1,none⟩ v1)/\Far (λk=>k=wb\/ssv.ownBlock=some k) x (w1.setCell ⟨wb,1,none⟩ v1):=by
 have ac:=λk h=>(z14 S.Yj k h).2;have au:=λk h=>(z14 S.Vu k h).2;have av:=z12 S.wat.blk;have ad:=z.lt V;have ah:ssv.ownBlock≠some wb:=λe=>(S.ssu wb e).2 (.inl rfl);have Y:=BU Q.grown;have ai:=T' w1 wb 1 v1;have Z:Far (λk=>k=wb\/ssv.ownBlock=some k) X (w1.setCell ⟨wb,1,none⟩ v1):=(Y.mono (E':=λk=>k=wb\/ssv.ownBlock=some k) (λ_ _ h=>.inr h)).trans ai (λ_ _ h=>.inl h);have H:Far (λk=>k=wb\/ssv.ownBlock=some k) x (w1.setCell ⟨wb,1,none⟩ v1):=(I' (E:=λk=>k=wb\/ssv.ownBlock=some k) hb).trans Z Ih;have J:∀g,v1.ownBlock=some g->ssv.ownBlock=some g\/X.heap.size<=g:=by intro g F;rcases Q.where_ with h|⟨_,g',h,ax⟩;exact .inl (h ▸ F);rw[h]at F;injection F with F;exact .inr (by omega)
 have aa:Eh w1 wb #[asv,ssv,hv] 91:=Y.blk ((fbF hb).blk S.wat.blk (λh=>h)) ah;have aj:(w1.setCell ⟨wb,1,none⟩ v1).heap[wb]? =some (.cells #[asv,v1,hv] 91 (0,0)):=by have:=AA (j:=1) (v:=v1) aa;simpa using this
 have ak:(w1.setCell ⟨wb,1,none⟩ v1).ownsRow 0 176 1 v1 (ls++[z]).length ((ls++[z]).map λz=>C' z.q):=by have:=EK (u:=v1) (j:=1) ab aa (by decide);simpa using this
 have ay:=hb.size;have ao:z.Is (w1.setCell ⟨wb,1,none⟩ v1):=z.far V Z (λk G=>by rintro(e|e);exact(I k G).2.1.1 (.inl e);exact(I k G).2.1.2.2.1 e);refine⟨S.moreCore z (la.length+ls.length) (λj=>j) ?_ (λj k _ _ h=>h) (H.mono (λk _ h=>h.elim .inl (λh=>.inr (.inr h)))) aj ?_ ak S.sixA (by simp;omega) (λg F=>.inl F) (λg F=>(J g F).imp id (by omega)) ?_ ao ?_,H.mono (λk _ e=>?_),H⟩;intro j u hu;rw[<-z39]at hu;by_cases h1:j < (la++ls).length;rw[z44 h1]at hu;exact .inr ⟨by simp at h1;omega,hu⟩;rw[z27 (by omega)]at hu;have hj:j=(la++ls).length:=by by_cases h2:j - (la++ls).length < 1;omega;rw[z76 (by simp at h2 ⊢;omega)]at hu;cases hu
 subst hj;simp at hu;exact .inl ⟨by simp,hu.symm⟩;refine H.own S.Yj (λg F=>?_);rintro(e|e);exact(S.asu g F).2.1 (.inl e);exact(S.asu g F).2.2 e;intro g F e;rcases J g e with h|h;exact(S.asu g F).2.2 h;have:=ac g F;omega;intro k G;have h1:=I k G;have h2:=ad k G;refine⟨h1,h1.2.1.2.1,λe=>?_⟩;rcases J k e with h|h;exact h1.2.1.2.2.1 h;omega;rcases e with rfl|e;exact⟨S.usB k (.inl rfl),M k (.inl (.inl rfl))⟩;exact⟨(S.ssu k e).1,M k (.inr (.inr (.inl e)))⟩
end
structure pI (la0 ls0:List AD) (i:Nat) (t:AD) (la ls:List AD):Prop where
 lenA:la.length=la0.length
 lenS:ls.length=ls0.length
 qA:la.map (λit=>C' it.q)=la0.map λit=>C' it.q
 qS:ls.map (λit=>C' it.q)=ls0.map λit=>C' it.q
 here:(la++ls)[i]? =some t
 rest:∀ (j:Nat) (u:AD),j≠i->(la++ls)[j]? =some u->(la0++ls0)[j]? =some u
variable{Y Z bD bI:List AD}{w a q b:Nat}{aK fM:AD}{O:Nat -> Nat}{k:List Nat}{L:Nat -> List (Nat×Value)}{c:Ag}{W:Nat -> List Nat}{bZ:z10×Nat}{p f:World}{y:Value}{C:List Value}{S:List z10}{N:Nat -> Prop}{r:List UInt8}{aC:Array Oper}{J:Oper}{G:Act}{aB:Exit -> Act -> World -> Prop}{bQ:Prop}
theorem iQ (h:Y[w]? =some aK) (F:fM.q=aK.q):(Y.set w fM).map (λz=>C' z.q)=Y.map λz=>C' z.q:=by
 have hl:w < Y.length:=(z25.1 h).1;rw[Kw];apply z93;intro j;rw[z94];split;rename_i e;subst e;rw[z77,h];simp[F,hl];rfl
theorem pI.turn {t':AD} (S:pI Y Z w aK bD bI) (I:t'.q=aK.q):∃z F,pI Y Z w t' z F/\∀ (j:Nat) (u:AD),(z++F)[j]? =some u->(j=w/\u=t')\/(j≠w/\(bD++bI)[j]? =some u):=by
 have G:=S.here;have M:w < (bD++bI).length:=(z25.1 G).1;have key:∀ (z F:List AD),z++F=(bD++bI).set w t'->∀ (j:Nat) (u:AD),(z++F)[j]? =some u->(j=w/\u=t')\/(j≠w/\(bD++bI)[j]? =some u):=by intro z F e j u h;rw[e,z94]at h;split at h;rename_i H;injection h with h;exact .inl ⟨H.symm,h.symm⟩;rename_i H;exact .inr ⟨λQ=>H Q.symm,h⟩
 have J:∀ (z F:List AD),z++F=(bD++bI).set w t'->(bD++bI).set w t'=(bD++bI).set w t'->(z++F)[w]? =some t':=by intro z F e _;rw[e,z94,if_pos rfl,if_pos M]
 by_cases h1:w < bD.length;have e:bD.set w t'++bI=(bD++bI).set w t':=by rw[List.set_append,if_pos h1]
 rw[z44 h1]at G;exact⟨bD.set w t',bI,⟨by simp[S.lenA],S.lenS,(iQ G I).trans S.qA,S.qS,J _ _ e rfl,λj u hj h=>((key _ _ e j u h).elim (λh=>absurd h.1 hj) (λh=>S.rest j u hj h.2))⟩,key _ _ e⟩;have e:bD++bI.set (w - bD.length) t'=(bD++bI).set w t':=by rw[List.set_append,if_neg h1]
 rw[z27 (by omega)]at G;exact⟨bD,bI.set (w - bD.length) t',⟨S.lenA,by simp[S.lenS],S.qA,(iQ G I).trans S.qS,J _ _ e rfl,λj u hj h=>((key _ _ e j u h).elim (λh=>absurd h.1 hj) (λh=>S.rest j u hj h.2))⟩,key _ _ e⟩
def Qm (B D N:Nat) (J:Nat->Prop) (w x:World) (F:Nat) (G H:Value) (M Q:List AD) (i:Nat) (t:AD):Prop:=
 ∃A I hs z ls,pI M Q i t z ls/\Qr B N A x F G H I hs z ls/\Far (λk=>B<=k/\k < D) w x/\(∀k,(Us F I k\/G.ownBlock=some k\/H.ownBlock=some k\/∃ (i:Nat) (u:AD),(z++ls)[i]? =some u/\u.In k)->k < D\/w.heap.size<=k)/\
  ∀k,J k->UE A F G H I (z++ls) k/\k < x.heap.size/\w.heap.size<=k
section
variable {B D N:Nat} {M:Nat->Prop} {A:Nat->Nat->Prop} {w x y:World} {wb:Nat} {asv ssv hv:Value} {hs:List Nat} {la0 ls0:List AD} {i:Nat} {t t':AD}
theorem Qm.start (S:Qr B N A w wb asv ssv hv hs la0 ls0) (z:JG D wb asv ssv hv (la0++ls0)) (hi:(la0++ls0)[i]? =some t):Qm B D N (λ_=>False) w w wb asv ssv la0 ls0 i t:=
 ⟨A,hv,hs,la0,ls0,⟨rfl,rfl,rfl,rfl,hi,λ_ _ _ h=>h⟩,S,Far.refl _ _,λk h=>.inl (z k h),λ_ h=>h.elim⟩
theorem Qm.is (z:Qm B D N M w x wb asv ssv la0 ls0 i t):t.Is x:=by
 obtain⟨A,hv,hs,F,ls,L,S,_⟩:=z;exact S.each i t L.here
theorem Qm.below {M':Nat->Prop} (F:Qm B D N M w x wb asv ssv la0 ls0 i t) (hb:El x y) (G:∀k,M' k->M k\/(x.heap.size<=k/\k < y.heap.size)):Qm B D N M' w y wb asv ssv la0 ls0 i t:=by
 obtain⟨A,hv,hs,H,ls,L,S,z,O,I⟩:=F;refine⟨A,hv,hs,H,ls,L,S.below hb,z.trans (fbF hb) (λ_ _ h=>h.elim),O,λk J=>?_⟩;have Q:=hb.size;have V:=z.size;rcases G k J with h|⟨h1,h2⟩;have:=I k h;exact⟨this.1,by omega,this.2.2⟩;exact⟨(S.mine h1).2,h2,by omega⟩
theorem Qm.held {E:Nat->Prop} (z:Qm B D N M w x wb asv ssv la0 ls0 i t) (F:Far E x y) (G:∀k,E k->t.In k):∀k,M k->y.heap[k]? =x.heap[k]? :=by
 obtain⟨A,hv,hs,J,ls,L,S,_,O,H⟩:=z;intro k I;have h:=H k I;exact F.rest k h.2.1 (λe=>h.1.1.2.2.2 i t L.here (G k e))
theorem Qm.turnM {E M':Nat->Prop} (aq:Qm B D N M w x wb asv ssv la0 ls0 i t) (au:t'.q=t.q) (Z:Far E x y) (av:∀k,E k->t.In k) (ax:t'.Is y) (J:∀k,t'.In k->t.In k\/x.heap.size<=k) (ay:∀k,M' k->M k\/(x.heap.size<=k/\k < y.heap.size/\¬t'.In k)):Qm B D N M' w y wb asv ssv la0 ls0 i t':=by
 obtain⟨A,hv,hs,ah,ls,L,S,ab,O,az⟩:=aq;obtain⟨aA,aB,H,G⟩:=L.turn au;have V:=S.us i t L.here;have Y:Far t.In x y:=Z.mono (λk _ h=>av k h);have aH:=S.wat.us_lt;have W:Jm A y wb asv ssv hv hs:=S.wat.far Y (λk hu F=>(V k F).2.1 hu) (λb o h=>⟨(S.a2 b o h).1,(S.a2 b o h).2.2.2.2 i t L.here⟩);have Q:∀k,(Us wb hv k\/asv.ownBlock=some k\/ssv.ownBlock=some k\/∃ (i:Nat) (u:AD),(ah++ls)[i]? =some u/\u.In k)->k < x.heap.size:=S.bnd;have aC:∀k,t'.In k->x.heap.size<=k->B<=k/\¬Us wb hv k/\asv.ownBlock≠some k/\ssv.ownBlock≠some k:=λk _ z=>by have:=S.bx;exact⟨by omega,λe=>by have:=Q k (.inl e);omega,λe=>by have:=Q k (.inr (.inl e));omega,λe=>by have:=Q k (.inr (.inr (.inl e)));omega⟩
 have aD:∀k,t'.In k->B<=k/\¬Us wb hv k/\asv.ownBlock≠some k/\ssv.ownBlock≠some k:=λk z=>(J k z).elim (V k) (λh=>aC k z h);have aa:∀ (j:Nat) (u:AD),j≠i->(ah++ls)[j]? =some u->∀k,u.In k->k < x.heap.size/\¬t.In k:=λj u hj hu k z=>⟨u.lt (S.each j u hu) k z,λe=>S.apart j i u t hu L.here hj k z e⟩;refine⟨A,hv,hs,aA,aB,H,⟨S.hn,W,?_,?_,by rw[H.lenA,<-L.lenA];exact S.sixA,by rw[H.lenS,<-L.lenS];exact S.sixS,?_,?_,?_,S.asu,S.ssu,S.usB,z26 S.bx Z.size,?_⟩,?_,?_,?_⟩;rw[H.lenA,<-L.lenA,H.qA,<-L.qA];exact Y.own S.Yj (λg I F=>(V g F).2.2.1 I);rw[H.lenS,<-L.lenS,H.qS,<-L.qS];exact Y.own S.Vu (λg I F=>(V g F).2.2.2 I);intro j u hu;rcases G j u hu with ⟨rfl,rfl⟩|⟨hj,hu⟩;exact ax;exact u.far (S.each j u hu) Y (λk z F=>(aa j u hj hu k z).2 F);intro j k u v hu ai aj g I ac;rcases G j u hu with ⟨rfl,rfl⟩|⟨hj,ak⟩;rcases G k v ai with ⟨rfl,rfl⟩|⟨z,ad⟩;exact aj rfl;have h1:=aa k v z ad g ac;exact(J g I).elim h1.2 (λh=>by omega);rcases G k v ai with ⟨rfl,rfl⟩|⟨z,ad⟩;have h1:=aa j u hj ak g I;exact(J g ac).elim h1.2 (λh=>by omega);exact S.apart j k u v ak ad aj g I ac;intro j u hu k z;rcases G j u hu with ⟨rfl,rfl⟩|⟨hj,hu⟩;exact aD k z;exact S.us j u hu k z;intro b o h;have h1:=S.a2 b o h;refine⟨z21 h1.1 Z.size,h1.2.1,h1.2.2.1,h1.2.2.2.1,λj u hu hb=>?_⟩;rcases G j u hu with ⟨rfl,rfl⟩|⟨hj,hu⟩;exact(J b hb).elim (h1.2.2.2.2 j t L.here) (λh=>by have:=h1.1;omega);exact h1.2.2.2.2 j u hu hb;refine ab.trans Y (λk z F=>?_);have h1:=O k (.inr (.inr (.inr ⟨i,t,L.here,F⟩)));exact⟨(V k F).1,by omega⟩;rintro k (h|h|h|⟨j,u,hu,z⟩);exact O k (.inl h);exact O k (.inr (.inl h));exact O k (.inr (.inr (.inl h)));rcases G j u hu with ⟨rfl,rfl⟩|⟨hj,hu⟩;exact(J k z).elim (λh=>O k (.inr (.inr (.inr ⟨_,t,L.here,h⟩)))) (λh=>.inr (by have:=ab.size;omega));exact O k (.inr (.inr (.inr ⟨j,u,hu,z⟩)));intro k z;rcases ay k z with z|⟨aE,aF,aG⟩;have h:=az k z;refine⟨⟨⟨h.1.1.1,h.1.1.2.1,h.1.1.2.2.1,λj u hu hj=>?_⟩,h.1.2⟩,z21 h.2.1 Z.size,h.2.2⟩;rcases G j u hu with ⟨rfl,rfl⟩|⟨ao,hu⟩;exact(J k hj).elim (h.1.1.2.2.2 _ t L.here) (λe=>by have:=h.2.1;omega);exact h.1.1.2.2.2 j u hu hj;refine⟨⟨⟨λe=>by have:=Q k (.inl e);omega,λe=>by have:=Q k (.inr (.inl e));omega,λe=>by have:=Q k (.inr (.inr (.inl e)));omega,λj u hu hj=>?_⟩,λo e=>by have:=(S.a2 k o e).1;omega⟩,aF,z26 ab.size aE⟩;rcases G j u hu with ⟨rfl,rfl⟩|⟨ao,hu⟩;exact aG hj;have:=(aa j u ao hu k hj).1;omega
theorem Qm.turn {E:Nat->Prop} (z:Qm B D N M w x wb asv ssv la0 ls0 i t) (F:t'.q=t.q) (G:Far E x y) (H:∀k,E k->t.In k) (I:t'.Is y) (J:∀k,t'.In k->t.In k\/x.heap.size<=k):Qm B D N M w y wb asv ssv la0 ls0 i t':=z.turnM F G H I J (λ_ h=>.inl h)
theorem Qm.mlt (z:Qm B D N M w x wb asv ssv la0 ls0 i t) {k:Nat} (h:M k):k < x.heap.size:=by
 obtain⟨_,_,_,_,_,_,_,_,_,F⟩:=z;exact(F k h).2.1
theorem Qm.base (G:Qm B D N M y x wb asv ssv la0 ls0 i t) (hb:El w y):Qm B D N M w x wb asv ssv la0 ls0 i t:=by
 obtain⟨A,hv,hs,H,ls,L,S,I,O,z⟩:=G;have F:=hb.size;exact⟨A,hv,hs,H,ls,L,S,(I' (E:=λk=>B<=k/\k < D) hb).trans I Ih,λk h=>(O k h).imp id (λh=>z26 F h),λk h=>⟨(z k h).1,(z k h).2.1,z26 F (z k h).2.2⟩⟩
end
def GM (z F fv:Value) (k:Nat):Prop:=z.ownBlock=some k\/F.ownBlock=some k\/fv.ownBlock=some k
section
variable {B D N:Nat} {M:Nat->Prop} {w x:World} {wb:Nat} {asv ssv:Value} {la0 ls0:List AD} {i:Nat} {t:AD}
theorem Qm.keepF (au:Qm B D N M w x wb asv ssv la0 ls0 i t) (z F fv:Value) (V Y:List Value) (l:List UInt8) (av:x.ownsRow 0 9 1 z V.length V) (ax:x.ownsRow 0 5 1 F l.length (bv l)) (ay:x.ownsRow 0 48 1 fv Y.length Y)
  (J:∀g,GM z F fv g->M g) (aM:N+4<=17592186044416) (az:l.length<=140737488353990) (z3:V.length<=900) (z4:Y.length<=900):
  Cp 91 #[C' wb,C' x.heap.size] (x.alloc (.cells #[z,F,fv,Ej 0,.string ⟨#[]⟩,.string ⟨#[]⟩] 160)) λr y=>Rr r (.tuple #[])/\
   Qm B D (N+4) (λk=>M k/\¬GM z F fv k) w y wb asv ssv la0 ls0 i t/\(∀k,M k->¬GM z F fv k->y.heap[k]? =x.heap[k]?)/\Far (λk=>¬M k\/GM z F fv k) x y:=by
 obtain⟨A,H,hs,aa,ls,L,S,ac,O,I⟩:=au;have ad:El x (x.alloc (.cells #[z,F,fv,Ej 0,.string ⟨#[]⟩,.string ⟨#[]⟩] 160)):=bna;have ab:=S.below ad;have aN:=S.hn;have aO:=ac.size;have aP:=S.wat.us_lt;have aA:QA wb asv ssv H (aa++ls) x.heap.size:=S.noneOf (z16 _);refine(IV A _ wb x.heap.size asv ssv H z F fv hs V Y l ab.wat (z19 x _) (z52 av _) (z52 ax _) (z52 ay _) (λb o hb=>⟨(ab.a2 b o hb).1,?_⟩) (by omega) az z3 z4).mono ?_;rintro(e|e|e);have:=(S.a2 b o hb).1;omega;exact(I b (J b e)).1.2 o hb;exact(S.a2 b o hb).2.1 e;rintro r ah ⟨rfl,ai,aB,aQ,W,aC,aj⟩;have aD:∀k,(k=x.heap.size\/GM z F fv k)->QA wb asv ssv H (aa++ls) k:=by rintro k (rfl|h);exact aA;exact(I k (J k h)).1.1
 have ak:Far (λk=>(k=x.heap.size\/GM z F fv k)\/Us wb H k) (x.alloc (.cells #[z,F,fv,Ej 0,.string ⟨#[]⟩,.string ⟨#[]⟩] 160)) ah:=aC.mono (by rintro k _ (h|h|h);exact .inl (.inl h);exact .inl (.inr h);exact .inr h);have aE:=ab.keep (N:=N+4) aD ak aj (by omega) (W.mono (λb o ⟨h1,h2⟩=>⟨h1,by rcases h2 with h|h|h|h;exact .inl h;exact .inr (.inl (.inl h));exact .inr (.inl (.inr h));exact .inr (.inr h)⟩));have aR:(x.alloc (.cells #[z,F,fv,Ej 0,.string ⟨#[]⟩,.string ⟨#[]⟩] 160)).heap.size=x.heap.size+1:=by simp
 have Z:Far (λk=>GM z F fv k\/Us wb H k) x ah:=(I' (E:=λk=>GM z F fv k\/Us wb H k) ad).trans ak (by rintro k G ((h|h)|h);omega;exact .inl h;exact .inr h);have ao:∀k,k < x.heap.size->Us wb ai k->Us wb H k:=by rintro k G (h|h);exact .inl h;rcases aj with Q|Q|⟨g',Q,aS⟩;rw[Q]at h;cases h;exact .inr (Q ▸ h);rw[Q]at h;injection h with h;omega
 refine⟨rfl,⟨_,ai,aB,aa,ls,L,aE,ac.trans Z ?_,?_,?_⟩,λk G hn=>Z.rest k (I k G).2.1 (λe=>e.elim hn (I k G).1.1.1),Z.mono (λk _ h=>h.elim .inr (λh=>.inl (λJ=>(I k J).1.1.1 h)))⟩;rintro k G (h|h);have:=(I k (J k h)).2.2;omega;have:=O k (.inl h);exact⟨S.usB k h,by omega⟩;rintro k (h|h);by_cases G:k < x.heap.size;exact O k (.inl (ao k G h));exact .inr (by omega);exact O k (.inr h);rintro k ⟨G,aF⟩;obtain⟨⟨⟨aG,aH,aI,aJ⟩,aK⟩,aq,aL⟩:=I k G;refine⟨⟨⟨λh=>aG (ao k aq h),aH,aI,aJ⟩,?_⟩,z21 aq Z.size,aL⟩;rintro o ⟨_,h|h|h⟩;exact aK o h;rcases h with h|h;omega;exact aF h;omega
theorem Qm.keep (I:Qm B D N M w x wb asv ssv la0 ls0 i t) (z F fv:Value) (G H:List Value) (l:List UInt8) (J:x.ownsRow 0 9 1 z G.length G) (Q:x.ownsRow 0 5 1 F l.length (bv l)) (V:x.ownsRow 0 48 1 fv H.length H)
  (Y:∀g,GM z F fv g->M g) (Z:N+4<=17592186044416) (aa:l.length<=140737488353990) (z3:G.length<=900) (z4:H.length<=900):
  Cp 91 #[C' wb,C' x.heap.size] (x.alloc (.cells #[z,F,fv,Ej 0,.string ⟨#[]⟩,.string ⟨#[]⟩] 160)) λr y=>Rr r (.tuple #[])/\
   Qm B D (N+4) (λk=>M k/\¬GM z F fv k) w y wb asv ssv la0 ls0 i t/\∀k,M k->¬GM z F fv k->y.heap[k]? =x.heap[k]? :=by
 refine(I.keepF z F fv G H l J Q V Y Z aa z3 z4).mono ?_;rintro r y ⟨h1,h2,h3,_⟩;exact⟨h1,h2,h3⟩
theorem Qm.mono {z:Nat} (F:Qm B D N M w x wb asv ssv la0 ls0 i t) (h:N<=z):Qm B D z M w x wb asv ssv la0 ls0 i t:=by
 obtain⟨A,G,hs,H,ls,L,S,r⟩:=F;exact⟨A,G,hs,H,ls,L,S.mono h,r⟩
theorem Qm.done {K:DK} {n:Nat} (G:Qm B D N M w x wb asv ssv la0 ls0 i t) (H:∀u∈la0,K.A n u) (I:∀u∈ls0,K.S n u) (hn:n<=N) (F:(i < la0.length->K.A N t)/\(la0.length<=i->K.S N t)):
  Qx K B x.heap.size N x wb/\Far (λk=>B<=k/\k < D) w x:=by
 obtain⟨A,J,hs,z,ls,L,S,Q,O,Y⟩:=G;refine⟨⟨A,asv,ssv,J,hs,z,ls,S,S.bnd,λu hu=>?_,λu hu=>?_⟩,Q⟩;obtain⟨j,hj⟩:=yM.1 hu;have V:j < z.length:=(z25.1 hj).1;have h2:(z++ls)[j]? =some u:=by rw[z44 V];exact hj
 have hl:=L.lenA;by_cases e:j=i;subst e;rw[L.here]at h2;injection h2 with h2;exact h2 ▸ F.1 (by omega);have h3:=L.rest j u e h2;rw[z44 (by omega)]at h3;exact K.upA hn (H u (z65 h3));obtain⟨j,hj⟩:=yM.1 hu;have h2:(z++ls)[z.length+j]? =some u:=by rw[z27 (by omega)];simpa using hj
 have hl:=L.lenA;by_cases e:z.length+j=i;rw[e,L.here]at h2;injection h2 with h2;exact h2 ▸ F.2 (by omega);have h3:=L.rest _ u e h2;rw[z27 (by omega)]at h3;exact K.upS hn (I u (z65 h3))
end
theorem yN (z:Jv c w O k L W) (hi:a < 3) (M:(c.fl a).kept[q]? =some bZ) (V:b≠0):
  Jv {c with fl:=upd c.fl a {c.fl a with kept:=(c.fl a).kept.set q (bZ.1,b)}} w O k (λj=>if j=a * 3+1 then CY (L (a * 3+1)) ((c.fl a).base+1+q) (MA b)else L j) W:=by
 obtain⟨f2,F⟩:=exq (({c.fl a with kept:=(c.fl a).kept.set q (bZ.1,b)}:Js));have hb:f2.base=(c.fl a).base:=by rw[F]
 have Y:f2.held=(c.fl a).held:=by rw[F]
 have H:f2.kept=(c.fl a).kept.set q (bZ.1,b):=by rw[F]
 have hl:f2.kept.length=(c.fl a).kept.length:=by rw[H];simp
 have Q:q < (c.fl a).kept.length:=(z25.1 M).1;rw[<-F];clear F;have G:∀j,upd c.fl a f2 j=if j=a then f2 else c.fl j:=λj=>rfl
 refine⟨z.ep,λj hj=>?_,λj hj=>?_,λj hj=>?_,λj hj n=>?_,λj hj=>?_,λj hj n=>?_,λj hj=>?_,λj hj=>?_,z.nd,z.lt,?_⟩;show O j=(upd c.fl a f2 j).base;rw[G];by_cases e:j=a;rw[if_pos e,hb,e];exact z.bs a hi;rw[if_neg e];exact z.bs j hj;show(W j).length=(upd c.fl a f2 j).kept.length;rw[G];by_cases e:j=a;rw[if_pos e,hl,e];exact z.pn a hi;rw[if_neg e];exact z.pn j hj;show(if j * 3=a * 3+1 then _ else L (j * 3))=BG (upd c.fl a f2 j).base (upd c.fl a f2 j).kept (W j);rw[if_neg (by omega),G];by_cases e:j=a;rw[if_pos e,hb,e,z.kp a hi];refine MR _ _ _ _ ?_;rw[H,Kw];refine(z93 λn=>?_).symm;rw[z94];by_cases I:q=n;subst I;rw[if_pos rfl,if_pos (by simpa using Q),z77,M];rfl;rw[if_neg I];rw[if_neg e];exact z.kp j hj;show AV (if j * 3+1=a * 3+1 then _ else L (j * 3+1)) _=GH (upd c.fl a f2 j) n;rw[G];by_cases e:j=a;subst e;rw[if_pos rfl,if_pos rfl,OP];have h0:=z.sn j hj n;unfold WE;by_cases I:n=(c.fl j).base+1+q;rw[if_pos (by omega)];unfold GH;rw[if_neg (by omega),hb,H,show n - (c.fl j).base - 1=q by omega,z94,if_pos rfl,if_pos Q];show _=if b=0 then none else some (MA b)
 rw[if_neg V];rw[if_neg (by omega),h0];unfold GH;rw[hb];by_cases hn:n<=(c.fl j).base;rw[if_pos hn,if_pos hn];rw[if_neg hn,if_neg hn,H,z94,if_neg (by omega)];rw[if_neg (by omega),if_neg e];exact z.sn j hj n;show YT (if j * 3+1=a * 3+1 then _ else L (j * 3+1));by_cases e:j=a;subst e;rw[if_pos rfl];intro y J;rcases RP J with rfl|J;exact⟨b,rfl⟩;exact z.si j hj y J;rw[if_neg (by omega)];exact z.si j hj;show(AV (if j * 3+2=a * 3+1 then _ else L (j * 3+2)) _).isSome=(upd c.fl a f2 j).held.contains n;rw[if_neg (by omega),G];by_cases e:j=a;rw[if_pos e,Y,e];exact z.hd a hi n;rw[if_neg e];exact z.hd j hj n;show kV (if j * 3+2=a * 3+1 then _ else L (j * 3+2));rw[if_neg (by omega)];exact z.hu j hj;show(if j * 3+2=a * 3+1 then _ else L (j * 3+2)).length<=3;rw[if_neg (by omega)];exact z.hl j hj;have h:=z.sum;have h2:=RV (a:=c) hi f2;omega
section
variable {w x:World} {p:Nat} {g:Nat->Nat} {tk:Nat} {wel fen:Bool} {free:List Nat} {sh sh2:Nat->List (Nat×Value)} {st:Stv} {c c2:Av}
theorem Gt {i:Nat} {J:List (Nat×Value)} (H:Ja w p g tk wel fen free sh st c) (h:EC w x p (4+i * 2) 116 c.arr (c.nv i) (c.mv i) J)
  (G:Ja x p g tk wel fen free sh2 st c2):∀j,j < 9->j≠i->c2.nv j=c.nv j/\c2.mv j=c.mv j:=by
 obtain⟨⟨nv',mv',S,_,_⟩,_⟩:=h;have hb:=S.blk;rw[G.ks.blk]at hb;injection hb with hb;injection hb with hb _ _;intro j hj M;have I:∀q,q≠4+i * 2->q≠4+i * 2+1->c2.arr[q]? =c.arr[q]? :=λq h1 h2=>by rw[hb,z18 (by omega),z18 (by omega)]
 have z:=G.ks.an j hj;have F:=G.ks.am j hj;rw[I _ (by omega) (by omega),H.ks.an j hj]at z;rw[I _ (by omega) (by omega),H.ks.am j hj]at F;exact⟨by injection z with z;exact z.symm,by injection F with F;exact F.symm⟩
end
section
variable {w:World} {p:Nat} {g:Nat->Nat} {free:List Nat} {sh:Nat->List (Nat×Value)} {st:Stv} {c:Av} {a:Ag} {pl:Nat->List Nat}
theorem lD (n:Nat) (hn:n<=2147483647):Qb.proper 1 n 0 0 ⟨#[]⟩=true:=by
 simp[Qb.proper,Qb.isNum,ByteArray.size];omega
end
def BI (a:Ag) (i tk k:Nat):Ag:={a with fl:=upd a.fl i {a.fl i with kept:=(Mq.sendTo a.Qa i (a.fl i) tk k).1}}
theorem JU (a:Ag) (i tk k:Nat):(BI a i tk k).fl i={a.fl i with kept:=(Mq.sendTo a.Qa i (a.fl i) tk k).1}:=by
 unfold BI upd;simp
theorem pJ (a:Ag) (i tk:Nat):BI a i tk 0=a:=by
 unfold BI;have:upd a.fl i {a.fl i with kept:=(Mq.sendTo a.Qa i (a.fl i) tk 0).1}=a.fl:=by funext t;unfold upd;split;rename_i e;rw[e];rfl;rfl
 rw[this]
theorem pK (z:q < (c.fl w).kept.length) (hd:Mq.due (c.fl w) a q (c.fl w).kept[q].2=false):BI c w a (q+1)=BI c w a q:=by
 unfold BI;rw[IT z hd]
theorem ZE {tk:Nat} (z:a < (c.fl w).kept.length):((BI c w tk a).fl w).kept[a]? =some (c.fl w).kept[a]:=by
 rw[JU];show(Mq.sendTo c.Qa w (c.fl w) tk a).1[a]? = _;rw[PQ _ _ _ _ _ _ (z16 _),z17 z]
theorem uB (a:Ag) (i tk k:Nat):((BI a i tk k).fl i).kept.length=(a.fl i).kept.length:=by
 rw[JU];exact BL _ _ _ _ _
theorem uC (a:Ag) (i tk k t j s:Nat):Mq.due ((BI a i tk k).fl i) t j s=Mq.due (a.fl i) t j s:=by
 rw[JU];rfl
theorem VO (a:Ag) (i tk k:Nat):((BI a i tk k).fl i).base=(a.fl i).base:=by rw[JU]
theorem pL (F:Jv (BI c a q b) w O k L W) (hi:a < 3) (z:b < (c.fl a).kept.length) (hd:Mq.due (c.fl a) q b (c.fl a).kept[b].2=true) (G:q≠0):
  Jv (BI c a q (b+1)) w O k (λj=>if j=a * 3+1 then CY (L (a * 3+1)) ((c.fl a).base+1+b) (MA q)else L j) W:=by
 have h:=yN F hi (ZE (tk:=q) z) G;rw[VO]at h;have e:BI c a q (b+1)={BI c a q b with fl:=upd (BI c a q b).fl a {(BI c a q b).fl a with kept:=((BI c a q b).fl a).kept.set b ((c.fl a).kept[b].1,q)}}:=by
  rw[JU];unfold BI;rw[IU z hd];have:∀ (f:Nat->Js) (x y:Js),upd (upd f a x) a y=upd f a y:=λf x y=>by funext t;unfold upd;split <;> rfl
  simp only[this]
 rw[e];exact h
theorem pN (h:q=min 4 (c.fl w).kept.length):BI c w a 4=BI c w a q:=by
 unfold BI;rw[KU (i:=q) (by omega) (by omega)]
def DF (a:Ag) (t s:Nat):Ag:={a with Qf:=t,fl:=Xf a.Qa t a.fl s}
theorem OT (a:Ag) (t s:Nat):(DF a t s).fl s=a.fl s:=by
 unfold DF Xf;simp
theorem pO (a:Ag) (t s:Nat):BI (DF a t s) s t 4=DF a t (s+1):=by
 unfold BI;rw[OT];have:upd (DF a t s).fl s {a.fl s with kept:=(Mq.sendTo (DF a t s).Qa s (a.fl s) t 4).1}=Xf a.Qa t a.fl (s+1):=by
  funext j;unfold upd DF Xf;simp only
  by_cases e:j=s;subst e;rw[if_pos rfl,if_pos (by omega)];rw[if_neg e];by_cases h:j < s;rw[if_pos h,if_pos (by omega)];rw[if_neg h,if_neg (by omega)]
 rw[this];rfl
theorem pP (a:Ag) (t:Nat):DF a t 0={a with Qf:=t}:=by
 unfold DF;have:Xf a.Qa t a.fl 0=a.fl:=by funext j;unfold Xf;rw[if_neg (by omega)]
 rw[this]
theorem iR (z:c.fenced=false) (F:c.Qd=true):c.tick=(DF c (c.Qf+1) 3,Zl c.Qa (c.Qf+1) c.fl 3):=by
 unfold Ag.tick;rw[if_neg (by rw[z];decide),if_neg (by rw[F];decide)];rfl
theorem Qj.apartU {U':Nat->Prop} (h:Qj w p y C S N) (z:∀k,(y.ownBlock=some k\/Vi C C.length k)->¬U' k):Qj w p y C S U':=
 ⟨h.len,h.row,h.each,h.apart,z⟩
structure Zi (w:World) (g0 p i:Nat) (c:Av) (st:Stv) (g:Nat->Nat) (free:List Nat) (pl:Nat->List Nat) (F:List z10) (A:Ag) (W:World):Prop where
 h0:W.heap[g0]? =some (.cells #[Er p 0] 74 (0,0))
 h1:W.heap[g0+1]? =some (.cells #[Ej i] 3 (0,0))
 h3:W.heap[g0+3]? =some (.cells #[Er p (4+i * 6)] 193 (0,0))
 h4:W.heap[g0+4]? =some (.cells #[Er p (4+i * 6)] 197 (0,0))
 h5:W.heap[g0+5]? =some (.cells #[Ej 4] 3 (0,0))
 mid:∃lv fs c' sh,W.heap[g0+2]? =some (.cells #[lv] 32 (0,0))/\Qj (g0+8) W lv fs F (PaU p c')/\Ja W p g A.Qf A.Qd A.fenced free sh st c'/\Jv A st.Qe g free sh pl/\Far (PaU p c) w W/\
  (∀j,PaU p c' j->PaU p c j\/g0+8<=j)/\c'.s=c.s/\c'.rv=c.rv/\c'.nv (i * 3)=c.nv (i * 3)/\c'.mv (i * 3)=c.mv (i * 3)
 sz:g0+8<=W.heap.size
 lo:∀j,PaU p c j->j < g0
 gw:w.heap.size<=g0
section
variable {w W W':World} {g0 p i:Nat} {c:Av} {st:Stv} {g:Nat->Nat} {free:List Nat} {pl:Nat->List Nat} {F:List z10} {A:Ag}
theorem Zi.same2 (h:Zi w g0 p i c st g free pl F A W) (G:oX (g0+6) W W'):Zi w g0 p i c st g free pl F A W':=by
 obtain⟨lv,V,I,sh,Y,J,Z,aa,ab,M,ac,ad,ah,ai⟩:=h.mid;have z:∀k,k≠g0+6->k≠g0+7->W'.heap[k]? =W.heap[k]? :=λk h1 h2=>G.rest k h1 (by omega);have hF:Far (λk=>k=g0+6\/k=g0+7) W W':=⟨G.os,G.tape,G.output,by rw[G.size];exact z16 _,λk _ Q=>z k (λe=>Q (.inl e)) (λe=>Q (.inr e))⟩;have aj:∀k,PaU p I k->¬ (k=g0+6\/k=g0+7):=λk H e=>by rcases M k H with h1|h1;have:=h.lo k h1;omega;omega
 refine⟨(z _ (by omega) (by omega)).trans h.h0,(z _ (by omega) (by omega)).trans h.h1,(z _ (by omega) (by omega)).trans h.h3,(z _ (by omega) (by omega)).trans h.h4,(z _ (by omega) (by omega)).trans h.h5,
  ⟨lv,V,I,sh,(z _ (by omega) (by omega)).trans Y,J.keep (λk H=>?_),Z.far hF aj,aa,ab.trans hF (λk H e=>by have:=h.gw;omega),M,ac,ad,ah,ai⟩,by rw[G.size];exact h.sz,h.lo,h.gw⟩
 have:=(J.lt k H).1;exact z k (by omega) (by omega)
theorem Zi.below (h:Zi w g0 p i c st g free pl F A W) (hb:El W W'):Zi w g0 p i c st g free pl F A W':=by
 obtain⟨lv,I,J,sh,M,H,Q,V,Y,Z,aa,ab,ac,ad⟩:=h.mid;have ah:=h.sz;have z:∀k,k < W.heap.size->W'.heap[k]? =W.heap[k]? :=λk G=>hb.block k G;exact⟨(z _ (by omega)).trans h.h0,(z _ (by omega)).trans h.h1,(z _ (by omega)).trans h.h3,(z _ (by omega)).trans h.h4,(z _ (by omega)).trans h.h5,
  ⟨lv,I,J,sh,(z _ (by omega)).trans M,H.keep (λk G=>z k (H.lt k G).2),Q.below hb,V,Y.trans (I' (E:=PaU p c) hb) Ih,Z,aa,ab,ac,ad⟩,z26 ah hb.size,h.lo,h.gw⟩
theorem Zi.iter (h:Zi w g0 p i c st g free pl F A W) (hi:i < 3):kU W (g0+4) p (4+i * 6) 4 (c.nv (i * 3)) (c.mv (i * 3)) (BG (A.fl i).base (A.fl i).kept (pl i)):=by
 obtain⟨lv,J,M,sh,Q,V,z,I,Y,Z,aa,ab,G,H⟩:=h.mid;have hs:=z.ks.shs (i * 3) (by omega);rw[I.kp i hi,G,H]at hs;refine⟨D' h.h4,D' h.h5,?_,?_,hs⟩;rw[D' z.ks.blk,show 4+i * 6=4+i * 3 * 2 by omega,z.ks.an (i * 3) (by omega),G];rw[D' z.ks.blk,show 4+i * 6+1=4+i * 3 * 2+1 by omega,z.ks.am (i * 3) (by omega),H]
end
section
variable {w W:World} {g0 p i:Nat} {c:Av} {st:Stv} {g:Nat->Nat} {free:List Nat} {pl:Nat->List Nat} {F:List z10} {a:Ag} {tk k:Nat}
theorem Zi.put (h:Zi w g0 p i c st g free pl F (BI a i tk k) W) (hi:i < 3) (Q:k < (a.fl i).kept.length) (hd:Mq.due (a.fl i) tk k (a.fl i).kept[k].2=true) (ah:tk≠0):
  Cp 107 #[Er p (4+i * 6+2),Ej ((a.fl i).base+1+k:Nat),Ej tk] W λr z=>Rr r (.tuple #[])/\Zi w g0 p i c st g free pl F (BI a i tk (k+1)) z/\z.heap[g0+6]? =W.heap[g0+6]? /\z.heap[g0+7]? =W.heap[g0+7]? /\W.heap.size<=z.heap.size/\∀ (j:Nat) (Z:Array Value),W.heap[j]? =some (Obj.cells Z 140 (0,0))->z.heap[j]? =W.heap[j]? :=by
 obtain⟨lv,ai,M,sh,aj,I,J,V,ak,Y,ao,aq,au,av⟩:=h.mid;have ax:(sh (i * 3+1)).length < 1000:=by have h1:=tQ (J.ks.shs (i * 3+1) (by omega)).sorted (V.sn i hi);have h2:=kW (a:=BI a i tk k) hi;have h3:=V.sum;omega
 have aa:=Ck (J.shAt (i:=i * 3+1) (by omega)) ax ((a.fl i).base+1+k) tk;rw[show 4+(i * 3+1) * 2=4+i * 6+2 by omega]at aa;refine aa.mono ?_;rintro r z ⟨rfl,hst⟩;refine⟨rfl,?_⟩;rw[show 4+i * 6+2=4+(i * 3+1) * 2 by omega]at hst;obtain⟨c4,ab,H,ac,v1,ay⟩:=FR J (by omega) hst;have ad:=Gt J hst ab (i * 3) (by omega) (by omega);have aD:∀k,(k=p\/ShU (M.nv (i * 3+1)) (M.mv (i * 3+1)) k)->PaU p M k:=λk Q=>Q.elim (λh=>.inl (.inl h)) (λh=>.inl (.inr (.inr ⟨i * 3+1,by omega,h⟩)));have az:=h.sz;have aA:∀j,g0<=j->j < g0+8->¬PaU p M j:=λj h1 h2 hu=>by rcases Y j hu with h3|h3;have:=h.lo j h3;omega;omega
 have G:∀j,g0<=j->j < g0+8->z.heap[j]? =W.heap[j]? :=λj h1 h2=>H.rest j (by omega) (aA j h1 h2);have aB:=pL V hi Q hd ah;have aC:=(I.keep (x:=z) (λj hj=>H.rest j (I.lt j hj).2 (I.clear j hj))).apartU (U':=PaU p c4) (λj hj hu=>by rcases ac j hu with h3|h3;exact I.clear j hj h3;have:=(I.lt j hj).2;omega);refine⟨?_,G _ (by omega) (by omega),G _ (by omega) (by omega),H.size,λj Z hj=>H.rest j (z12 hj) (GG J hj (by decide) (by decide) (by decide) (by decide) (by decide) (by decide) (by decide))⟩;refine⟨(G _ (by omega) (by omega)).trans h.h0,(G _ (by omega) (by omega)).trans h.h1,(G _ (by omega) (by omega)).trans h.h3,(G _ (by omega) (by omega)).trans h.h4,(G _ (by omega) (by omega)).trans h.h5,
  ⟨lv,ai,c4,_,(G _ (by omega) (by omega)).trans aj,aC,ab,aB,ak.trans H (λj hj hu=>(Y j hu).elim id (λh3=>by have:=h.gw;omega)),λj hu=>?_,v1.trans ao,ay.trans aq,ad.1.trans au,ad.2.trans av⟩,z26 az H.size,h.lo,h.gw⟩
 rcases ac j hu with h3|h3;exact Y j h3;exact .inr (by omega)
end
theorem QB (e s:Nat) (f:Js) (t:Nat):∀k,(Mq.sendTo e s f t k).1.map (·.1)=f.kept.map (·.1)
 |0=>rfl
 |k+1=>by
  have ih:=QB e s f t k;by_cases h:k < f.kept.length
  .cases hd:Mq.due f t k f.kept[k].2 with
   |false=>rw[IT h hd];exact ih
   |true=>
    rw[IU h hd];simp only[List.map_set,ih];refine z93 λn=>?_;rw[z94];by_cases z:k=n
    .subst z;rw[if_pos rfl,if_pos (by simpa using h),z77,z17 h];rfl
    .rw[if_neg z]
  .rw[CI (by omega)];exact ih
def DU (a:Ag) (i tk k:Nat):List z10:=(Mq.sendTo a.Qa i (a.fl i) tk k).2.map λl=>⟨l.toArray⟩
theorem pQ (z:q < (c.fl w).kept.length) (hd:Mq.due (c.fl w) a q (c.fl w).kept[q].2=true):DU c w a (q+1)=DU c w a q++[⟨(Qb.bytes 3 c.Qa w ((c.fl w).base+1+q:Nat) (c.fl w).kept[q].1.data.toList).toArray⟩]:=by
 unfold DU;rw[IU z hd];simp
theorem pR (z:q < (c.fl w).kept.length) (hd:Mq.due (c.fl w) a q (c.fl w).kept[q].2=false):DU c w a (q+1)=DU c w a q:=by
 unfold DU;rw[IT z hd]
theorem pS (h:q=min 4 (c.fl w).kept.length):DU c w a 4=DU c w a q:=by
 unfold DU;rw[KU (i:=q) (by omega) (by omega)]
section
variable {w W:World} {g0 p i:Nat} {c:Av} {st:Stv} {g:Nat->Nat} {free:List Nat} {sh:Nat->List (Nat×Value)} {pl:Nat->List Nat} {F:List z10} {a:Ag} {tk k:Nat}
theorem Zi.iterK (h:Zi w g0 p i c st g free pl F (BI a i tk k) W) (hi:i < 3):kU W (g0+4) p (4+i * 6) 4 (c.nv (i * 3)) (c.mv (i * 3)) (BG (a.fl i).base (a.fl i).kept (pl i)):=by
 have:=h.iter hi;rw[JU]at this;rw[MR (a.fl i).base (a.fl i).kept (Mq.sendTo a.Qa i (a.fl i) tk k).1 (pl i) (QB _ _ _ _ _).symm];exact this
theorem pT (z:Ja w p g a.Qf a.Qd a.fenced free sh st c) (O:Jv a st.Qe g free sh pl) (H:g0=w.heap.size) (hb:Below g0 w W)
  (h0:W.heap[g0]? =some (.cells #[.pointer (some ⟨p,0,none⟩)] 74 (0,0)))
  (h1:W.heap[g0+1]? =some (.cells #[Ej i] 3 (0,0)))
  (h2:W.heap[g0+2]? =some (.cells #[.slice none 0 0] 32 (0,0)))
  (h3:W.heap[g0+3]? =some (.cells #[.pointer (some ⟨p,4+i * 6,none⟩)] 193 (0,0)))
  (h4:W.heap[g0+4]? =some (.cells #[.pointer (some ⟨p,4+i * 6,none⟩)] 197 (0,0)))
  (h5:W.heap[g0+5]? =some (.cells #[Ej 4] 3 (0,0))) (I:g0+8<=W.heap.size):
  Zi w g0 p i c st g free pl (DU a i tk 0) (BI a i tk 0) W:=by
 have G:Below w.heap.size w W:=by rw[<-H];exact hb
 rw[pJ];refine⟨h0,h1,h3,h4,h5,⟨_,[],c,sh,h2,⟨rfl,z20 _ _ _ _,(λj v hj=>by simp at hj),(λi j u v hi=>by simp at hi),λk J=>?_⟩,z.below G,O,I' G,λj hj=>.inl hj,rfl,rfl,rfl,rfl⟩,I,λj hj=>by have:=z.lt j hj;omega,by omega⟩;rcases J with h|⟨j,hj,_⟩;cases h;simp at hj
end
section
variable {w W z:World} {g0 p i:Nat} {c c':Av} {st:Stv} {g:Nat->Nat} {free:List Nat} {sh:Nat->List (Nat×Value)} {pl:Nat->List Nat} {F:List z10} {A:Ag} {lv lv' v:Value} {fs:List Value} {b:z10}
theorem yO (h:Zi w g0 p i c st g free pl F A W) (ax:Eh W (g0+2) #[lv] 32) (H:Qj (g0+8) W lv fs F (PaU p c')) (Y:Ja W p g A.Qf A.Qd A.fenced free sh st c') (ay:Jv A st.Qe g free sh pl) (az:Far (PaU p c) w W)
  (ak:∀j,PaU p c' j->PaU p c j\/g0+8<=j) (aA:c'.s=c.s) (aB:c'.rv=c.rv) (aC:c'.nv (i * 3)=c.nv (i * 3)) (aD:c'.mv (i * 3)=c.mv (i * 3))
  (hF:Far (λk=>lv.ownBlock=some k) W z) (ao:Qw W.heap.size z v b.data.toList) (aq:z.ownsRow (g0+8) 48 1 lv' (fs.length+1) (fs++[v])) (hl:∀k,lv'.ownBlock=some k->lv.ownBlock=some k\/W.heap.size<=k):
  Zi w g0 p i c st g free pl (F++[b]) A (z.setCell ⟨g0+2,0,none⟩ lv'):=by
 have Z:=T' z (g0+2) 0 lv';have au:=h.sz;have aN:=h.gw;have aO:=hF.size;have aa:∀k,lv.ownBlock=some k->g0+8<=k/\k < W.heap.size:=λk G=>H.lt k (.inl G);have M:Far (λk=>lv.ownBlock=some k\/k=g0+2) W (z.setCell ⟨g0+2,0,none⟩ lv'):=(hF.mono (λ_ _ h=>.inl h)).trans Z (λ_ _ h=>.inr h);have aE:∀k,PaU p c' k->¬ (lv.ownBlock=some k\/k=g0+2):=λk G e=>by rcases e with e|e;exact H.clear k (.inl e) G;rcases ak k G with h1|h1;have:=h.lo k h1;omega;omega
 have Q:∀k,k≠g0+2->k < g0+8->(z.setCell ⟨g0+2,0,none⟩ lv').heap[k]? =W.heap[k]? :=λk h1 h2=>M.rest k (by omega) (λe=>e.elim (λe=>by have:=(aa k e).1;omega) (λe=>h1 e));have aF:=H.len;have V:∀k,v.ownBlock=some k->W.heap.size<=k/\k < z.heap.size:=λk G=>z14 ao k G;have ab:∀ (j:Nat) (u:Value),fs[j]? =some u->∀k,u.ownBlock=some k->g0+8<=k/\k < W.heap.size/\lv.ownBlock≠some k:=λj u hj k G=>by have h1:=z14 (H.each j u hj) k G;exact⟨h1.1,h1.2,BJ (As (H.each j u hj)) (As H.row) (by decide) G⟩
 have aG:Qj (g0+8) (z.setCell ⟨g0+2,0,none⟩ lv') lv' (fs++[v]) (F++[b]) (PaU p c'):=by
  refine⟨by simp[aF],?_,λj u hj=>?_,λac ad u1 u2 aH aI aJ k ah ai=>?_,λk G hu=>?_⟩;have:=Q' aq (w':=z.setCell ⟨g0+2,0,none⟩ lv') (λk G=>by have:=z14 aq k G;exact Z.rest k this.2 (by omega));simpa using this;by_cases I:j < fs.length;rw[z44 I]at hj;have e:((F++[b]).map λb=>b.data.toList).getD j []=(F.map λb=>b.data.toList).getD j []:=by rw[z15,z15,z96,z44 (by simp;omega)]
  rw[e];exact Q' (H.each j u hj) (λk G=>by obtain⟨h1,h2,h3⟩:=ab j u hj k G;exact M.rest k h2 (λe=>e.elim h3 (λe=>by omega)));rw[z27 (by omega)]at hj;have aj:j - fs.length=0:=by
   cases hd:j - fs.length with
   |zero=>rfl
   |succ n=>rw[hd]at hj;simp at hj
  rw[aj]at hj;simp at hj;subst hj;have e:((F++[b]).map λb=>b.data.toList).getD j []=b.data.toList:=by rw[z15,z96,z27 (by simp;omega)];simp[show j - F.length=0 by omega]
  rw[e];refine AP (Q' ao (λk G=>?_)) (z26 au (z16 _));have:=V k G;exact Z.rest k this.2 (by omega);have av:∀ (j:Nat) (u:Value),(fs++[v])[j]? =some u->(fs[j]? =some u/\j < fs.length)\/(u=v/\j=fs.length):=λj u hj=>by
   by_cases I:j < fs.length;rw[z44 I]at hj;exact .inl ⟨hj,I⟩;rw[z27 (by omega)]at hj;cases hd:j - fs.length with
   |zero=>rw[hd]at hj;simp at hj;exact .inr ⟨hj.symm,by omega⟩
   |succ n=>rw[hd]at hj;simp at hj
  rcases av ac u1 aH with ⟨a1,aK⟩|⟨a1,aK⟩ <;> rcases av ad u2 aI with ⟨a2,b2⟩|⟨a2,b2⟩;exact H.apart ac ad u1 u2 a1 a2 aJ k ah ai;subst a2;have:=ab ac u1 a1 k ah;have:=V k ai;omega;subst a1;have:=ab ad u2 a2 k ai;have:=V k ah;omega;omega;rcases G with G|⟨j,hj,u,J,G⟩;rcases hl k G with h1|h1;exact H.clear k (.inl h1) hu;have:=Y.lt k hu;omega;by_cases I:j < fs.length;rw[z44 I]at J;exact H.clear k (.inr ⟨j,I,u,J,G⟩) hu;rw[z27 (by omega)]at J;have aj:j - fs.length=0:=by simp at hj;omega
  rw[aj]at J;simp at J;subst J;have:=V k G;have:=Y.lt k hu;omega
 have aL:(z.setCell ⟨g0+2,0,none⟩ lv').heap[g0+2]? =some (.cells #[lv'] 32 (0,0)):=by have aM:Eh z (g0+2) #[lv] 32:=(hF.rest (g0+2) (by omega) (λe=>by have:=(aa _ e).1;omega)).trans ax;have:=AA (j:=0) (v:=lv') aM;simpa using this
 exact⟨(Q _ (by omega) (by omega)).trans h.h0,(Q _ (by omega) (by omega)).trans h.h1,(Q _ (by omega) (by omega)).trans h.h3,(Q _ (by omega) (by omega)).trans h.h4,(Q _ (by omega) (by omega)).trans h.h5,
  ⟨lv',fs++[v],c',sh,aL,aG,Y.far M aE,ay,az.trans M (λk G e=>e.elim (λe=>by have:=(aa k e).1;omega) (λe=>by omega)),ak,aA,aB,aC,aD⟩,z26 au M.size,h.lo,h.gw⟩
end
attribute [local go_sem] Oper.semAt_some
def Lo (B:Nat) (G:List UInt8) (v:Value) (z:World):Prop:=∃g F,v=Es g 0 1 1/\B<=g/\z.heap[g]? =some (.cells #[F] 48 (0,0))/\Qw B z F G
theorem ZF (h:Qw w p y r) (hF:Far N p f) (F:∀k,N k->k < w):Qw w f y r:=
 Q' h (λk z=>hF.rest k (z14 h k z).2 (λe=>by have:=F k e;have:=(z14 h k z).1;omega))
theorem QC (h:Qw w p y r) (hb:El p f):Qw w f y r:=
 Q' h (λk z=>hb.block k (z14 h k z).2)
theorem aP' (B:Nat) (l:List UInt8):CL (λv z=>Qw B z v l):=λ_ _ _ h hb=>QC h hb
theorem as' (z:∀k,N k->k < w):DO N (λv F=>Qw w F v r):=λ_ _ _ h hF=>ZF h hF z
theorem aQ' (B:Nat) (z:List UInt8):CL (Lo B z):=λ_ _ _ h hb=>by
 obtain⟨g,F,e,h1,h2,h3⟩:=h;exact⟨g,F,e,h1,(hb.block g (z12 h2)).trans h2,QC h3 hb⟩
theorem au' (z:∀k,N k->k < w):DO N (Lo w r):=λ_ _ _ h hF=>by
 obtain⟨g,F,e,h1,h2,h3⟩:=h;exact⟨g,F,e,h1,hF.blk h2 (λe=>by have:=z _ e;omega),ZF h3 hF z⟩
def Lp (B H:Nat) (lv:Value) (z:List Value) (I:List UInt8) (v:Value) (F:World):Prop:=∃G,F.ownsRow H 48 1 v (z.length+1) (z++[G])/\Qw B F G I/\∀k,v.ownBlock=some k->lv.ownBlock=some k\/B<=k
theorem aR' (B z:Nat) (lv:Value) (F:List Value) (G:List UInt8):CL (Lp B z lv F G):=λ_ _ _ h hb=>by
 obtain⟨H,h1,h2,h3⟩:=h;exact⟨H,Q' h1 (λk I=>hb.block k (z14 h1 k I).2),QC h2 hb,h3⟩
theorem lE (z:∀k,N k->k < w/\k < a):DO N (Lp w a y C r):=λ_ _ _ h hF=>by
 obtain⟨G,h1,h2,h3⟩:=h;exact⟨G,Q' h1 (λk F=>hF.rest k (z14 h1 k F).2 (λe=>by have:=(z k e).2;have:=(z14 h1 k F).1;omega)),ZF h2 hF (λk e=>(z k e).1),h3⟩
theorem ZG {K:Act->World->Prop} (M:J.guard=none) (s x:Operand) (t:TypeId) (F:J.op=.call {callee:=.builtin .append,args:= #[s,x],argTypes:= #[t,t]})
  (base:Nat) (e:TypeId) (H:Value) (size bytes:Nat) (Q:prog.underlying t=some (.slice e)) (V:(prog.info? e).map (λi=>(i.zero,i.size,i.bytes))=some (some H,size,bytes)) (Y:H.cells.size=size) (Z:0 < size)
  (v:Value) (n:Nat) (xs:List Value) (aa:p.ownsRow base e size v n xs) (hs:G.eval s=v) (I:Addr) (m c:Nat) (z:List Value) (ab:G.eval x=.slice (some I) m c) (hl:z.length=m * size) (ac:∀j u,z[j]? =some u->p.cell? (I.add j)=some u)
  (h1:∀u∈z,u.oneCell'=true) (ad:n+m<=maxLen) (hb:(n+m) * bytes<=140737488355328) (ah:base<=p.heap.size)
  (h:∀v' w',w'.ownsRow base e size v' (n+m) (xs++z)->p.grownBy w' v.ownBlock->(v'.ownBlock=v.ownBlock\/v'.ownBlock=some p.heap.size)->K (G.put J.dst v') w'):if Region.wanted J (yielded aC G.tmps)=true then J.wpIn (Fence.wide.inRound w) a prog G p K aB else bQ:=by
 rw[if_pos (by simp[Region.wanted,M])];obtain⟨i0,hi,ai,aj,ak⟩:=AT V;obtain⟨v',w',ao,h2,h3,_,h5⟩:=run_append_own_at (P:=prog) (w:=p) base t J.type e i0 H size bytes Q hi ai aj ak Y Z v n xs aa I m c z hl ac h1 ad hb ah;unfold Oper.wpIn;refine⟨by simp[Oper.about,F,resolve,Target.leads,Sem.run_pure],?_⟩;rw[Oper.semAt_plain _ _ _ (by rw[F];intro c aq;cases aq)];simp[execOp,F,resolve,invoke,builtin,hs,ab,ao,Result.andThen];exact h v' w' h2 h3 h5
theorem QD (e s:Nat) (f:Js) (t:Nat):∀k,(Mq.sendTo e s f t k).2.length<=k
 |0=>z16 _
 |k+1=>by
  have ih:=QD e s f t k;by_cases h:k < f.kept.length
  .cases hd:Mq.due f t k f.kept[k].2 with
   |false=>rw[IT h hd];omega
   |true=>rw[IU h hd];simp;omega
  .rw[CI (by omega)];omega
section
variable {w W:World} {g0 p i:Nat} {c:Av} {st:Stv} {g:Nat->Nat} {free:List Nat} {sh:Nat->List (Nat×Value)} {pl:Nat->List Nat} {F:List z10} {a:Ag} {tk k:Nat}
theorem Zi.due (h:Zi w g0 p i c st g free pl F (BI a i tk k) W) (hi:i < 3) (z:k < (a.fl i).kept.length) (G:(a.fl i).kept[k].2<=1000000000000) (H:tk<=1000000000000):
  Cp 106 #[Er p (4+i * 6),Ej ((a.fl i).base+1+k:Nat),Ej tk] W λr I=>Rr r (.bool (Mq.due (a.fl i) tk k (a.fl i).kept[k].2))/\El W I:=by
 obtain⟨lv,V,Y,sh,Z,aa,J,M,_⟩:=h.mid;have hj:k < ((BI a i tk k).fl i).kept.length:=by rw[uB];exact z
 have Q:((BI a i tk k).fl i).kept[k]=(a.fl i).kept[k]:=by have:=ZE (tk:=tk) z;rw[z17 hj]at this;injection this
 have:=yF J M hi k hj tk (a.fl i).kept[k].2 (by rw[Q]) G H;rw[uC,VO]at this;exact this
theorem Zi.tick (h:Zi w g0 p i c st g free pl F (BI a i tk k) W):W.cell? (Ea p 23)=some (Ej a.Qf):=by
 obtain⟨lv,G,H,sh,I,J,z,M,_⟩:=h.mid;rw[D' z.ks.blk,z.ks.at'];rfl
end
section
variable {w:World} {p:Nat} {g:Nat->Nat} {free:List Nat} {sh:Nat->List (Nat×Value)} {st:Stv} {c:Av} {a:Ag} {pl:Nat->List Nat}
theorem uD (bj:Ja w p g a.Qf a.Qd a.fenced free sh st c) (O:Jv a st.Qe g free sh pl) (i:Nat) (aH:i < 3) (de:a.Qf≠0) (df:a.Qf<=1000000000000) (dg:(a.fl i).base+(a.fl i).kept.length < 4294967296) (cp:∀x∈ (a.fl i).kept,x.1.size<=20/\x.2<=1000000000000):
  Cp 68 #[C' p,Ej i] w λr H=>∃lv z ad bD,r=.returned lv/\Qj w.heap.size H lv z (DU a i a.Qf 4) (PaU p ad)/\Ja H p g a.Qf a.Qd a.fenced free bD st ad/\Jv (BI a i a.Qf 4) st.Qe g free bD pl/\Far (PaU p c) w H/\(∀j,PaU p ad j->PaU p c j\/w.heap.size<=j)/\ad.s=c.s/\ad.rv=c.rv:=by
 have dh:=z12 bj.ks.blk;have di:(0:Int)<=(i:Int):=by omega
 have dj:(i:Int) < 3:=by omega
 have aN:=y' (z13 bj O);clear bj O;unfold C' at *;refine uA.1 (callsIn_of_wp_marks (n:=5) func68 rfl trivial ?_ rfl);refine xZ.2 ?_;simp only[ntmps68,List.size_toArray,List.length_cons,List.length_nil,Nat.reduceAdd,Nat.reduceSub,Array.replicate_succ,Array.replicate_zero,List.push_toArray,List.append_toArray,List.nil_append,List.cons_append];go_upto_region 2 with fail;obtain⟨g0,aO⟩:=exq (w.heap.size);have bE:=y' aO;rw[<-aO];refine G' (λx=>x.heap[g0]? =some (.cells #[Er p 0] 74 (0,0))/\x.heap[g0+1]? =some (.cells #[Ej i] 3 (0,0))/\x.heap[g0+2]? =some (.cells #[En] 32 (0,0))/\Below g0 w x/\x.heap.size=g0+3) ?_ ?_;rw[aO];have cq:=z19 w (.cells #[Er p 0] 74);have bF:=z19 (w.alloc (.cells #[Er p 0] 74)) (.cells #[Ej i] 3);have bG:=z19 ((w.alloc (.cells #[Er p 0] 74)).alloc (.cells #[Ej i] 3)) (.cells #[En] 32);simp only[World.size_alloc]at bF bG;refine⟨?_,?_,bG,((bna.alloc (by simp) _).alloc (by simp;omega) _),by simp⟩;rw[hao _ _ (by simp;omega),hao _ _ (by simp)];exact cq;rw[hao _ _ (by simp)];exact bF;clear aO;rintro x ⟨h0,h1,h2,hb,ah⟩;have c0:=Bi 0 h0;have c1:=Bi 0 h1;simp at c0 c1;have bH:=y' (z13 h0 (z13 h1 (z13 h2 (z13 hb ah))));have cr:g0 < x.heap.size:=by omega
 have cs:g0+1 < x.heap.size:=by omega
 clear h0 h1 h2 hb;go_region;go_upto_region 3 with fail;refine G' (λy=>y.heap[g0]? =some (.cells #[Er p 0] 74 (0,0))/\y.heap[g0+1]? =some (.cells #[Ej i] 3 (0,0))/\y.heap[g0+2]? =some (.cells #[En] 32 (0,0))/\y.heap[g0+3]? =some (.cells #[Er p (4+i * 6)] 193 (0,0))/\Below g0 w y/\y.heap.size=g0+4) ?_ ?_;obtain⟨h0,h1,h2,hb,ah⟩:=d' bH;exact⟨(hao _ _ (by omega)).trans h0,(hao _ _ (by omega)).trans h1,(hao _ _ (by omega)).trans h2,by have:=z19 x (.cells #[Er p (4+i * 6)] 193);rw[ah]at this;exact this,(hb.alloc (by omega) _).drew,by show(x.alloc _).heap.size= _;simp;omega⟩;clear bH c0 c1 cr cs ah;rintro y ⟨h0,h1,h2,h3,hb,ah⟩;have c3:=Bi 0 h3;simp at c3;have bI:=y' (z13 h0 (z13 h1 (z13 h2 (z13 h3 (z13 hb ah)))));clear h0 h1 h2 h3 hb;go_wp2_with (go_at_call 105;refine(YR _ _ _ _).mono ?_;rintro e H ⟨rfl,ax⟩);obtain⟨h0,h1,h2,h3,hb,_⟩:=d' bI;have bk:H.heap.size=g0+6:=by rw[ax];simp[JF,ah]
 have F:∀k,k < g0+4->H.heap[k]? =y.heap[k]? :=λk I=>by rw[ax];unfold JF;rw[hao _ _ (by simp;omega),hao _ _ (by omega)]
 have bJ:H.heap[g0+4]? =some (.cells #[Er p (4+i * 6)] 197 (0,0)):=by rw[ax];unfold JF;rw[hao _ _ (by simp;omega),<-ah];exact z19 _ _
 have bK:H.heap[g0+5]? =some (.cells #[Ej 4] 3 (0,0)):=by rw[ax];unfold JF;have:=z19 (y.alloc (.cells #[Er p (4+i * 6)] 197)) (.cells #[Ej 4] 3);rw[z92,ah]at this;exact this
 have aP:Below g0 w H:=by rw[ax];unfold JF;exact(hb.alloc (by omega) _).alloc (by simp;omega) _
 have aI:=y' (z13 ((F g0 (by omega)).trans h0) (z13 ((F (g0+1) (by omega)).trans h1) (z13 ((F (g0+2) (by omega)).trans h2) (z13 ((F (g0+3) (by omega)).trans h3) (z13 bJ (z13 bK aP))))));rw[<-ax];clear h0 h1 h2 h3 hb F bJ bK aP ax bI c3;obtain⟨tk,bL⟩:=exq (a.Qf);have bM:=y' bL;have cu:tk≠0:=by omega
 have cv:tk<=1000000000000:=by omega
 clear bL;have bN:(BG (a.fl i).base (a.fl i).kept (pl i)).length=(a.fl i).kept.length:=JO _ _ _ ((d' aN).2.pn i aH);refine xZ.1 (VM (n:=5) (b:=g0+4) (p:=p) (o:=4+i * 6) (m:=4) (c.nv (i * 3)) (c.mv (i * 3)) (BG (a.fl i).base (a.fl i).kept (pl i)) (OR _ _ _) rfl rfl (λk W=>Zi w g0 p i c st g free pl (DU a i tk k) (BI a i tk k) W) ?_ ?_ ?_ ?_ ?_ ?_);intro k W dl h aA;rw[bk]at aA;exact h.same2 aA;exactλk W h=>h.iterK aH;intro W bO dm;obtain⟨h0,h1,h2,h3,h4,h5,aP⟩:=d' aI;have I:=λk (I:k < H.heap.size)=>bO.block k I;exact pT (d' aN).1 (d' aN).2 (d' bE) (aP.trans (bO.mono (by omega))) ((I _ (by omega)).trans h0) ((I _ (by omega)).trans h1) ((I _ (by omega)).trans h2) ((I _ (by omega)).trans h3) ((I _ (by omega)).trans h4) ((I _ (by omega)).trans h5) (by omega)
 .intro k I W dn M cw;rw[bk]at cw ⊢;have ay:k < (a.fl i).kept.length:=by rw[bN]at I;exact I
  have bP:(BG (a.fl i).base (a.fl i).kept (pl i))[k]=((a.fl i).base+1+k,JD (a.fl i).kept[k].1 ((pl i).getD k 0)):=by have h1:=UC (a.fl i).base (a.fl i).kept (pl i) k ((d' aN).2.pn i aH) ay;rw[z17 I]at h1;injection h1
  rw[bP];obtain⟨aB,bl⟩:=exq ((a.fl i).kept[k].1);obtain⟨az,aQ⟩:=exq ((a.fl i).base+1+k);rw[<-bl,<-aQ];generalize (pl i).getD k 0=q;have aC:=y' (z13 bl aQ);obtain⟨av,aR⟩:=exq (W.heap.size);have dq:g0+8<=av:=by omega
  have dr:=y' aR;have cx:=y' M;clear bl aQ bP M aI I;unfold JD;gi_wp2;refine⟨⟨hao _ _ (by omega),hao _ _ (by omega)⟩,?_⟩;intro aS aA;rw[<-aR];have aT:aS.heap[av]? =some (.cells #[.string aB,Ej q] 140 (0,0)):=by rw[aA.rest av (by omega) (by omega),aR];exact z19 _ _
  have J:=((d' cx).below bna).same2 aA;obtain⟨lv,z,ad,aU,V,G,Q,Y,ai,Z,aj,ak,aD,aE⟩:=J.mid;have d0:=Bi 0 J.h0;have d1:=Bi 0 J.h1;have d2:=Bi 0 V;have d3:=Bi 0 J.h3;have d8:=Bi 0 aT;have d23:aS.cell? ⟨p,23,none⟩=some (Ej tk):=by rw[J.tick,d' bM]
  simp at d0 d1 d2 d3 d8;have cy:aB.size<=20/\(a.fl i).kept[k].2<=1000000000000:=by have:=cp _ (z86 ay);rw[(d' aC).1];exact this
  have aQ:az < 4294967296:=by have:=(d' aC).2;omega
  have aJ:=λx (hb:El aS x)=>y' ((J.below hb).due aH ay cy.2 cv);rw[<-(d' aC).2]at aJ;obtain⟨bQ,bm⟩:=exq (Mq.due (a.fl i) tk k (a.fl i).kept[k].2);rw[<-bm]at aJ;have aV:=y' bm;have aK:=y' J;have bR:=z12 J.h0;have ds:=z12 J.h1;have bS:=z12 J.h3;have bT:=z12 aT;have bU:p < aS.heap.size:=z12 Q.ks.blk;have bV:=y' aT;clear aR aA aT V G Q Y ai Z aj ak aD aE J bm;gi_upto_region 6 with fail;refine QW
   [Ep p (4+i * 6),Ei az,Ep p 0,Ep p 0,Ep p 23,Ei tk,Eb bQ]
   [[6],[7],[2],[3022],[4023],[5024],[1020,2021,6025]] [21,22,23,24,25,26,27] [20,7,21] ?_ ?_
  .refine⟨?_,?_,?_,?_,?_,?_,?_,trivial⟩;all_goals
    intro b x hb ao;have z0:=Bc hb bR d0;have z3:=Bc hb bS d3;have cz:=Bc hb bU d23;have aW:=y' (d' (aJ x hb));clear hb aJ;simp[J']at ao;try go_simp
   all_goals first
    |exact⟨rfl,z11 _ _⟩
    |exact⟨_,rfl,z11 _ _,rfl⟩
    |exact z11 _ _
    |(refine⟨trivial,((uA.2 (d' aW)).inRound _).mono ?_⟩;rintro r H ⟨rfl,hb⟩;exact⟨_,rfl,hb,rfl⟩)
    |(refine⟨trivial,((uA.2 (d' aW)).inRound _).mono ?_⟩;rintro r H ⟨rfl,hb⟩;exact⟨rfl,hb⟩)
    |skip
  intro f x bW aa;simp only[AJ]at aa;have cA:=aa.2.2.2.2.2.2.1;have aq:=y' bW;clear aa aJ bW;simp only[V',cA];cases bQ with
  |false=>
   gi_wp2
   have ah:=(d' aK).sz;refine⟨(d' aq).block _ (by omega),(d' aq).block _ (by omega),?_⟩;rw[pR ay (d' aV).symm,pK ay (d' aV).symm];exact(d' aK).below (d' aq)
  |true=>
   have bX:=(d' aq).size;have bY:=Bc (d' aq) bR d0;have aX:=Bc (d' aq) bS d3;have bZ:=Bc (d' aq) bU d23;have cB:g0 < x.heap.size:=(by omega);have cC:g0+3 < x.heap.size:=(by omega);have cD:p < x.heap.size:=(by omega);clear d0 d1 d2 d3 d8 d23;have aY:=λy (hb:El x y)=>y' (((d' aK).below ((d' aq).trans (hb.mono bX))).put aH ay (d' aV).symm cu);rw[<-(d' aC).2]at aY;gi_upto_region 7 with fail;refine TD
    [Ep p (4+i * 6),Ep p (4+i * 6),Ep p (4+i * 6+2),Ei az,Ep p 0,Ep p 0,Ep p 23,Ei tk,Et]
    [[6],[1027],[2028],[7],[2],[5031],[6032],[7033],[3029,4030,8034]] [28,29,30,31,32,33,34,35,36] [27,9,12]
    8 _ rfl rfl ?_ ?_
   .refine⟨?_,?_,?_,?_,?_,?_,?_,?_,trivial⟩;all_goals
     intro b y hb ao;have z0:=Bc hb cB bY;have z3:=Bc hb cC aX;have cz:=Bc hb cD bZ;clear hb aY;simp[J']at ao;try go_simp
    all_goals first
     |exact⟨rfl,z11 _ _⟩
     |exact⟨_,rfl,z11 _ _,rfl⟩
     |exact z11 _ _
     |skip
   intro f2 y bn aa;simp only[AJ,List.take]at aa;have cE:=aa.2.2.1;have cF:=aa.2.2.2.1;have cG:=aa.2.2.2.2.2.2.2.1;have cH:=y' (d' (aY y bn));have aL:=y' ((d' aq).trans (bn.mono bX));clear aa aY bn bY aX bZ;simp only[V',cE,cF,cG];go_simp;refine⟨trivial,((uA.2 (d' cH)).inRound _).mono ?_⟩;rintro r H ⟨rfl,M,aZ,ba,ah,ca⟩;have dt:=(d' aL).size;have bb:=(ca av _ (((d' aL).block av bT).trans (d' bV))).trans (((d' aL).block av bT).trans (d' bV));have aZ:=aZ.trans ((d' aL).block _ (by have:=(d' aK).sz;omega));have ba:=ba.trans ((d' aL).block _ (by have:=(d' aK).sz;omega));have cb:=y' (z13 aZ ba);obtain⟨lv,z,ad,aU,V,G,Q,Y,ai,Z,aj,ak,aD,aE⟩:=M.mid;have bo:=M.lo;have du:=M.sz;have dv:z.length<=3:=by have h1:=G.len;have h2:=QD a.Qa i (a.fl i) tk k;unfold DU at h1;rw[z42]at h1;omega
   obtain⟨ab,ac,cI,_⟩:=(CV G.row).shape;subst cI;obtain⟨ep,bc⟩:=exq (st.Qe);have cc:ep=a.Qa:=(by rw[bc];exact Y.ep);have dw:ep < 4294967296:=(by rw[bc];exact Q.stt.op);obtain⟨bd,bp⟩:=exq (Qb.bytes 3 ep i az aB.data.toList);have cd:=λy=>y' (LQ 3 ep i az aB y (by omega) (by omega) (by omega) (by omega) (by omega));rw[<-bp]at cd;have ce:DU a i tk (k+1)=DU a i tk k++[⟨bd.toArray⟩]:=(by rw[pQ ay (d' aV).symm,bp,cc,(d' aC).1,(d' aC).2]);have au:∀j,(Value.slice ab z.length ac).ownBlock=some j->g0+8<=j/\j < H.heap.size:=λj hj=>G.lt j (.inl hj);have cJ:(Value.slice ab z.length ac).ownBlock≠some av:=(CV G.row).ne bb (by decide);have c0:=Bi 0 M.h0;have c1:=Bi 0 M.h1;have c2:=Bi 0 V;have cK:=Bi 0 bb;have dx:=H' (i:=0) V;simp at c0 c1 c2 cK;have cf:=λy (c4:Av) (K:Ja y p g (BI a i tk (k+1)).Qf (BI a i tk (k+1)).Qd (BI a i tk (k+1)).fenced free aU st c4)=>y' (DW K);rw[<-bc]at cf;have cg:∀j,j=g0+2\/(Value.slice ab z.length ac).ownBlock=some j->¬PaU p ad j:=λj hj hu=>(by rcases hj with rfl|hj;rcases Z _ hu with h|h;have:=bo _ h;omega;omega;exact G.clear j (.inl hj) hu);have aI:=y' (z13 M (z13 V (z13 G (z13 Q (z13 Y (z13 ai (z13 Z (z13 aj (z13 ak (z13 aD aE))))))))));have cL:=y' bb;have ch:=y' V;have ci:=y' (z13 M.h0 M.h1);have cM:=y' Q;have cN:=y' ce;clear M V G Q Y ai Z aj ak aD aE ce bp bc cc ca bb aZ ba;unfold C' at *;gi_upto_region 8 with fail;refine TE
    [Ev (.slice ab z.length ac),Ep p 0,Ei ep,Ei i,Ei az,Ep av 0,Ev (.string aB),Ev (.agg #[Ej 3,Ej ep,Ej i,Ej az,.string aB]),
     λv y=>Qw H.heap.size y v bd,Lo H.heap.size bd,Lp H.heap.size (g0+8) (.slice ab z.length ac) z bd,λ_ y=>Zi w g0 p i c st g free pl (DU a i tk (k+1)) (BI a i tk (k+1)) y]
    [[5],[2],[2037],[3],[7],[8],[6041],[3038,4039,5040,7042],[8043],[9044],[1036,10045],[5,11046]] [37,38,39,40,41,42,43,44,45,46,47,0] [36,11,1]
    [(10,λj=>(Value.slice ab z.length ac).ownBlock=some j),(11,λj=>j=g0+2)] ?_ ?_ (hst:=by repeat' (first|exact Y' _|exact aP' _ _|exact aQ' _ _|exact aR' _ _ _ _ _|exact(λ_ _ _ h hb=>h.below hb)|exact trivial|apply z13)) (hstF:=by repeat' (first|exact trivial|exact .inl rfl|exact .inr (.inr (ab' _ _))|exact .inr (.inr (as' (λj hj=>(au j hj).2)))|exact .inr (.inr (au' (λj hj=>(au j hj).2)))|exact .inr (.inr (as' (λj (hj:j=g0+2)=>by omega)))|exact .inr (.inr (au' (λj (hj:j=g0+2)=>by omega)))|exact .inr (.inr (lE (λj (hj:j=g0+2)=>by omega)))|exact .inr (.inl (show DM _ 11 10=true by decide+kernel))|apply z13))
   .refine⟨?_,?_,?_,?_,?_,?_,?_,?_,?_,?_,?_,?_,trivial⟩;all_goals
     intro b y hb ao;have cO:=hb.size;have be:=y' hb;have aF:∀ (cj:Array Oper) (ck j:Nat),j≠g0+2->(Value.slice ab z.length ac).ownBlock≠some j->¬FI [(10,λj=>(Value.slice ab z.length ac).ownBlock=some j),(11,λj=>j=g0+2)] cj ck j:=λcj ck j h1 h2=>FK (by intro q F;simp at F;rcases F with rfl|rfl;exact h2;exact h1);have bq:∀j,j < g0+8->(Value.slice ab z.length ac).ownBlock≠some j:=λj h1 e=>by have:=(au j e).1;omega
     have z0:=Bi 0 (hb.blk (d' ci).1 (aF _ _ _ (by omega) (bq _ (by omega))));have cP:=Bi 0 (hb.blk (d' ci).2 (aF _ _ _ (by omega) (bq _ (by omega))));have cQ:=Bi 0 (hb.blk (d' cL) (aF _ _ _ (by omega) cJ));simp at z0 cP cQ;clear hb aF bq;simp[J']at ao
    .have br:=Bi 0 ((d' be).blk (d' ch) (by rintro⟨q,F,g1,g2,aM⟩;simp at F;rcases F with rfl|rfl;have:=(au _ aM).1;omega;exact absurd (show DM _ 11 0=false from g2) (by decide+kernel)));simp at br;go_simp;first|exact⟨_,rfl,Far.refl _ _,rfl⟩|exact⟨rfl,Far.refl _ _⟩|exact Far.refl _ _
    .go_simp;first|exact⟨_,rfl,Far.refl _ _,rfl⟩|exact⟨rfl,Far.refl _ _⟩|exact Far.refl _ _
    .have K:=(d' cM).far (d' be) (λj hu=>FK (by intro q F;simp at F;rcases F with rfl|rfl;exactλe=>cg j (.inr e) hu;exactλe=>cg j (.inl e) hu));have aW:=y' (d' (cf y _ K));clear K;go_simp;refine⟨trivial,((uA.2 (d' aW)).inRound _).mono ?_⟩;rintro r cl ⟨rfl,cR⟩;obtain rfl:y=cl:=cR.symm;first|exact⟨_,rfl,Far.refl _ _,rfl⟩|exact⟨rfl,Far.refl _ _⟩|exact Far.refl _ _
    iterate 5
     .go_simp;first|exact⟨_,rfl,Far.refl _ _,rfl⟩|exact⟨rfl,Far.refl _ _⟩|exact Far.refl _ _
    .go_simp;refine⟨trivial,((uA.2 (d' (cd y))).inRound _).mono ?_⟩;rintro r cl ⟨v,rfl,cS,hb⟩;exact⟨_,rfl,I' hb,AP cS (by omega)⟩
    .obtain⟨cT,cU,bt,_⟩:=(CV ao).shape;have cm:=y' ao;clear ao;rw[bt]at cm;go_simp;exact⟨_,rfl,I' bna,_,_,rfl,cO,z19 y _,Qw.alloc (d' cm) _⟩
    obtain⟨cV,cW,bu,cX,dy,cY,bf⟩:=ao;obtain⟨cT,cU,bt,_⟩:=(CV bf).shape;have cZ:y.ownsRow (g0+8) 48 1 (.slice ab z.length ac) z.length z:=Q' (d' aI).2.2.1.row (λj hj=>(d' be).rest j (au j hj).2 (by rintro⟨q,F,g1,g2,aM⟩;simp at F;rcases F with rfl|rfl;exact g1 rfl;have:j=g0+2:=aM;have:=(au j hj).1;omega));refine ZG rfl (.tmp 36) (.tmp 45) 32 rfl (g0+8) 48 En 1 24 underlying32 (by kernel_rfl) rfl (by decide) (.slice ab z.length ac) z.length z cZ (by simp[Act.eval,cV]) ⟨cW,0,none⟩ 1 1 [bu] (by simp[Act.eval,cX]) rfl ?_ (by intro u hu;simp at hu;subst hu;rw[bt];rfl) (by unfold maxLen;omega) (by omega) (by omega) ?_;intro j u hj;rw[JB,D' cY,z45];simpa using hj;intro v' w' da cn db;exact⟨v',rfl,AQ (.head _) (BU cn),bu,da,Q' bf (λj hj=>cn.block j (z14 bf j hj).2 (λe=>by have:=(au j e.symm).2;have:=(z14 bf j hj).1;omega)),λj hj=>by have hj:v'.ownBlock=some j:=hj;rcases db with e|e;exact .inl (by rw[<-e];exact hj);rw[e]at hj;injection hj with hj;exact .inr (by omega)⟩;have bw:Far (λj=>(Value.slice ab z.length ac).ownBlock=some j) H y:=(d' be).mono (by rintro j _ ⟨q,F,g1,g2,aM⟩;simp at F;rcases F with rfl|rfl;exact aM;exact absurd rfl g1);have bz:=bw.blk (d' ch) (λe=>by have:=(au _ e).1;omega);have br:=Bi 0 bz;have dz:=H' (i:=0) bz;simp at br;obtain⟨_,bu,aG,bg,hl⟩:=ao;obtain⟨dA,dB,aX,_⟩:=(CV aG).shape;rw[aX]at aG hl;have dc:=y' (z13 aG (z13 bg hl));have dd:=y' bw;clear aG bg hl bw bz;go_simp;obtain⟨aG,bg,hl⟩:=d' dc;obtain⟨M,V,G,Q,Y,ai,Z,aj,ak,aD,aE⟩:=d' aI;refine⟨AQ (.tail _ (.head _)) (T' y (g0+2) 0 _),?_⟩;rw[d' cN];exact yO M V G Q Y ai Z aj ak aD aE (d' dd) (by simpa using bg) aG hl
   .intro f3 y hF aa;have J:=aa.2.2.2.2.2.2.2.2.2.2.2.1;have bA:=hF.mono (E':=λj=>g0+8<=j\/j=g0+2) (λj _ h=>by obtain⟨q,F,h⟩:=h;simp at F;rcases F with rfl|rfl;exact .inl (au j h).1;exact .inr h);have bh:=bA.rest (g0+6) (by omega) (by omega);have bi:=bA.rest (g0+7) (by omega) (by omega);have bB:=y' (z13 bh (z13 bi J));clear aa hF bA bh bi J;simp only[V'];gi_wp2;obtain⟨bh,bi,J⟩:=d' bB;exact⟨bh.trans (d' cb).1,bi.trans (d' cb).2,J⟩
 intro k W h;have:=h.sz;omega;intro W h hK;rw[bk]at hK ⊢;rw[bN,<-pS rfl,<-pN rfl]at h;obtain⟨lv,z,ad,aU,V,G,Q,Y,ai,Z,aj,ak,_,_⟩:=h.mid;have c5:=Bi 0 V;simp at c5;have bo:=h.lo;have dC:=h.sz;have bB:=y' (z13 G (z13 Q (z13 Y (z13 ai (z13 Z (z13 aj ak))))));clear h V G Q Y ai Z aj ak;go_wp2;have bC:Far (λk=>k=g0+6) W (W.putObj (g0+6) (.deferred none)):=⟨rfl,rfl,rfl,by rw[Le];exact z16 _,λk _ h=>xY h⟩;refine⟨by simp,.inl ⟨_,_,rfl,run_takeDeferred hK,?_⟩⟩;obtain⟨G,Q,Y,ai,Z,aj,ak⟩:=d' bB;have dD:=d' bE;have aF:∀j,PaU p ad j->¬j=g0+6:=λj hj e=>by rcases Z j hj with h1|h1;have:=bo j h1;omega;omega
 rw[d' bM]at G Y;refine⟨_,results_tmp rfl _ _ _,_,z,ad,aU,rfl,?_,Q.far bC aF,Y,ai.trans bC (λk I e=>by omega),λj hj=>(Z j hj).imp id (λh=>by omega),aj,ak⟩;have:=G.keep (x:=W.putObj (g0+6) (.deferred none)) (λk I=>bC.rest k (G.lt k I).2 (by have:=(G.lt k I).1;omega));exact⟨this.len,AP this.row (by omega),λj v hj=>AP (this.each j v hj) (by omega),this.apart,this.clear⟩
end
end Go.Proofs.YtamafdcnbcoegabGreat
namespace Go.Proofs.YtamafdcnbcoegabGreat
attribute [local simp, local go_sem] Ev Ep Ei Eb Et Ej Ea En Er Es
open Qb Mq
open Go.RowKit Go.Proofs.Tryz
theorem Qj.up {B B':Nat} {F:World} {lv:Value} {G:List Value} {H:List z10} {U:Nat->Prop} (h:Qj B F lv G H (λ_=>False)) (I:B'<=B) (J:∀k,U k->k < B):Qj B' F lv G H U:=by
 refine⟨h.len,AP h.row I,λj v hj=>AP (h.each j v hj) I,h.apart,λk z hu=>?_⟩;have:=J k hu;rcases z with z|z;have:=(z14 h.row k z).1;omega;obtain⟨j,hj,u,M,z⟩:=z;have:=(z14 (h.each j u M) k z).1;omega
variable{p f B:World}{w a q b:Nat}{F:Nat -> List z10}{L:Nat -> List (Nat×Value)}{H:Stv}{D:Sv}{y u:Value}{C aO:List Value}{S cZ:List z10}{N bK:Nat -> Prop}{aC:Array Oper}{J:Oper}{G:Act}{aB:Exit -> Act -> World -> Prop}
theorem uE (z:Jo p w a F L H D) (hb:Eh p q #[C' b] 79):¬PkU w D q:=
 FA z hb (by decide) (by decide) (by decide) (by decide) (by decide) (by decide) (by decide) (by decide)
def ZH (a:Ag) (t s:Nat):List z10:=(Zl a.Qa t a.fl s).map λl=>⟨l.toArray⟩
theorem VP (a:Ag) (t s:Nat):ZH a t (s+1)=ZH a t s++DU (DF a t s) s t 4:=by
 unfold ZH DU;rw[OT];show(Zl a.Qa t a.fl s++(Mq.sendTo a.Qa s (a.fl s) t 4).2).map _= _;rw[z96];rfl
theorem WT {z:Type} {l r:List z} {u:z} (h:(l++r)[w]? =some u):(l[w]? =some u/\w < l.length)\/(r[w - l.length]? =some u/\l.length<=w):=by
 by_cases hj:w < l.length;rw[z44 hj]at h;exact .inl ⟨h,hj⟩;rw[z27 (by omega)]at h;exact .inr ⟨h,by omega⟩
theorem fX {lv:Value}
  (h1:Qj w p lv C S N) (h2:Qj p.heap.size f y aO cZ bK) (hF:Far N p f) (Q:∀k,bK k->N k\/p.heap.size<=k) (ah:∀k,bK k->k < f.heap.size) (ai:w<=p.heap.size)
  (aj:B.ownsRow w 48 1 u (C.length+aO.length) (C++aO)) (V:f.grownBy B lv.ownBlock) (hl:u.ownBlock=lv.ownBlock\/u.ownBlock=some f.heap.size):Qj w B u (C++aO) (S++cZ) bK:=by
 have Y:=h1.len;have ak:=h2.len;have ay:=hF.size;have Z:∀k,lv.ownBlock=some k->w<=k/\k < p.heap.size:=λk z=>h1.lt k (.inl z);have old:∀ (j:Nat) (F:Value),C[j]? =some F->∀k,F.ownBlock=some k->w<=k/\k < p.heap.size/\¬N k/\lv.ownBlock≠some k:=λj F hj k z=>by have hd:Vi C C.length k:=⟨j,(z25.1 hj).1,F,hj,z⟩;have h3:=h1.lt k (.inr hd);exact⟨h3.1,h3.2,h1.clear k (.inr hd),BJ (As (h1.each j F hj)) (As h1.row) (by decide) z⟩
 have new:∀ (j:Nat) (F:Value),aO[j]? =some F->∀k,F.ownBlock=some k->p.heap.size<=k/\k < f.heap.size/\¬bK k:=λj F hj k z=>by have hd:Vi aO aO.length k:=⟨j,(z25.1 hj).1,F,hj,z⟩;have h3:=h2.lt k (.inr hd);exact⟨h3.1,h3.2,h2.clear k (.inr hd)⟩
 refine⟨by simp[Y,ak],by simpa using aj,λj F hj=>?_,λaa ab u1 u2 ao aq au k G H=>?_,λk z hu=>?_⟩;rcases WT hj with ⟨hj,av⟩|⟨hj,av⟩;have e:((S++cZ).map λb=>b.data.toList).getD j []=(S.map λb=>b.data.toList).getD j []:=by rw[z15,z15,z96,z44 (by simp;omega)]
 rw[e];exact Q' (h1.each j F hj) (λk z=>by obtain⟨ac,I,J,ad⟩:=old j F hj k z;exact(V.block k (by omega) (λe=>ad e.symm)).trans (hF.rest k I J));have e:((S++cZ).map λb=>b.data.toList).getD j []=(cZ.map λb=>b.data.toList).getD (j - C.length) []:=by rw[z15,z15,z96,z27 (by simp;omega)];simp[Y]
 rw[e];refine AP (Q' (h2.each _ F hj) (λk z=>?_)) ai;obtain⟨ac,I,J⟩:=new _ F hj k z;exact V.block k I (λe=>by have:=(Z k e.symm).2;omega);rcases WT ao with ⟨a1,M⟩|⟨a1,M⟩ <;> rcases WT aq with ⟨a2,b2⟩|⟨a2,b2⟩;exact h1.apart aa ab u1 u2 a1 a2 au k G H;have:=old aa u1 a1 k G;have:=new _ u2 a2 k H;omega;have:=old ab u2 a2 k H;have:=new _ u1 a1 k G;omega;exact h2.apart _ _ u1 u2 a1 a2 (by omega) k G H;rcases z with z|⟨j,hj,F,ax,z⟩;rcases hl with e|e;rw[e]at z;have h3:=Z k z;rcases Q k hu with h4|h4;exact h1.clear k (.inl z) h4;omega;rw[e]at z;injection z with z;have:=ah k hu;omega;rcases WT ax with ⟨a1,M⟩|⟨a1,M⟩;obtain⟨ac,I,J,ad⟩:=old j F a1 k z;rcases Q k hu with h4|h4;exact J h4;omega;exact(new _ F a1 k z).2.2 hu
theorem ZI {rest:List Oper} (Q:J.guard=none) (s x:Operand) (t:TypeId) (V:J.op=.call {callee:=.builtin .append,args:= #[s,x],argTypes:= #[t,t]})
  (base:Nat) (e:TypeId) (H:Value) (size bytes:Nat) (I:prog.underlying t=some (.slice e)) (aa:(prog.info? e).map (λi=>(i.zero,i.size,i.bytes))=some (some H,size,bytes)) (ab:H.cells.size=size) (ac:0 < size)
  (v:Value) (n:Nat) (xs:List Value) (M:p.ownsRow base e size v n xs) (hs:G.eval s=v) (ad:Nat) (Y:Value) (m:Nat) (z:List Value) (F:p.ownsRow ad e size Y m z) (Z:G.eval x=Y)
  (h1:∀u∈z,u.oneCell'=true) (ah:n+m<=maxLen) (hb:(n+m) * bytes<=140737488355328) (ai:base<=p.heap.size)
  (h:∀v' w',w'.ownsRow base e size v' (n+m) (xs++z)->p.grownBy w' v.ownBlock->(v'.ownBlock=v.ownBlock\/v'.ownBlock=some p.heap.size)->wpList prog aC aB rest (G.put J.dst v') w'):wpList prog aC aB (J::rest) G p:=by
 obtain⟨i0,hi,aj,ak,ao⟩:=AT aa;rcases F.2 with ⟨rfl,rfl⟩|⟨g,cap,aq,rfl,aD,aE,aF,aG,aH,aI⟩;have hn:z=[]:=by have:=F.1;simpa using this
 subst hn;refine jK Q λK hK=>?_;have au:(Builtin.append_ #[t,t] J.type #[v,En]).run prog p=.ok v p:=by rcases M.2 with ⟨rfl,rfl⟩|⟨g,cap,aq,rfl,_,_,av,_⟩;simp[Builtin.append_,run_underlying I,sizeOf,typeInfo,hi,Builtin.lenOf,Builtin.firstCells];simp[Builtin.append_,run_underlying I,sizeOf,typeInfo,hi,Builtin.lenOf,Builtin.firstCells,av,storeCells]
 unfold Oper.wp;simp[execOp,V,resolve,invoke,builtin,hs,Z,au,Result.andThen];exact hK _ _ (h v p (by simpa using M) (World.grownBy.refl _ _) (.inl rfl));refine wpList_append_own_at p Q s x t V base e i0 H size bytes I hi aj ak ao ab ac v n xs hs M ⟨g,0,none⟩ m cap z Z F.1 ?_ h1 ah hb ai (λv' w' ax ay _ az=>h v' w' ax ay az);intro j u hj;have aA:j < m * size:=by rw[<-F.1];exact(z25.1 hj).1
 have:=z59 F j aA;rw[hj]at this;rw[JB,z45];exact this
theorem ZJ (a:Ag) (i t:Nat):(DU a i t 4).length<=4:=by
 unfold DU;rw[z42];exact QD _ _ _ _ _
theorem ZK (a:Ag) (t:Nat):∀j,(ZH a t j).length<=4 * j
 |0=>z16 _
 |j+1=>by have ih:=ZK a t j;have h:=ZJ (DF a t j) j t;rw[VP,z29];omega
theorem Qj.one (h:Qj w p y C S N):∀u∈C,u.oneCell'=true:=by
 intro u hu;obtain⟨j,hj,rfl⟩:=Kr hu;obtain⟨z,cap,e,_⟩:=(CV (h.each j _ (z17 hj))).shape;rw[e];rfl
section
variable {w z:World} {p v:Nat} {g:Nat->Nat} {tk:Nat} {wel fen:Bool} {free:List Nat} {sh:Nat->List (Nat×Value)} {st:Stv} {c:Av} {a a':Ag} {U:Nat->Prop} {N:Nat}
theorem QE (F:Ja w p g tk wel fen free sh st c) {q:Nat} (hb:Eh w v #[C' q] 76):¬PaU p c v:=
 GG F hb (by decide) (by decide) (by decide) (by decide) (by decide) (by decide) (by decide)
end
namespace Mq
def sec (L:List UInt8) (k:Nat):List UInt8:=(L.drop (k * 64)).take 64
variable{r aR:List UInt8}
theorem Wc (h:w * 64+64<=r.length):(sec r w).length=64:=by
 simp[sec];omega
theorem sec_set (hs:aR.length=64) (z:64 * w+64<=r.length):sec (Xc r w aR) w=aR:=by
 unfold sec Xc;have h1:(r.take (64 * w)).length=w * 64:=by simp;omega
 rw[z39,Iz (by omega),List.drop_of_length_le (by omega),z78,z81 (by omega),z48 (by omega)]
theorem Zg (hs:aR.length=64) (z:64 * w+64<=r.length) (h:a≠w):sec (Xc r w aR) a=sec r a:=by
 unfold sec;apply z93;intro i;rw[z73,z73];split
 .rename_i hi;rw[z82,z82];unfold Xc;rw[z39];by_cases F:a < w;rw[z44 (by simp;omega),z73,if_pos (by omega)];have hl:(r.take (64 * w)).length=64 * w:=by simp;omega
  rw[z27 (by omega),hl,z27 (by omega),hs,z82];congr 1;omega
 rfl
def Zc:List UInt8:=List.replicate 64 0
def Xy (S:List UInt8):Nat:=(Qh S 0).toNat
def Vd (S:List UInt8):Nat:=(Qh S 4).toNat+(Qh S 8).toNat * 4294967296
theorem opOf_lt (S:List UInt8):Xy S < 4294967296:=by have:=Jq S 0;unfold Xy;omega
theorem ctOf_lt (S:List UInt8):Vd S < 18446744073709551616:=by have:=Jq S 4;have:=Jq S 8;unfold Vd;omega
structure Hd where
 o:Nat
 c:Nat
 a:Nat
 b:Nat
 d:Nat
def hd0:Hd:=⟨0,0,0,0,0⟩
def Yw (S:List UInt8):Hd:=⟨Xy S,Vd S,(Qh S 12).toNat,(Qh S 16).toNat,(Qh S 20).toNat⟩
def Zh (h:Hd):List UInt8:=Xd h.o h.c (Jw h.a h.b h.d)
def Hd.small (h:Hd):Bool:=decide (h.a<=2147483647) && (decide (h.b<=2147483647) &&decide (h.d<=2147483647))
def Qq (o:Nat):Bool:=decide (1<=o) &&decide (o<=1073741824)
def Xb (S:List UInt8):Bool:=decide (S=Zc) || ((Yw S).small&& (Qq (Xy S) &&decide (Zh (Yw S)=S)))
def Qo (S:List UInt8):Hd:=if S=Zc then hd0 else Yw S
theorem Yu {n:Nat} (h:n < 4294967296) (p q:List UInt8):Qh (p++(le4 (n:Int)++q)) p.length=n:=by
 unfold Qh le4;have e:=num4_le4 (n:=(n:Int)) (by omega) (by omega);conv=>rhs;rw[<-e]
 congr 1 <;> simp[List.getD_eq_getElem?_getD]
theorem stamp_split (o c:Nat) (r:List UInt8):Jh o c++r=le4 (o:Int)++(le4 ((c % 4294967296:Nat):Int)++(le4 ((c / 4294967296:Nat):Int)++r)):=by
 unfold Jh;simp
theorem Ya {o c:Nat} {ins:List UInt8} (z:o < 4294967296):Xy (Xd o c ins)=o:=by
 unfold Xy Xd;rw[z39,stamp_split];have:=Yu z [] (le4 ((c % 4294967296:Nat):Int)++(le4 ((c / 4294967296:Nat):Int)++((ins++List.replicate (40 - ins.length) 0)++Jh o c)));simp only[List.nil_append,List.length_nil]at this;rw[this];omega
theorem ctOf_seal (z:a < 18446744073709551616):Vd (Xd w a r)=a:=by
 unfold Vd Xd;rw[z39,stamp_split];have h1:=Yu (n:=a % 4294967296) (by omega) (le4 (w:Int)) (le4 ((a / 4294967296:Nat):Int)++((r++List.replicate (40 - r.length) 0)++Jh w a));have h2:=Yu (n:=a / 4294967296) (by omega) (le4 (w:Int)++le4 ((a % 4294967296:Nat):Int)) ((r++List.replicate (40 - r.length) 0)++Jh w a);rw[Qz]at h1;rw[z29,Qz,Qz,z39]at h2;rw[h1,h2];omega
theorem Ys {o c n:Nat} {p q:List UInt8} (hn:n < 4294967296):Qh (Xd o c (p++(le4 (n:Int)++q))) (12+p.length)=n:=by
 unfold Xd;have h:=Yu hn (Jh o c++p) (q++(List.replicate (40 - (p++(le4 (n:Int)++q)).length) 0++Jh o c));have e:(Jh o c++p).length=12+p.length:=by rw[z29,Qt]
 rw[e]at h;conv=>rhs;rw[<-h]
 congr 1
 simp
theorem hdOf_seal {h:Hd} (z:h.o < 4294967296) (F:h.c < 18446744073709551616) (G:h.a < 4294967296) (hb:h.b < 4294967296) (hd:h.d < 4294967296):Yw (Zh h)=h:=by
 unfold Yw Zh;have H:Jw h.a h.b h.d=[]++(le4 (h.a:Int)++(le4 (h.b:Int)++le4 (h.d:Int))):=by unfold Jw;simp
 have I:Jw h.a h.b h.d=le4 (h.a:Int)++(le4 (h.b:Int)++le4 (h.d:Int)):=by unfold Jw;simp
 have J:Jw h.a h.b h.d=(le4 (h.a:Int)++le4 (h.b:Int))++(le4 (h.d:Int)++[]):=by unfold Jw;simp
 have f1:=Ys (o:=h.o) (c:=h.c) (p:=[]) (q:=le4 (h.b:Int)++le4 (h.d:Int)) G;have f2:=Ys (o:=h.o) (c:=h.c) (p:=le4 (h.a:Int)) (q:=le4 (h.d:Int)) hb;have f3:=Ys (o:=h.o) (c:=h.c) (p:=le4 (h.a:Int)++le4 (h.b:Int)) (q:=[]) hd;rw[<-H]at f1;rw[<-I,Qz]at f2;rw[<-J,z29,Qz,Qz]at f3;simp only[List.length_nil]at f1;rw[Ya z,ctOf_seal F,f1,f2,f3];simp
theorem Ze (h:Hd):(Zh h).length=64:=Jz _ _ (by rw[Ju];omega)
theorem opOf_nought:Xy Zc=0:=by decide
variable{t:Hd}
theorem sealH_ne (F:1<=t.o) (z:t.o < 4294967296):Zh t≠Zc:=by
 intro e;have:=Ya (c:=t.c) (ins:=Jw t.a t.b t.d) z;unfold Zh at e;rw[e,opOf_nought]at this;omega
theorem headOk_seal {h:Hd} (hs:Qq h.o=true) (z:h.c < 18446744073709551616) (hn:h.small=true):Xb (Zh h)=true/\Qo (Zh h)=h:=by
 have F:1<=h.o/\h.o<=1073741824:=by simpa[Qq]using hs
 have hb:h.a<=2147483647/\h.b<=2147483647/\h.d<=2147483647:=by simpa[Hd.small]using hn
 have e:=hdOf_seal (h:=h) (by omega) z (by omega) (by omega) (by omega);have G:=Ya (c:=h.c) (ins:=Jw h.a h.b h.d) (o:=h.o) (by omega);refine⟨?_,?_⟩;unfold Xb;rw[e,hn,show Xy (Zh h)=h.o from G,hs];simp;unfold Qo;rw[if_neg (sealH_ne F.1 (by omega)),e]
theorem Zk:Xb Zc=true/\Qo Zc=hd0:=by simp[Xb,Qo]
theorem Vf (h:Xb r=true):(r=Zc/\Qo r=hd0)\/(Qq (Qo r).o=true/\(Qo r).c < 18446744073709551616/\(Qo r).small=true/\r=Zh (Qo r)):=by
 unfold Xb at h;by_cases e:r=Zc;exact .inl ⟨e,by unfold Qo;rw[if_pos e]⟩;right;have z:(Yw r).small=true/\Qq (Xy r)=true/\Zh (Yw r)=r:=by simpa[e]using h
 unfold Qo;rw[if_neg e];exact⟨z.2.1,ctOf_lt r,z.1,z.2.2.symm⟩
def Vo (h g:Hd):Bool:=if h.o≠g.o then decide (g.o < h.o)else decide (g.c < h.c)
def Xk (L:List UInt8):Option (Hd×Nat):=
 if Xb (sec L 0)=true/\Xb (sec L 1)=true then
  if Vo (Qo (sec L 1)) (Qo (sec L 0))=true then some (Qo (sec L 1),1)
  else if Vo (Qo (sec L 0)) (Qo (sec L 1))=true then some (Qo (sec L 0),0)
  else if(Qo (sec L 0)).o=0/\(Qo (sec L 1)).o=0 then some (hd0,0)else none
 else none
structure Rc where
 s:Nat
 q:Nat
 b:z10
def rc0:Rc:=⟨0,0,⟨#[]⟩⟩
def lenOf (S:List UInt8):Nat:=(S.getD 13 0).toNat
def Vy (S:List UInt8):Rc:=⟨(S.getD 12 0).toNat,(Qh S 14).toNat,⟨((S.drop 18).take (lenOf S)).toArray⟩⟩
def Xq (o c:Nat) (r:Rc):List UInt8:=Xd o c (Zd r.s r.q r.b.data.toList)
def Xx (S:List UInt8) (last:Nat):Bool:=
 decide (S=Zc) || ((decide (lenOf S<=20) && (decide ((Vy S).s < 3) && (decide (1<=(Vy S).q) &&decide ((Vy S).q<=2147483647)))) && (Qq (Xy S) && (decide (Xy S<=last) &&decide (Xq (Xy S) (Vd S) (Vy S)=S))))
def Zv (S:List UInt8):Rc:=if S=Zc then rc0 else Vy S
def Rc.fits (r:Rc):Prop:=r.s < 3/\1<=r.q/\r.q<=2147483647/\r.b.size<=20
theorem len_b (b:z10):b.data.toList.length=b.size:=Ix
variable{T:Rc}
theorem rcOf_seal {o c:Nat} (F:T.fits):Vy (Xq o c T)=T/\lenOf (Xq o c T)=T.b.size:=by
 obtain⟨h1,h2,h3,h4⟩:=F;have hl:=len_b T.b;have z:lenOf (Xq o c T)=T.b.size:=by unfold lenOf Xq Xd Zd;rw[z39,z15,z27 (by rw[Qt];omega),Qt];simp;omega
 refine⟨?_,z⟩;have G:((Xq o c T).getD 12 0).toNat=T.s:=by unfold Xq Xd Zd;rw[z39,z15,z27 (by rw[Qt];omega),Qt];simp;omega
 have H:(Qh (Xq o c T) 14).toNat=T.q:=by have:=Ys (o:=o) (c:=c) (p:=[UInt8.ofNat (T.s % 256),UInt8.ofNat (T.b.data.toList.length % 256)]) (q:=T.b.data.toList) (n:=T.q) (by omega);rw[<-z39]at this;unfold Xq Zd;rw[show(14:Nat)=12+ [UInt8.ofNat (T.s % 256),UInt8.ofNat (T.b.data.toList.length % 256)].length from rfl,this];rfl
 have I:((Xq o c T).drop 18).take T.b.size=T.b.data.toList:=by
  have hd:(Xq o c T).drop 18=T.b.data.toList++(List.replicate (40 - (Zd T.s T.q T.b.data.toList).length) 0++Jh o c):=by
   unfold Xq Xd;have:Jh o c++(Zd T.s T.q T.b.data.toList++List.replicate (40 - (Zd T.s T.q T.b.data.toList).length) 0)++Jh o c
     =(Jh o c++([UInt8.ofNat (T.s % 256),UInt8.ofNat (T.b.data.toList.length % 256)]++le4 (T.q:Int)))++(T.b.data.toList++(List.replicate (40 - (Zd T.s T.q T.b.data.toList).length) 0++Jh o c)):=by
    conv=>lhs;arg 1;arg 2;arg 1;unfold Zd
    simp
   rw[this];exact List.drop_left' (by simp[Qt,Qz])
  rw[hd,z81 (by omega),z48 (by omega)]
 unfold Vy;rw[G,z,H,I]
theorem Yg {o c:Nat} {r:Rc} (z:r.b.size<=20):(Xq o c r).length=64:=
 Jz _ _ (by rw[Zr,len_b];omega)
theorem sealR_ne {c:Nat} (F:1<=w) (z:w < 4294967296):Xq w c T≠Zc:=by
 intro e;have:=Ya (c:=c) (ins:=Zd T.s T.q T.b.data.toList) z;unfold Xq at e;rw[e,opOf_nought]at this;omega
def Yp (S:List UInt8) (last:Nat) (r:Rc):Prop:=(S=Zc/\r=rc0)\/∃o c,1<=o/\o<=last/\o < 4294967296/\c < 18446744073709551616/\r.fits/\S=Xq o c r
theorem Yp.up {n:Nat} (h:Yp r n T) (z:n<=w):Yp r w T:=by
 rcases h with h|⟨o,c,h1,h2,h3⟩;exact .inl h;exact .inr ⟨o,c,h1,by omega,h3⟩
theorem recOk_at (h:Yp r w T) (hl:w<=1073741824):Xx r w=true/\Zv r=T:=by
 rcases h with ⟨rfl,rfl⟩|⟨o,c,h1,h2,h3,h4,z,rfl⟩;simp[Xx,Zv];obtain⟨F,G⟩:=rcOf_seal (o:=o) (c:=c) z;have H:Xy (Xq o c T)=o:=Ya h3;have I:Vd (Xq o c T)=c:=ctOf_seal h4;obtain⟨g1,g2,J,M⟩:=z;refine⟨?_,?_⟩;unfold Xx;rw[F,G,H,I];simp[Qq];right;omega;unfold Zv;rw[if_neg (sealR_ne h1 h3),F]
theorem recAt_ok (h:Xx r w=true):Yp r w (Zv r):=by
 unfold Xx at h;by_cases e:r=Zc;exact .inl ⟨e,by unfold Zv;rw[if_pos e]⟩;right;have z:(lenOf r<=20/\(Vy r).s < 3/\1<=(Vy r).q/\(Vy r).q<=2147483647)/\Qq (Xy r)=true/\Xy r<=w/\Xq (Xy r) (Vd r) (Vy r)=r:=by have:=h;simp[e]at this;omega
 obtain⟨⟨g1,g2,F,G⟩,H,I,J⟩:=z;have M:1<=Xy r/\Xy r<=1073741824:=by simpa[Qq]using H
 unfold Zv;rw[if_neg e];refine⟨Xy r,Vd r,M.1,I,by omega,ctOf_lt r,⟨g2,F,G,?_⟩,J.symm⟩;show(Vy r).b.size<=20;simp[Vy,ByteArray.size];omega
theorem recOk_small (h:Xx r w=true):(Zv r).s < 3/\(Zv r).q<=2147483647/\(Zv r).b.size<=20:=by
 rcases recAt_ok h with ⟨_,e⟩|⟨o,c,_,_,_,_,⟨h1,h2,h3,h4⟩,_⟩;rw[e];simp[rc0,ByteArray.size];exact⟨h1,h3,h4⟩
def recsFrom (L:List UInt8) (last:Nat):Nat->Nat->Option (List Rc)
 | _,0=>some []
 |x,n+1=>if Xx (sec L (2+x)) last=true then(recsFrom L last (x+1) n).map (Zv (sec L (2+x)):: ·)else none
end Mq
namespace Mq
def Older (S:List UInt8) (op c:Nat):Prop:=S=Zc\/∃h:Hd,1<=h.o/\h.o<=op/\h.c < 18446744073709551616/\h.small=true/\(h.o < op\/h.c < c)/\S=Zh h
structure Vb (L:List UInt8) (op ct hd:Nat) (g:Nat->Nat) (m:Nat):Prop where
 len:L.length=m * 64
 two:2<=m
 hd1:hd<=1
 op1:1<=op
 opm:op < 4294967296
 ctm:ct < 18446744073709551616
 sm:∀i,i < 3->g i<=2147483647
 hs:∃c,c<=ct/\sec L hd=Zh ⟨op,c,g 0,g 1,g 2⟩/\Older (sec L (1 - hd)) op c
theorem newer2_of {h g:Hd} (z:g.o < h.o\/g.o=h.o/\g.c < h.c):Vo h g=true/\Vo g h=false:=by
 unfold Vo;rcases z with z|⟨z,F⟩;rw[if_pos (by omega),if_pos (by omega)];simp;omega;rw[if_neg (by omega),if_neg (by omega)];simp;omega
variable{r aR:List UInt8}{Q:Nat}{O:Nat -> Nat}
theorem Older.head (h:Older r w a) (F:w<=1073741824) (z:1<=w):Xb r=true/\((Qo r).o < w\/(Qo r).o=w/\(Qo r).c < a):=by
 rcases h with rfl|⟨h,h1,h2,h3,h4,h5,rfl⟩;exact⟨Zk.1,.inl (by rw[Zk.2];exact z)⟩;have:=headOk_seal (h:=h) (by simp[Qq];omega) h3 h4;refine⟨this.1,?_⟩;rw[this.2];omega
theorem small_of (z:w<=2147483647) (hb:a<=2147483647) (hd:q<=2147483647):Hd.small ⟨b,Q,w,a,q⟩=true:=by simp[Hd.small];omega
theorem Vb.Xk {L:List UInt8} (h:Vb L w a q O b) (G:w<=1073741824):∃c,Xk L=some (⟨w,c,O 0,O 1,O 2⟩,q):=by
 obtain⟨c,h1,h2,h3⟩:=h.hs;have s:=headOk_seal (h:=⟨w,c,O 0,O 1,O 2⟩) (by have:=h.op1;simp[Qq];omega) (by have:=h.ctm;show c < _;omega) (small_of (h.sm 0 (by omega)) (h.sm 1 (by omega)) (h.sm 2 (by omega)));obtain⟨z,F⟩:=h3.head G h.op1;refine⟨c,?_⟩;have H:=h.hd1;obtain rfl|rfl:q=0\/q=1:=by omega
 have hn:=newer2_of (h:=⟨w,c,O 0,O 1,O 2⟩) (g:=Qo (sec L 1)) F;unfold Mq.Xk;rw[h2,s.1,s.2,show sec L 1=sec L (1 - 0) from rfl,z,if_pos ⟨rfl,rfl⟩,show Qo (sec L (1 - 0))=Qo (sec L 1) from rfl,hn.2,if_neg (by simp),hn.1,if_pos rfl];have hn:=newer2_of (h:=⟨w,c,O 0,O 1,O 2⟩) (g:=Qo (sec L 0)) F;unfold Mq.Xk;rw[h2,s.1,s.2,show sec L 0=sec L (1 - 1) from rfl,z,if_pos ⟨rfl,rfl⟩,show Qo (sec L (1 - 1))=Qo (sec L 0) from rfl,hn.1,if_pos rfl]
theorem Vb.numbers {g':Nat->Nat} (h:Vb r w a q O b) (F:∀i,i < 3->g' i<=2147483647) (G:a+1 < 18446744073709551616):
  Vb (Xc r (1 - q) (Zh ⟨w,a+1,g' 0,g' 1,g' 2⟩)) w (a+1) (1 - q) g' b:=by
 obtain⟨c,h1,h2,h3⟩:=h.hs;have hl:=h.len;have H:=h.two;have I:=h.hd1;have z:=Ze ⟨w,a+1,g' 0,g' 1,g' 2⟩;refine⟨by rw[Xa z (by omega)];exact hl,H,by omega,h.op1,h.opm,G,F,a+1,z16 _,sec_set z (by omega),?_⟩;rw[Zg z (by omega) (by omega),show 1 - (1 - q)=q by omega,h2];exact .inr ⟨⟨w,c,O 0,O 1,O 2⟩,h.op1,z16 _,by have:=h.ctm;show c < _;omega,small_of (h.sm 0 (by omega)) (h.sm 1 (by omega)) (h.sm 2 (by omega)),.inr (by show c < a+1;omega),rfl⟩
theorem Vb.record (h:Vb r w a q O b) {x:Nat} (z:aR.length=64) (H:2+x < b) (F:a+1 < 18446744073709551616):
  Vb (Xc r (2+x) aR) w (a+1) q O b:=by
 obtain⟨c,h1,h2,h3⟩:=h.hs;have hl:=h.len;have G:=h.hd1;refine⟨by rw[Xa z (by omega)];exact hl,h.two,G,h.op1,h.opm,F,h.sm,c,by omega,?_,?_⟩;rw[Zg z (by omega) (by omega)];exact h2;rw[Zg z (by omega) (by omega)];exact h3
variable{t:Hd}
theorem Vs (z:Xk r=some (t,w)):w<=1/\Xb (sec r w)=true/\t=Qo (sec r w)/\Xb (sec r (1 - w))=true:=by
 unfold Xk at z;split at z;rename_i F;split at z;cases z;exact⟨by omega,F.2,rfl,F.1⟩;split at z;cases z;exact⟨by omega,F.1,rfl,F.2⟩;split at z;rename_i h0;cases z;refine⟨by omega,F.1,?_,F.2⟩;rcases Vf F.1 with ⟨_,e⟩|⟨e,_⟩;exact e.symm;rw[h0.1]at e;cases e;cases z;cases z
theorem Vk (h:Xb r=true):(Qo r).o<=1073741824/\(Qo r).c < 18446744073709551616/\(Qo r).a<=2147483647/\(Qo r).b<=2147483647/\(Qo r).d<=2147483647:=by
 rcases Vf h with ⟨_,e⟩|⟨z,F,G,_⟩;rw[e];simp[hd0];have h1:1<=(Qo r).o/\(Qo r).o<=1073741824:=by simpa[Qq]using z
 have h2:(Qo r).a<=2147483647/\(Qo r).b<=2147483647/\(Qo r).d<=2147483647:=by simpa[Hd.small]using G
 exact⟨h1.2,F,h2⟩
def Hd.num (h:Hd) (i:Nat):Nat:=if i=0 then h.a else if i=1 then h.b else h.d
def openL (L:List UInt8) (h:Hd) (at':Nat):List UInt8:=Xc L (1 - at') (Zh ⟨h.o+1,1,h.a,h.b,h.d⟩)
theorem Yr {m:Nat} (F:Xk r=some (t,w)) (hl:r.length=m * 64) (G:2<=m):Vb (openL r t w) (t.o+1) 1 (1 - w) t.num m:=by
 obtain⟨h1,h2,rfl,h3⟩:=Vs F;have hs:=Vk h2;have z:=Ze ⟨(Qo (sec r w)).o+1,1,(Qo (sec r w)).a,(Qo (sec r w)).b,(Qo (sec r w)).d⟩;refine⟨by unfold openL;rw[Xa z (by omega)];exact hl,G,by omega,by omega,by omega,by omega,?_,1,z16 _,sec_set z (by omega),?_⟩;intro i _;unfold Hd.num;split;omega;split <;> omega;unfold openL;rw[Zg z (by omega) (by omega),show 1 - (1 - w)=w by omega];rcases Vf h2 with ⟨e,_⟩|⟨H,I,J,M⟩;exact .inl e;have h1:1<=(Qo (sec r w)).o/\(Qo (sec r w)).o<=1073741824:=by simpa[Qq]using H
 exact .inr ⟨_,h1.1,by omega,I,J,.inl (by omega),M⟩
theorem openL_other {m:Nat} (hl:r.length=m * 64) (z:2<=m) (F:2<=a):sec (openL r t w) a=sec r a:=by
 unfold openL;exact Zg (Ze _) (by omega) (by omega)
theorem Yq {L:List UInt8} {last:Nat} (z:last<=1073741824) (r:Nat->Rc):∀ (n x:Nat),(∀y,x<=y->y < x+n->Yp (sec L (2+y)) last (r y))->recsFrom L last x n=some ((List.range n).map λj=>r (x+j))
 |0,_,_=>rfl
 |n+1,x,h=>by obtain⟨h1,h2⟩:=recOk_at (h x (z16 _) (by omega)) z;have ih:=Yq z r n (x+1) (λy F G=>h y (by omega) (by omega));rw[recsFrom,if_pos h1,h2,ih,Lm];simp;intro a _;rw[Fk,Iu 1 a]
theorem Xo:∀ (n x:Nat) {rs:List Rc},recsFrom r w x n=some rs->rs.length=n/\∀y,y < n->Xx (sec r (2+(x+y))) w=true/\rs[y]? =some (Zv (sec r (2+(x+y))))
 |0,_,rs,h=>by cases h;exact⟨rfl,λy F=>by omega⟩
 |n+1,x,rs,h=>by
  rw[recsFrom]at h;split at h
  .rename_i G;cases z:recsFrom r w (x+1) n with
   |none=>rw[z]at h;cases h
   |some J=>
    rw[z]at h;cases h;obtain⟨H,I⟩:=Xo n (x+1) z;refine⟨by simp[H],λy F=>?_⟩;cases y with
    |zero=>exact⟨G,rfl⟩
    |succ y=>have:=I y (by omega);rw[show x+(y+1)=x+1+y by omega];exact⟨this.1,by rw[Bf];exact this.2⟩
  .cases h
def openSt (L:List UInt8):Option (Hd×Nat×List Rc):=
 match Xk L with
 |none=>none
 |some (h,at')=>match recsFrom L h.o 0 (L.length / 64 - 2)with
  |none=>none
  |some rs=>some (h,at',rs)
variable{U:List Rc}
theorem Vg (z:openSt r=some (t,w,U)):Xk r=some (t,w)/\recsFrom r t.o 0 (r.length / 64 - 2)=some U:=by
 unfold openSt at z;cases hn:Xk r with
 |none=>rw[hn]at z;cases z
 |some p=>
  obtain⟨G,a'⟩:=p;rw[hn]at z;simp only at z;cases F:recsFrom r G.o 0 (r.length / 64 - 2)with
  |none=>rw[F]at z;cases z
  |some H=>rw[F]at z;cases z;exact⟨rfl,F⟩
theorem openSt_of {L:List UInt8} (h1:Xk L=some (t,w)) (h2:recsFrom L t.o 0 (L.length / 64 - 2)=some U):openSt L=some (t,w,U):=by
 unfold openSt;rw[h1];simp only
 rw[h2]
theorem Vb.opens (h:Vb r w a q O b) (F:w<=1073741824) (z:Nat->Rc) (G:∀x,x < b - 2->Yp (sec r (2+x)) w (z x)):
  ∃c,openSt r=some (⟨w,c,O 0,O 1,O 2⟩,q,(List.range (b - 2)).map z):=by
 obtain⟨c,hn⟩:=h.Xk F;refine⟨c,openSt_of hn ?_⟩;rw[show r.length / 64=b by have:=h.len;omega];have:=Yq (L:=r) F z (b - 2) 0 (λy _ H=>G y (by omega));simpa using this
theorem Wa (n k:Nat) (h:k * 64+64<=n):sec (List.replicate n 0) k=Zc:=by
 unfold sec Zc;rw[Ks,List.take_replicate];congr 1;omega
theorem Yy (m:Nat) (z:2<=m):openSt (List.replicate (m * 64) 0)=some (hd0,0,(List.range (m - 2)).map λ_=>rc0):=by
 have h0:=Wa (m * 64) 0 (by omega);have h1:=Wa (m * 64) 1 (by omega);have hn:Xk (List.replicate (m * 64) 0)=some (hd0,0):=by unfold Xk;rw[h0,h1,Zk.1,Zk.2];rfl
 refine openSt_of hn ?_;have:=Yq (L:=List.replicate (m * 64) 0) (last:=0) (by omega) (λ_=>rc0) (m - 2) 0 (λy _ F=>.inl ⟨Wa _ _ (by omega),rfl⟩);rw[z57,Nat.mul_div_cancel _ (by omega:0 < 64)];exact this
end Mq
namespace Mq
abbrev Pe:=Nat×z10×Nat
def insP:List Pe->Pe->List Pe
 |[],e=>[e]
 |y::r,e=>if e.1=y.1 then e::r else if e.1 < y.1 then e::y::r else y::insP r e
structure Ld where
 free:List Nat
 sh:Nat->List Pe
def Xt (g:Nat->Nat) (x:Nat) (r:Rc) (l:Ld):Option Ld:=
 if r.q<=g r.s then some {l with free:=l.free++[x]}
 else if((l.sh r.s).map (·.1)).contains r.q=true then none
 else some {l with sh:=λi=>if i=r.s then insP (l.sh r.s) (r.q,r.b,x)else l.sh i}
def ldAll (g:Nat->Nat):List Rc->Nat->Ld->Option Ld
 |[],_,l=>some l
 |r::rs,x,l=>match Xt g x r l with
  |none=>none
  |some z=>ldAll g rs (x+1) z
def Vz (l:List Pe) (b:Nat):Nat:=max (match l.getLast? with|none=>0|some x=>x.1) b
def okP (l:List Pe) (b:Nat):Bool:=decide (Vz l b<=1073741824) &&decide (Vz l b=b+l.length)
def ld0:Ld:=⟨[],λ_=>[]⟩
def Zt (op:Nat) (g:Nat->Nat) (l:Ld):Ag:={Qa:=op+1,Qf:=0,Qd:=false,fenced:=false,fl:=λi=>if i < 3 then {base:=g i,kept:=(l.sh i).map λe=>(e.2.1,0),held:=[]}else {base:=0,kept:=[],held:=[]}}
def agLoad (L:List UInt8):Option Ag:=
 match openSt L with
 |none=>none
 |some (h,_,rs)=>match ldAll h.num rs 0 ld0 with
  |none=>none
  |some l=>if okP (l.sh 0) (h.num 0)=true/\okP (l.sh 1) (h.num 1)=true/\okP (l.sh 2) (h.num 2)=true then some (Zt h.o h.num l)else none
def keptP:Nat->List (z10×Nat)->List Nat->List Pe
 |b,x::r,q::z=>(b+1,x.1,q)::keptP (b+1) r z
 | _,_,_=>[]
theorem Vl:∀ (b:Nat) (k:List (z10×Nat)) (p:List Nat),p.length=k.length->(keptP b k p).length=k.length
 | _,[],[],_=>rfl
 |b,_::r,_::z,h=>by rw[keptP,z60,Vl (b+1) r z (by simpa using h),z60]
theorem Vc:∀ (b:Nat) (k:List (z10×Nat)) (p:List Nat) (j:Nat) (e:Pe),(keptP b k p)[j]? =some e->e.1=b+1+j/\(∃t,k[j]? =some (e.2.1,t))/\p[j]? =some e.2.2
 | _,[],_,j,e,h=>by simp[keptP]at h
 | _,_:: _,[],j,e,h=>by simp[keptP]at h
 |b,x::r,q::z,0,e,h=>by simp[keptP]at h;subst h;exact⟨rfl,⟨x.2,rfl⟩,rfl⟩
 |b,x::r,q::z,j+1,e,h=>by rw[keptP,Bf]at h;obtain⟨h1,h2,h3⟩:=Vc (b+1) r z j e h;exact⟨by omega,h2,h3⟩
theorem keptP_gt:∀ (b:Nat) (k:List (z10×Nat)) (p:List Nat),∀e∈keptP b k p,b < e.1
 | _,[],_,e,h=>by simp[keptP]at h
 | _,_:: _,[],e,h=>by simp[keptP]at h
 |b,x::r,q::z,e,h=>by
  rw[keptP]at h;cases h with
  |head=>show b < b+1;omega
  |tail _ h=>have:=keptP_gt (b+1) r z e h;omega
theorem keptP_sorted:∀ (b:Nat) (k:List (z10×Nat)) (p:List Nat),(keptP b k p).Pairwise (λx y=>x.1 < y.1)
 | _,[],_=>by simp[keptP]
 | _,_:: _,[]=>by simp[keptP]
 |b,x::r,q::z=>by rw[keptP,z63];exact⟨λe F=>keptP_gt (b+1) r z e F,keptP_sorted (b+1) r z⟩
theorem Zf:∀ (b:Nat) (k:List (z10×Nat)) (p:List Nat),p.length=k.length->(keptP b k p).map (·.2.2)=p
 | _,[],[],_=>rfl
 |b,_::r,q::z,h=>by rw[keptP,z50,Zf (b+1) r z (by simpa using h)]
theorem keptP_bodies:∀ (b:Nat) (k:List (z10×Nat)) (p:List Nat),p.length=k.length->(keptP b k p).map (·.2.1)=k.map (·.1)
 | _,[],[],_=>rfl
 |b,_::r,q::z,h=>by rw[keptP,z50,keptP_bodies (b+1) r z (by simpa using h)];rfl
theorem keptP_lastP (b:Nat) (k:List (z10×Nat)) (p:List Nat) (h:p.length=k.length):Vz (keptP b k p) b=b+k.length:=by
 have hl:=Vl b k p h;unfold Vz;rw[List.getLast?_eq_getElem?];cases z:(keptP b k p)[(keptP b k p).length - 1]? with
 |none=>
  have:=Km.1 z;simp only
  omega
 |some e=>
  have h1:=(Vc _ _ _ _ _ z).1;have h2:=(z25.1 z).1;simp only
  omega
variable{k:List Nat}{c:Ag}{W:Nat -> List Nat}
variable{bT:List Pe}{aY:Pe}
theorem insP_front (h:∀y∈bT,aY.1 < y.1):insP bT aY=aY::bT:=by
 cases bT with
 |nil=>rfl
 |cons y r=>have:=h y (.head _);rw[insP,if_neg (by omega),if_pos this]
variable{dA dH:Pe -> Bool}
theorem insP_filter:∀ (l:List Pe),l.Pairwise (λx y=>x.1 < y.1)->aY∈l->dA aY=false->dH aY=true->(∀y∈l,y.1≠aY.1->dH y=dA y)->l.filter dH=insP (l.filter dA) aY
 |[],_,h,_,_,_=>by cases h
 |y::r,hs,z,h1,h2,h3=>by
  rw[z63]at hs;by_cases I:y.1=aY.1
  .have Q:y=aY:=by
    cases z with
    |head=>rfl
    |tail _ z=>have:=hs.1 aY z;omega
   subst Q;have V:r.filter dH=r.filter dA:=Ln λF G=>h3 F (.tail _ G) (by have:=hs.1 F G;omega);rw[Lk h2,Ll (by simp[h1]),V];exact(insP_front λF G=>hs.1 F (sL.1 G).1).symm
  .have J:aY∈r:=by
    cases z with
    |head=>exact absurd rfl I
    |tail _ z=>exact z
   have Y:=hs.1 aY J;have ih:=insP_filter r hs.2 J h1 h2 (λF G=>h3 F (.tail _ G));have M:=h3 y (.head _) I;cases H:dA y with
   |true=>rw[Lk (by rw[M,H]),Lk H,ih,insP,if_neg (by omega),if_neg (by omega)]
   |false=>rw[Ll (by rw[M,H];simp),Ll (by simp[H]),ih]
structure Xl (a:Ag) (free:List Nat) (pl:Nat->List Nat):Prop where
 pn:∀i,i < 3->(pl i).length=(a.fl i).kept.length
 nd:(free++pl 0++pl 1++pl 2).Nodup
 lt:∀x∈free++pl 0++pl 1++pl 2,x < 24
 sum:free.length+a.room=24
structure Xu (L:List UInt8) (op ct hd:Nat) (a:Ag) (free:List Nat) (pl:Nat->List Nat):Prop where
 ok:Vb L op ct hd (λi=>(a.fl i).base) 26
 rcs:∃rc:Nat->Rc,(∀x,x < 24->Yp (sec L (2+x)) op (rc x))/\(∀i,i < 3->∀e∈keptP (a.fl i).base (a.fl i).kept (pl i),rc e.2.2=⟨i,e.1,e.2.1⟩)/\∀x∈free,(rc x).s < 3/\(rc x).q<=(a.fl (rc x).s).base
theorem nodupLt:∀ (n:Nat) (l:List Nat),l.Nodup->(∀x∈l,x < n)->l.length<=n
 |0,[],_,_=>z16 _
 |0,x::l,_,h=>by have:=h x (.head _);omega
 |n+1,l,hn,h=>by
  by_cases F:n∈l
  .have h1:=nodupLt n (l.erase n) (hn.erase n) (λx z=>by have h2:=h x (List.mem_of_mem_erase z);have h3:x≠n:=λe=>(by subst e;exact(List.Nodup.not_mem_erase hn) z);omega);have:=List.length_erase_of_mem F;omega
  .have:=nodupLt n l hn (λx z=>by have h2:=h x z;have h3:x≠n:=λe=>F (by rw[<-e];exact z);omega);omega
theorem all_places (hn:k.Nodup) (hl:∀x∈k,x < w) (H:k.length=w):∀x,x < w->x∈k:=by
 intro x F;apply Classical.byContradiction;intro G;have:=nodupLt w (x::k) (Fm.2 ⟨G,hn⟩) (λy z=>by
  cases z with
  |head=>exact F
  |tail _ z=>exact hl y z)
 simp at this;omega
theorem nodup_ix (hn:k.Nodup) (hi:k[w]? =some q) (hj:k[a]? =some q):w=a:=by
 obtain⟨h1,z⟩:=z25.1 hi;obtain⟨h2,F⟩:=z25.1 hj;rw[List.Nodup,List.pairwise_iff_getElem]at hn;rcases Nat.lt_trichotomy w a with h|h|h;exact absurd (z.trans F.symm) (hn w a h1 h2 h);exact h;exact absurd (F.trans z.symm) (hn a w h2 h1 h)
theorem Xl.all (P:Xl c k W):∀x,x < 24->x∈k\/∃i,i < 3/\x∈W i:=by
 have h0:=P.pn 0 (by omega);have h1:=P.pn 1 (by omega);have h2:=P.pn 2 (by omega);have hs:=P.sum;unfold Ag.room at hs;intro x z;have:=all_places P.nd P.lt (by simp;omega) x z;simp at this;rcases this with h|h|h|h;exact .inl h;exact .inr ⟨0,by omega,h⟩;exact .inr ⟨1,by omega,h⟩;exact .inr ⟨2,by omega,h⟩
theorem Xl.apart (P:Xl c k W):(∀i,i < 3->(W i).Nodup)/\(∀x∈k,∀i,i < 3->x∉W i)/\∀i j,i < 3->j < 3->i≠j->∀x∈W i,x∉W j:=by
 have J:=P.nd;rw[jZ,jZ,jZ]at J;obtain⟨⟨⟨n0,n1,n2⟩,M,H⟩,Q,G⟩:=J;refine⟨λi hi=>?_,λx z i hi F=>?_,λi j hi hj I x z F=>?_⟩;obtain rfl|rfl|rfl:i=0\/i=1\/i=2:=by omega
 exact n1;exact M;exact Q;obtain rfl|rfl|rfl:i=0\/i=1\/i=2:=by omega
 exact n2 x z x F rfl;exact H x (by simp[z]) x F rfl;exact G x (by simp[z]) x F rfl;obtain rfl|rfl|rfl:i=0\/i=1\/i=2:=by omega
 all_goals obtain rfl|rfl|rfl:j=0\/j=1\/j=2:=by omega
 exact I rfl;exact H x (by simp[z]) x F rfl;exact G x (by simp[z]) x F rfl;exact H x (by simp[F]) x z rfl;exact I rfl;exact G x (by simp[z]) x F rfl;exact G x (by simp[F]) x z rfl;exact G x (by simp[F]) x z rfl;exact I rfl
theorem ldAll_disk (P:Xl c k W) (H:Nat->Rc) (au:∀i,i < 3->∀e∈keptP (c.fl i).base (c.fl i).kept (W i),H e.2.2=⟨i,e.1,e.2.1⟩) (av:∀x∈k,(H x).q<=(c.fl (H x).s).base):
  ∀ (n x:Nat) (l:Ld),x+n=24->(∀i,i < 3->l.sh i=(keptP (c.fl i).base (c.fl i).kept (W i)).filter λe=>decide (e.2.2 < x))->
   ∃aj,ldAll (λi=>(c.fl i).base) ((List.range n).map λj=>H (x+j)) x l=some aj/\∀i,i < 3->aj.sh i=keptP (c.fl i).base (c.fl i).kept (W i):=by
 intro n;induction n with
 |zero=>
  intro x l ax hl;refine⟨l,rfl,λi hi=>?_⟩;rw[hl i hi];refine List.filter_eq_self.2 λe F=>?_;have J:e.2.2∈W i:=by rw[<-Zf (c.fl i).base (c.fl i).kept (W i) (P.pn i hi)];exact Gs F
  have:=P.lt e.2.2 (by obtain rfl|rfl|rfl:i=0\/i=1\/i=2:=(by omega);all_goals simp[J]);simp;omega
 |succ n ih=>
  intro x l ax hl;obtain⟨ay,az,aA⟩:=P.apart;rw[Lm,z50,rZ];have aB:(List.range n).map ((λj=>H (x+j)) ∘Nat.succ)=(List.range n).map λj=>H (x+1+j):=by apply Gg;intro j _;show H (x+(j+1))=H (x+1+j);congr 1;omega
  rw[aB,zQ];unfold ldAll;rcases P.all x (by omega)with ak|⟨i,hi,Y⟩;have aC:=av x ak;unfold Xt;rw[if_pos aC];simp only
  exact ih (x+1) {l with free:=l.free++[x]} (by omega) (λi hi=>by
   show l.sh i= _;rw[hl i hi];refine Ln λe F=>?_;have J:e.2.2∈W i:=by rw[<-Zf (c.fl i).base (c.fl i).kept (W i) (P.pn i hi)];exact Gs F
   have Z:e.2.2≠x:=λaa=>az x ak i hi (by rw[<-aa];exact J);rw[rX];omega)
  obtain⟨e,F,ab⟩:∃e∈keptP (c.fl i).base (c.fl i).kept (W i),e.2.2=x:=by rw[<-Zf (c.fl i).base (c.fl i).kept (W i) (P.pn i hi)]at Y;obtain⟨e,h1,h2⟩:=z66.1 Y;exact⟨e,h1,h2⟩
  have ao:=au i hi e F;rw[ab]at ao;have aK:=keptP_gt _ _ _ e F;have aD:=keptP_sorted (c.fl i).base (c.fl i).kept (W i);have aE:∀y∈keptP (c.fl i).base (c.fl i).kept (W i),y.1=e.1->y=e:=by
   intro y G h1;obtain⟨M,ac,I⟩:=z79.1 G;obtain⟨Q,ad,V⟩:=z79.1 F;have k1:=(Vc _ _ _ M y (by rw[z17 ac,I])).1;have k2:=(Vc _ _ _ Q e (by rw[z17 ad,V])).1;have:M=Q:=by omega
   subst this;rw[<-I,<-V]
  have aF:∀y∈keptP (c.fl i).base (c.fl i).kept (W i),y.2.2=x->y=e:=by intro y G h1;obtain⟨M,ac,I⟩:=z79.1 G;obtain⟨Q,ad,V⟩:=z79.1 F;have k1:=(Vc _ _ _ M y (by rw[z17 ac,I])).2.2;have k2:=(Vc _ _ _ Q e (by rw[z17 ad,V])).2.2;rw[h1]at k1;rw[ab]at k2;have:M=Q:=nodup_ix (ay i hi) k1 k2;subst this;rw[<-I,<-V]
  unfold Xt;rw[ao];simp only
  rw[if_neg (by omega),hl i hi];have aG:(((keptP (c.fl i).base (c.fl i).kept (W i)).filter λe=>decide (e.2.2 < x)).map (·.1)).contains e.1=false:=by
   cases aq:(((keptP (c.fl i).base (c.fl i).kept (W i)).filter λe=>decide (e.2.2 < x)).map (·.1)).contains e.1 with
   |false=>rfl
   |true=>rw[Kc]at aq;obtain⟨y,G,I⟩:=z66.1 aq;obtain⟨aH,aI⟩:=sL.1 G;have:=aE y aH I;subst this;simp at aI;omega
  rw[aG,if_neg (by simp)];simp only
  exact ih (x+1) {l with sh:=λz=>if z=i then insP ((keptP (c.fl i).base (c.fl i).kept (W i)).filter λe=>decide (e.2.2 < x)) (e.1,e.2.1,x)else l.sh z} (by omega) (λz ah=>by
   show(if z=i then _ else l.sh z)= _;by_cases ai:z=i;subst ai;rw[if_pos rfl];have aJ:((e.1,e.2.1,x):Pe)=e:=by rw[<-ab]
   rw[aJ];exact(insP_filter _ aD F (by simp;omega) (by simp;omega) (λy G Z=>by have:y.2.2≠x:=λh1=>Z (by rw[aF y G h1]);rw[rX];omega)).symm;rw[if_neg ai,hl z ah];refine Ln λy G=>?_;have J:y.2.2∈W z:=(by rw[<-Zf (c.fl z).base (c.fl z).kept (W z) (P.pn z ah)];exact Gs G);have Z:y.2.2≠x:=λaa=>aA z i ah hi ai x (by rw[<-aa];exact J) Y;rw[rX];omega)
end Mq
namespace Mq
def Zq (a:Ag):Ag:={Qa:=a.Qa+1,Qf:=0,Qd:=false,fenced:=false,fl:=λi=>if i < 3 then {base:=(a.fl i).base,kept:=(a.fl i).kept.map λx=>(x.1,0),held:=[]}else {base:=0,kept:=[],held:=[]}}
variable{r:List UInt8}{c bA:Ag}{O:Nat -> Nat}{k:List Nat}{W:Nat -> List Nat}
variable{t:Hd}{U:List Rc}{X:Ld}
theorem agLoad_of (h1:openSt r=some (t,w,U)) (h2:ldAll t.num U 0 ld0=some X) (h3:∀i,i < 3->okP (X.sh i) (t.num i)=true):agLoad r=some (Zt t.o t.num X):=by
 unfold agLoad;rw[h1];simp only
 rw[h2];simp only
 rw[if_pos ⟨h3 0 (by omega),h3 1 (by omega),h3 2 (by omega)⟩]
theorem agLoad_some (h:agLoad r=some c):∃hd at' rs l,openSt r=some (hd,at',rs)/\ldAll hd.num rs 0 ld0=some l/\(∀i,i < 3->okP (l.sh i) (hd.num i)=true)/\c=Zt hd.o hd.num l:=by
 unfold agLoad at h;cases F:openSt r with
 |none=>rw[F]at h;cases h
 |some p=>
  obtain⟨hd,at',rs⟩:=p;rw[F]at h;simp only at h;cases hl:ldAll hd.num rs 0 ld0 with
  |none=>rw[hl]at h;cases h
  |some l=>rw[hl]at h;simp only at h;split at h;rename_i z;cases h;refine⟨hd,at',rs,l,rfl,hl,λi hi=>?_,rfl⟩;obtain rfl|rfl|rfl:i=0\/i=1\/i=2:=(by omega);exact z.1;exact z.2.1;exact z.2.2;cases h
theorem num_fun (g:Nat->Nat) (op c i:Nat) (hi:i < 3):Hd.num ⟨op,c,g 0,g 1,g 2⟩ i=g i:=by
 unfold Hd.num;obtain rfl|rfl|rfl:i=0\/i=1\/i=2:=by omega
 all_goals rfl
theorem ldAll_num {g':Nat->Nat} (z:∀i,i < 3->O i=g' i):∀ (rs:List Rc) (x:Nat) (l:Ld),(∀r∈rs,r.s < 3)->ldAll O rs x l=ldAll g' rs x l
 |[],_,_,_=>rfl
 |r::rs,x,l,h=>by
  have e:Xt O x r l=Xt g' x r l:=by unfold Xt;rw[z r.s (h r (.head _))]
  unfold ldAll;rw[e];split
  .rfl
  .exact ldAll_num z rs (x+1) _ (λr' F=>h r' (.tail _ F))
theorem Xu.loads (D:Xu r w a q c k W) (P:Xl c k W) (J:c.Qa=w) (M:w<=1073741824) (Q:∀i,i < 3->(c.fl i).base+(c.fl i).kept.length<=1073741824):
  agLoad r=some (Zq c):=by
 obtain⟨z,H,V,Y⟩:=D.rcs;obtain⟨I,Z⟩:=D.ok.opens M z (λx F=>H x F);obtain⟨l,hl,hs⟩:=ldAll_disk P z V (λx F=>(Y x F).2) 24 0 ld0 (by omega) (λi _=>(List.filter_eq_nil_iff.2 λe _=>by simp).symm);have aa:(List.range 24).map (λj=>z (0+j))=(List.range (26 - 2)).map z:=by apply Gg;intro j _;rw[z45]
 rw[aa]at hl;have G:=λi hi=>num_fun (λi=>(c.fl i).base) w I i hi;have ab:ldAll (Hd.num ⟨w,I,(c.fl 0).base,(c.fl 1).base,(c.fl 2).base⟩) ((List.range (26 - 2)).map z) 0 ld0=some l:=by rw[ldAll_num (g':=λi=>(c.fl i).base) G _ _ _ ?_];exact hl;intro ah ac;obtain⟨x,F,rfl⟩:=z66.1 ac;rcases H x (by simpa using F)with ⟨_,e⟩|⟨_,_,_,_,_,_,ad,_⟩;rw[e];simp[rc0];exact ad.1
 rw[agLoad_of Z ab (λi hi=>by rw[G i hi,hs i hi];have:=Q i hi;unfold okP;rw[keptP_lastP _ _ _ (P.pn i hi),Vl _ _ _ (P.pn i hi)];simp;omega)];unfold Zt Zq;congr 2;rw[J];funext i;by_cases hi:i < 3
 .rw[if_pos hi,if_pos hi,G i hi,hs i hi];congr 1;have:=keptP_bodies (c.fl i).base (c.fl i).kept (W i) (P.pn i hi);have h2:=congrArg (List.map λb:z10=>(b,0)) this;rw[rZ,rZ]at h2;exact h2
 rw[if_neg hi,if_neg hi]
theorem Wb:∀ (b:Nat) (k z:List (z10×Nat)) (p:List Nat),k.map (·.1)=z.map (·.1)->keptP b k p=keptP b z p
 | _,[],[],_,_=>rfl
 |b,[],_:: _,p,h=>by simp at h
 |b,_:: _,[],p,h=>by simp at h
 |b,x::r,y::s,[],_=>by simp[keptP]
 |b,x::r,y::s,q::F,h=>by simp only[List.map_cons,List.cons.injEq]at h;rw[keptP,keptP,h.1,Wb (b+1) r s F h.2]
theorem keptP_app:∀ (b:Nat) (k z:List (z10×Nat)) (p F:List Nat),p.length=k.length->keptP b (k++z) (p++F)=keptP b k p++keptP (b+k.length) z F
 |b,[],z,[],F,_=>by simp[keptP]
 |b,[],z,q::G,F,h=>by simp at h
 |b,x::r,z,[],F,h=>by simp at h
 |b,x::r,z,q::G,F,h=>by show keptP b (x::(r++z)) (q::(G++F))= _;rw[keptP,keptP,keptP_app (b+1) r z G F (by simpa using h),z60,show b+1+r.length=b+(r.length+1) by omega];rfl
theorem keptP_drop:∀ (n b:Nat) (k:List (z10×Nat)) (p:List Nat),n<=k.length->p.length=k.length->keptP (b+n) (k.drop n) (p.drop n)=(keptP b k p).drop n
 |0,b,k,p,_,_=>rfl
 |n+1,b,[],p,h,_=>by simp at h
 |n+1,b,x::r,[],_,h=>by simp at h
 |n+1,b,x::r,q::z,h,h2=>by rw[Bs,Bs,keptP,Bs,<-keptP_drop n (b+1) r z (by simpa using h) (by simpa using h2),show b+1+n=b+(n+1) by omega]
theorem Xu.same {op:Nat} (D:Xu r op w a c k W) (hb:∀i,i < 3->(bA.fl i).base=(c.fl i).base/\(bA.fl i).kept.map (·.1)=(c.fl i).kept.map (·.1)):Xu r op w a bA k W:=by
 obtain⟨F,G,I,J⟩:=D.rcs;obtain⟨k1,k2,k3,k4,k5,k6,k7,M,k8,k9,k10⟩:=D.ok;have h3:∀x,x < 24->(F x).s < 3:=λx z=>by rcases G x z with ⟨_,e⟩|⟨_,_,_,_,_,_,Q,_⟩;rw[e];simp[rc0];exact Q.1
 refine⟨⟨k1,k2,k3,k4,k5,k6,λi hi=>by rw[(hb i hi).1];exact k7 i hi,M,k8,?_,k10⟩,F,G,λi hi e H=>?_,λx z=>?_⟩;rw[(hb 0 (by omega)).1,(hb 1 (by omega)).1,(hb 2 (by omega)).1];exact k9;rw[(hb i hi).1,Wb _ _ _ _ (hb i hi).2]at H;exact I i hi e H;obtain⟨h1,h2⟩:=J x z;exact⟨h1,by rw[(hb _ h1).1];exact h2⟩
theorem Xu.Xm {L:List UInt8} {op ct hd:Nat} {a:Ag} {fr:List Nat} {x:Nat} {F:Nat->List Nat} (D:Xu L op ct hd a (fr++[x]) F) (P:Xl a (fr++[x]) F) {s:Nat} (hs:s < 3) {b:z10} (hb:b.size<=20) (V:ct+1 < 18446744073709551616) (ab:(a.fl s).base+(a.fl s).kept.length+1<=2147483647):
  Xu (Xc L (2+x) (Xq op (ct+1) ⟨s,(a.fl s).base+(a.fl s).kept.length+1,b⟩)) op (ct+1) hd (a.Xm s b) fr (λt=>if t=s then F s++[x]else F t):=by
 obtain⟨ac,ad,Y,ah⟩:=D.rcs;have ay:x < 24:=P.lt x (by simp);have I:(Xq op (ct+1) ⟨s,(a.fl s).base+(a.fl s).kept.length+1,b⟩).length=64:=Yg hb;have hl:=D.ok.len;have J:∀j,(a.Xm s b).fl j=if j=s then {a.fl s with kept:=(a.fl s).kept++[(b,0)]}else a.fl j:=λj=>rfl
 have Z:∀j,((a.Xm s b).fl j).base=(a.fl j).base:=λj=>by rw[J];split;rename_i e;rw[e];rfl
 have ai:Rc.fits ⟨s,(a.fl s).base+(a.fl s).kept.length+1,b⟩:=⟨hs,by show 1<=(a.fl s).base+ _+1;omega,ab,hb⟩;obtain⟨az,aj,aA⟩:=P.apart;have ak:∀i,i < 3->x∉F i:=aj x (by simp);have ao:x∉fr:=by have:=P.nd;rw[jZ,jZ,jZ]at this;obtain⟨⟨⟨n0,_⟩,_⟩,_⟩:=this;rw[jZ]at n0;intro aq;exact n0.2.2 x aq x (by simp) rfl
 have au:=D.ok.record (x:=x) I (by omega) V;have av:(λi=>((a.Xm s b).fl i).base)=λi=>(a.fl i).base:=funext Z;obtain⟨M,G⟩:∃M:Nat->Rc,∀y,M y=if y=x then⟨s,(a.fl s).base+(a.fl s).kept.length+1,b⟩else ac y:=⟨_,λ_=>rfl⟩
 refine⟨by rw[av];exact au,M,λy H=>?_,λi hi e z=>?_,λy H=>?_⟩;by_cases e:y=x;subst e;rw[G,if_pos rfl,sec_set I (by omega)];exact .inr ⟨op,ct+1,D.ok.op1,z16 _,D.ok.opm,V,ai,rfl⟩;rw[G,if_neg e,Zg I (by omega) (by omega)];exact ad y H;have aa:∀i,i < 3->∀e∈keptP (a.fl i).base (a.fl i).kept (F i),e.2.2≠x:=λi hi e z h1=>by apply ak i hi;rw[<-Zf (a.fl i).base (a.fl i).kept (F i) (P.pn i hi),<-h1];exact Gs z
 by_cases Q:i=s;subst Q;rw[J,if_pos rfl,if_pos rfl,keptP_app _ _ _ _ _ (P.pn i hi),z55]at z;rcases z with z|z;rw[G,if_neg (aa i hi e z)];exact Y i hi e z;simp only[keptP,List.mem_singleton]at z;subst z;rw[G,if_pos rfl];rw[J,if_neg Q,if_neg Q]at z;rw[G,if_neg (aa i hi e z)];exact Y i hi e z;have ax:y≠x:=λe=>ao (by rw[<-e];exact H);rw[G,if_neg ax,Z];exact ah y (by simp[H])
theorem Xu.gone {a':Ag} {free':List Nat} {pl':Nat->List Nat} (D:Xu r w a q c k W) (P:Xl c k W) (n:Nat->Nat) (hn:∀i,i < 3->n i<=(c.fl i).kept.length) (hb:∀i,i < 3->(a'.fl i).base=(c.fl i).base+n i/\(a'.fl i).kept.map (·.1)=((c.fl i).kept.drop (n i)).map (·.1))
  (J:∀i,i < 3->pl' i=(W i).drop (n i)) (M:∀x∈free',x∈k\/∃i,i < 3/\x∈ (W i).take (n i)) (Q:a+1 < 18446744073709551616) (V:∀i,i < 3->(c.fl i).base+(c.fl i).kept.length<=2147483647):
  Xu (Xc r (1 - q) (Zh ⟨w,a+1,(a'.fl 0).base,(a'.fl 1).base,(a'.fl 2).base⟩)) w (a+1) (1 - q) a' free' pl':=by
 obtain⟨Y,Z,G,aa⟩:=D.rcs;have hl:=D.ok.len;refine⟨D.ok.numbers (g':=λi=>(a'.fl i).base) (λi hi=>by have:=V i hi;have:=hn i hi;rw[(hb i hi).1];omega) Q,Y,λy F=>?_,λi hi e H=>?_,λy F=>?_⟩;rw[Zg (Ze _) (by omega) (by omega)];exact Z y F;rw[(hb i hi).1,Wb _ _ _ _ (hb i hi).2,J i hi,keptP_drop _ _ _ _ (hn i hi) (P.pn i hi)]at H;exact G i hi e (Ko H);rcases M y F with h|⟨i,hi,h⟩;obtain⟨h1,h2⟩:=aa y h;exact⟨h1,by rw[(hb _ h1).1];omega⟩;obtain⟨j,hj,e⟩:=z79.1 h;have ab:j < n i/\j < (W i).length:=by simp at hj;omega
 have ac:(W i)[j]? =some y:=by rw[List.getElem_take]at e;rw[z17 ab.2,e]
 have ah:=Vl (c.fl i).base (c.fl i).kept (W i) (P.pn i hi);have ai:=P.pn i hi;have I:j < (keptP (c.fl i).base (c.fl i).kept (W i)).length:=by omega
 obtain⟨g1,g2,z⟩:=Vc _ _ _ j _ (z17 I);rw[ac]at z;have ad:(keptP (c.fl i).base (c.fl i).kept (W i))[j].2.2=y:=by injection z with z;exact z.symm
 have:=G i hi _ (z86 I);rw[ad]at this;rw[this];refine⟨hi,?_⟩;show(keptP (c.fl i).base (c.fl i).kept (W i))[j].1<=(a'.fl i).base;rw[g1,(hb i hi).1];omega
end Mq
