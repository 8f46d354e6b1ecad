/-
  Part 11 of a proof.
-/
import Derived.Test.YtamafdcnbcoegabGreatOa10
set_option maxRecDepth 100000
set_option maxHeartbeats 40000000
namespace Go.Proofs.YtamafdcnbcoegabGreat
attribute [local simp, local go_sem] Ev Ep Ei Eb Et Ej Ea En Er Es
open Qb Mq
namespace Mq
def cnt (l:Nat->List z10):Nat:=(l 0).length+(l 1).length+(l 2).length
def Yo (l:Nat->List z10) (s:Nat) (b:z10):Nat->List z10:=λj=>if j=s then l s++[b]else l j
theorem cnt_add (l:Nat->List z10) (s:Nat) (b:z10) (hs:s < 3):cnt (Yo l s b)=cnt l+1:=by
 unfold cnt Yo;obtain rfl|rfl|rfl:s=0\/s=1\/s=2:=by omega
 all_goals
  simp;try omega
def skLd:List Rc->Nat->(Nat->List z10)->Option (Nat->List z10)
 |[],_,l=>some l
 |r::rs,x,l=>if r.q=0 then skLd rs (x+1) l else if x=cnt l/\r.q=(l r.s).length+1 then skLd rs (x+1) (Yo l r.s r.b)else none
def skLoad (L:List UInt8):Option Sk:=
 match openSt L with
 |none=>none
 |some (h,_,rs)=>if h.b=0/\h.d=0 then(match skLd rs 0 (λ_=>[])with
  |none=>none
  |some l=>some {Qa:=h.a,Qc:=l,held:=[]})else none
theorem Vx:∀ (rs z:List Rc) (x:Nat) (l:Nat->List z10),skLd (rs++z) x l=match skLd rs x l with
  |none=>none
  |some F=>skLd z (x+rs.length) F
 |[],z,x,l=>by simp[skLd]
 |r::rs,z,x,l=>by
  rw[Im,skLd,skLd,z60,show x+(rs.length+1)=x+1+rs.length by omega];split
  .exact Vx rs z (x+1) l
  .split
   .exact Vx rs z (x+1) _
   .rfl
theorem skLd_zero:∀ (n x:Nat) (l:Nat->List z10),skLd (List.replicate n rc0) x l=some l
 |0,_,_=>rfl
 |n+1,x,l=>by rw[List.replicate_succ,skLd,if_pos (show rc0.q=0 from rfl)];exact skLd_zero n (x+1) l
theorem skLd_gap:∀ (rs:List Rc) (x:Nat) (l z:Nat->List z10),cnt l < x->skLd rs x l=some z->z=l/\∀r∈rs,r.q=0
 |[],x,l,z,_,h=>by cases h;exact⟨rfl,λr F=>by cases F⟩
 |r::rs,x,l,z,G,h=>by
  rw[skLd]at h;split at h
  .rename_i h0;obtain⟨e,i⟩:=skLd_gap rs (x+1) l z (by omega) h;exact⟨e,λr' F=>by
    cases F with
    |head=>exact h0
    |tail _ F=>exact i r' F⟩
  .rw[if_neg (by omega)]at h;cases h
theorem skLd_some:∀ (rs:List Rc) (x:Nat) (l F:Nat->List z10),cnt l=x->(∀r∈rs,r.s < 3)->skLd rs x l=some F->
  ∃n,n<=rs.length/\cnt F=x+n/\skLd (rs.take n) x l=some F/\(∀y,y < n->∃r,rs[y]? =some r/\r.q≠0)/\∀y,n<=y->∀r,rs[y]? =some r->r.q=0
 |[],x,l,F,G,_,h=>by cases h;exact⟨0,z16 _,G,rfl,λy H=>by omega,λy _ r z=>by simp at z⟩
 |r::rs,x,l,F,G,hs,h=>by
  have Q:=h;rw[skLd]at h;split at h
  .rename_i h0;obtain⟨e,i⟩:=skLd_gap rs (x+1) l F (by omega) h;subst e;refine⟨0,z54 _,G,rfl,λy H=>by omega,λy _ r' z=>?_⟩;cases y with
   |zero=>simp at z;rw[<-z];exact h0
   |succ y=>exact i r' (z65 (by simpa using z))
  .rename_i h0;split at h
   .rename_i h1;obtain⟨n,n1,n2,I,J,M⟩:=skLd_some rs (x+1) _ F (by rw[cnt_add _ _ _ (hs r (.head _)),G]) (λr' z=>hs r' (.tail _ z)) h;refine⟨n+1,by simp;omega,by omega,?_,λy H=>?_,λy H r' z=>?_⟩
    .rw[Bt,skLd,if_neg h0,if_pos h1];exact I
    .cases y with
     |zero=>exact⟨r,rfl,h0⟩
     |succ y=>exact J y (by omega)
    .cases y with
     |zero=>omega
     |succ y=>exact M y (by omega) r' (by simpa using z)
   .cases h
structure Zb (L:List UInt8) (op ct hd e:Nat) (Qc:Nat->List z10):Prop where
 ok:Vb L op ct hd (λi=>if i=0 then e else 0) 122
 rcs:∃ord:List Rc,ord.length=cnt Qc/\cnt Qc<=120/\(∀r∈ord,r.fits)/\skLd ord 0 (λ_=>[])=some Qc/\∀x,x < 120->Yp (sec L (2+x)) op (ord.getD x rc0)
variable{r:List UInt8}{w a q b:Nat}{F:Nat -> List z10}{bR:Sk}{t:Hd}{U:List Rc}
theorem Zb.loads (h:Zb r w a q b F) (G:w<=1073741824):skLoad r=some {Qa:=b,Qc:=F,held:=[]}:=by
 obtain⟨z,V,Y,Z,H,I⟩:=h.rcs;obtain⟨c,J⟩:=h.ok.opens G (λx=>z.getD x rc0) (λx M=>I x M);have Q:(List.range (122 - 2)).map (λx=>z.getD x rc0)=z++List.replicate (120 - z.length) rc0:=by apply z93;intro i;rw[z77,List.getElem?_append,Mb];by_cases hi:i < 120;rw[List.getElem?_range (by omega)];by_cases hl:i < z.length;rw[if_pos hl];simp[List.getD_eq_getElem?_getD,hl];rw[if_neg hl,if_pos (by omega)];simp[List.getD_eq_getElem?_getD,List.getElem?_eq_none (by omega:z.length<=i)];rw[z76 (by simp;omega),if_neg (by omega),if_neg (by omega)];rfl
 unfold skLoad;rw[J];simp only
 rw[if_pos (by simp),Q,Vx,H];simp only
 rw[skLd_zero];simp
theorem Zb.commit {L:List UInt8} {op ct hd e:Nat} {Qc:Nat->List z10} (h:Zb L op ct hd e Qc) {s:Nat} {b:z10} (hs:s < 3) (hb:b.size<=20) (z:cnt Qc < 120) (H:ct+1 < 18446744073709551616):
  Zb (Xc L (2+cnt Qc) (Xq op (ct+1) ⟨s,(Qc s).length+1,b⟩)) op (ct+1) hd e (Yo Qc s b):=by
 obtain⟨F,I,Z,M,Q,V⟩:=h.rcs;have G:(Xq op (ct+1) ⟨s,(Qc s).length+1,b⟩).length=64:=Yg hb;have aa:(Qc s).length<=cnt Qc:=by
  unfold cnt;obtain rfl|rfl|rfl:s=0\/s=1\/s=2:=by omega
  all_goals omega
 have J:Rc.fits ⟨s,(Qc s).length+1,b⟩:=⟨hs,by show 1<=(Qc s).length+1;omega,by show(Qc s).length+1<= _;omega,hb⟩;refine⟨h.ok.record G (by omega) H,F++[⟨s,(Qc s).length+1,b⟩],by rw[cnt_add _ _ _ hs];simp[I],by rw[cnt_add _ _ _ hs];omega,?_,?_,λx Y=>?_⟩;intro r z;rw[z55]at z;rcases z with z|z;exact M r z;rw[z51]at z;rw[z];exact J;rw[Vx,Q];simp only
 rw[skLd,if_neg (by show ¬ (Qc s).length+1=0;omega),if_pos ⟨by omega,rfl⟩,skLd];have hl:=h.ok.len;by_cases e:x=cnt Qc;subst e;rw[sec_set G (by omega),z15,z27 (by omega),I,Fy];exact .inr ⟨op,ct+1,h.ok.op1,z16 _,h.ok.opm,H,J,rfl⟩;rw[Zg G (by omega) (by omega)];have:(F++[Rc.mk s ((Qc s).length+1) b]).getD x rc0=F.getD x rc0:=by rw[z15,z15,List.getElem?_append];split;rfl;rw[z76 (by simp;omega),z76 (by omega)]
 rw[this];exact V x Y
theorem Zb.Qa {L:List UInt8} {op ct hd e:Nat} {Qc:Nat->List z10} (h:Zb L op ct hd e Qc) {z:Nat} (Y:z<=2147483647) (F:ct+1 < 18446744073709551616):
  Zb (Xc L (1 - hd) (Zh ⟨op,ct+1,z,0,0⟩)) op (ct+1) (1 - hd) z Qc:=by
 obtain⟨G,H,I,J,M,Q⟩:=h.rcs;have hl:=h.ok.len;refine⟨h.ok.numbers (g':=λi=>if i=0 then z else 0) (λi _=>by show(if i=0 then z else 0)<= _;split <;> omega) F,G,H,I,J,M,λx V=>?_⟩;rw[Zg (Ze _) (by omega) (by omega)];exact Q x V
theorem skLoad_some (h:skLoad r=some bR):∃hd at' rs,openSt r=some (hd,at',rs)/\hd.b=0/\hd.d=0/\bR.Qa=hd.a/\bR.held=[]/\skLd rs 0 (λ_=>[])=some bR.Qc:=by
 unfold skLoad at h;cases z:openSt r with
 |none=>rw[z]at h;cases h
 |some p=>
  obtain⟨hd,at',rs⟩:=p;rw[z]at h;simp only at h;split at h
  .rename_i h0;cases hl:skLd rs 0 (λ_=>[])with
   |none=>rw[hl]at h;cases h
   |some l=>rw[hl]at h;cases h;exact⟨hd,at',rs,rfl,h0.1,h0.2,rfl,rfl,hl⟩
  cases h
theorem skDisk_opened {a:Sk} (Q:openSt r=some (t,w,U)) (hb:t.b=0) (hd0:t.d=0) (hl:skLd U 0 (λ_=>[])=some a.Qc) (V:r.length=7808):
  Zb (openL r t w) (t.o+1) 1 (1 - w) t.a a.Qc:=by
 obtain⟨hn,F⟩:=Vg Q;rw[V]at F;obtain⟨ai,J⟩:=Xo _ _ F;have M:∀x,x < 120->Yp (sec r (2+x)) (t.o+1) (U.getD x rc0):=λx z=>by obtain⟨k1,k2⟩:=J x z;rw[z45]at k1 k2;rw[z15,k2];exact(recAt_ok k1).up (by omega)
 have Y:∀G∈U,G.s < 3:=λG F=>by obtain⟨x,z,e⟩:=z79.1 F;obtain⟨k1,k2⟩:=J x (by omega);rw[z17 z,e]at k2;cases k2;exact(recOk_small k1).1
 obtain⟨n,n1,n2,Z,aa,ab⟩:=skLd_some U 0 _ _ (by rfl) Y hl;have ac:=Yr hn (m:=122) (by omega) (by omega);refine⟨?_,U.take n,by simp;omega,by omega,λG F=>?_,Z,λx z=>?_⟩;have:t.num=λi=>if i=0 then t.a else 0:=by funext i;unfold Hd.num;split;rfl;split;exact hb;exact hd0
 rw[<-this];exact ac;obtain⟨x,z,e⟩:=z79.1 F;have H:x < n:=by simp at z;omega
 obtain⟨r',h1,h2⟩:=aa x H;have h3:U.getD x rc0=r':=by rw[z15,h1];rfl
 have h4:G=r':=by rw[<-e];simp only[List.getElem_take];rw[z17 (by omega)]at h1;cases h1;rfl
 have:=M x (by omega);rw[h3,<-h4]at this;rcases this with ⟨_,ad⟩|⟨_,_,_,_,_,_,I,_⟩;rw[<-h4,ad]at h2;exact absurd rfl h2;exact I;rw[openL_other (m:=122) (by omega) (by omega) (by omega)];have h0:=M x z;by_cases H:x < n;have:(U.take n).getD x rc0=U.getD x rc0:=by rw[z15,z15,z73,if_pos H]
 rw[this];exact h0;have:(U.take n).getD x rc0=rc0:=by rw[z15,z76 (by simp;omega)];rfl
 rw[this];have aj:=ab x (by omega) (U.getD x rc0) (by rw[z15,z17 (by omega)];rfl);rcases h0 with ⟨ah,_⟩|⟨_,_,_,_,_,_,I,_⟩;exact .inl ⟨ah,rfl⟩;have:=I.2.1;omega
end Mq
open Go.RowKit Go.Proofs.Tryz
def Lq (B:Nat) (b:z10) (v:Value) (w:World):Prop:=∃g,v=Es g 0 1 1/\B<=g/\w.heap[g]? =some (.cells #[.string b] 9 (0,0))
theorem aS' (B:Nat) (b:z10):CL (Lq B b):=λ_ _ _ h hb=>by
 obtain⟨g,e,h1,h2⟩:=h;exact⟨g,e,h1,(hb.block g (z12 h2)).trans h2⟩
variable{w a q b:Nat}{z:z10}{N:Nat -> Prop}{p f B:World}{y u R:Value}{C:List Value}{U:List Rc}{T:Rc}{F:Nat -> List z10}{r:List UInt8}{H:Stv}{aU:Obj}{O:Nat -> Nat}{X:Ld}{t:Hd}{bJ:Dk}{L:Nat -> List (Nat×Value)}{D:Sv}{aD aV:Bool}{k:List Nat}{aL:Av}{c:Ag}{W:Nat -> List Nat}{o:Int}
theorem av' (F:∀k,N k->k < w):DO N (Lq w z):=λ_ _ _ h hF=>by
 obtain⟨g,e,h1,h2⟩:=h;exact⟨g,e,h1,hF.blk h2 (λe=>by have:=F _ e;omega)⟩
def Lr (w0:World) (fv:Value) (n:Nat) (xs:List Value) (v:Value) (w:World):Prop:=Ql w 9 1 v n xs/\Loc w0 fv v/\w0.heap.size<=w.heap.size
theorem aT' (w0:World) (fv:Value) (n:Nat) (xs:List Value):CL (Lr w0 fv n xs):=λ_ _ _ h hb=>
 ⟨h.1.keep (λg z=>hb.block g (h.1.lt g z)),h.2.1,z26 h.2.2 hb.size⟩
theorem aJ' (F:∀k,N k->k < p.heap.size/\y.ownBlock≠some k):DO N (Lr p y w C):=λ_ _ _ h hF=>
 ⟨h.1.far hF (λg z e=>by
  obtain⟨h1,h2⟩:=F g e;rcases h.2.1 with h3|h3|⟨k,h3,h4⟩
  .rw[h3]at z;cases z
  .rw[h3]at z;exact h2 z
  .rw[h3]at z;cases z;omega),h.2.1,z26 h.2.2 hF.size⟩
theorem yV (s q:Nat) (b:z10) (F:q≠0) (w:World):(binOp .eql 150 (.agg #[Ej s,Ej q,.string b]) (.agg #[Ej 0,Ej 0,.string ⟨#[]⟩])).run prog w=.ok (.bool false) w:=by
 have z:((q:Int) ==0)=false:=by simp;omega
 rw[run_eql_struct,run_equalIn_struct w 9999 150 _ _ (by kernel_rfl) (by kernel_rfl)];cases hs:((s:Int) ==0) <;> simp[go_sem,z,hs]
theorem uM (w:World):(binOp .eql 150 (.agg #[Ej 0,Ej 0,.string ⟨#[]⟩]) (.agg #[Ej 0,Ej 0,.string ⟨#[]⟩])).run prog w=.ok (.bool true) w:=by kernel_rfl
def SH (w x:World) (p e s:Nat) (Qc:Nat->List z10):Prop:=
 ∃arr lv,Yk x p e Qc (λ_=>[]) arr s lv (λ_=>En) (λ_=>.map none) En/\Far (λk=>k=p) w x/\∀i,i < 3->∀g,(lv i).ownBlock=some g->w.heap.size<=g
theorem SH.below {w x y:World} {p e s:Nat} {Qc:Nat->List z10} (h:SH w x p e s Qc) (hb:El x y):SH w y p e s Qc:=by
 obtain⟨arr,lv,h1,h2,h3⟩:=h;exact⟨arr,lv,h1.far (fbF hb) Ih,h2.trans (fbF hb) (λ_ _ h=>h.elim),h3⟩
def LC (s e:Nat) (rv:Value):Array Value:= #[C' s,Ej e,En,En,.map none,En,En,.map none,En,En,.map none,rv]
theorem Do (hb:Eh p w (LC q a En) 125) (F:a<=2147483647):SH p p w a q (λ_=>[]):=by
 have h3:∀i,i < 3->(LC q a En)[2+i * 3]? =some En/\(LC q a En)[2+i * 3+1]? =some En/\(LC q a En)[2+i * 3+2]? =some (.map none):=by
  intro i hi;obtain rfl|rfl|rfl:i=0\/i=1\/i=2:=by omega
  all_goals exact⟨rfl,rfl,rfl⟩
 refine⟨_,λ_=>En,⟨hb,rfl,rfl,rfl,λi hi=>(h3 i hi).1,λi hi=>(h3 i hi).2.1,λi hi=>(h3 i hi).2.2,rfl,λi hi=>BW _ _ _,λi hi=>NZ _,(λi hi x G=>by cases G),(λi j _ _ _ g z=>by cases z),λi j _ _ _ k H=>?_,by simp,F⟩,Far.refl _ _,λi _ g z=>by cases z⟩;rcases H with h|h <;> cases h
theorem yW (z:U[w]? =some T) (h:Mq.skLd (U.take w) 0 (λ_=>[])=some F):
  Mq.skLd (U.take (w+1)) 0 (λ_=>[])=if T.q=0 then some F else if w=Mq.cnt F/\T.q=(F T.s).length+1 then some (Yo F T.s T.b)else none:=by
 obtain⟨hj,e⟩:=z25.1 z;rw[z84 hj,e,Vx,h];simp only[List.length_take];rw[show 0+min w U.length=w by omega];rfl
theorem qF {j:Nat} (h:Mq.skLd (U.take j) 0 (λ_=>[])=none):Mq.skLd U 0 (λ_=>[])=none:=by
 have:=Vx (U.take j) (U.drop j) 0 (λ_=>[]);rw[Cc,h]at this;exact this
theorem lM {w:World} {p e s g cap m:Nat} {rs:List Rc} (aE:Eh w p (LC s e En) 125) (Y:w.ownsRow 0 150 3 (Es g 0 m cap) m (GN rs)) (bc:rs.length=m) (ch:m<=120)
  (bd:∀r∈rs,r=rc0\/r.fits) (be:e<=2147483647):
  Cp 86 #[C' p,Es g 0 m cap] w λr w'=>Rr r (.bool (Mq.skLd rs 0 (λ_=>[])).isSome)/\Far (λk=>k=p) w w'/\∀Qc,Mq.skLd rs 0 (λ_=>[])=some Qc->SH w w' p e s Qc:=by
 have bf:0 < m->g≠p:=λ_ e=>by have:=(Ql.Jc Y).ne aE (by decide);exact this (by rw[e];rfl)
 have bg:∀j r,rs[j]? =some r->w.cell? (Ea g (j * 3))=some (Ej r.s)/\w.cell? (Ea g (j * 3+1))=some (Ej r.q)/\w.cell? (Ea g (j * 3+2))=some (.string r.b):=by intro j r hj;have bh:=(z25.1 hj).1;obtain⟨Z,ci,e,_,_,av⟩:=(Ql.Jc Y).shape;obtain⟨g',cj,aF,av⟩:=av (by omega);rw[aF]at e;injection e with e;injection e with e;injection e with e bE;subst e bE;have ck:=JQ rs;have:=UG rs j r hj;refine⟨?_,?_,?_⟩;have h:=av (j * 3) (by omega);rw[z45]at h;rw[h];exact this.1;have h:=av (j * 3+1) (by omega);rw[z45]at h;rw[h];exact this.2.1;have h:=av (j * 3+2) (by omega);rw[z45]at h;rw[h];exact this.2.2
 have bF:=y' bg;have bG:=y' bf;have cl:=z12 aE;have bi:=y' (Do aE be);have bH:=y' bd;have bj:=y' bc;clear Y bg bf aE bd bc be;unfold C';go_enter func86,ntmps86;go_wp2;go_loopw[5,6,7,10] (λ_ _ _ i wr=>∃j:Nat,j<=m/\i=.int .i64 j/\∃Qc,Mq.skLd (rs.take j) 0 (λ_=>[])=some Qc/\SH w wr p e s Qc) (λ_ _ _ i _=>m - (intOf i).toNat)
 case atStart=>exact⟨0,by omega,rfl,_,rfl,d' bi⟩
 case round=>
  obtain⟨j,hj,rfl,Qc,aG,J⟩:=hrel;clear bi;by_cases cm:j < m
  .obtain⟨r,ax⟩:∃r,rs[j]? =some r:=⟨_,z17 (by have:=d' bj;omega)⟩;obtain⟨aN,bk,aF⟩:=(d' bF) j r ax;have hst:=yW ax aG;have aH:=(d' bH) r (z65 ax);have bI:g < w.heap.size:=z69 _ _ aN;have aI:wr.heap[g]? =w.heap[g]? :=(by obtain⟨_,_,_,hF,_⟩:=J;exact hF.rest g bI ((d' bG) (by omega)));have bJ:=(z46 (w:=w) aI:wr.cell? (Ea g (j * 3))= _).trans aN;have bK:=(z46 (w:=w) aI:wr.cell? (Ea g (j * 3+1))= _).trans bk;have bL:=(z46 (w:=w) aI:wr.cell? (Ea g (j * 3+2))= _).trans aF;have G:=y' J;have ay:=y' hst;have cn:=y' ax;clear aI aN bk aF J aG hst ax;obtain⟨aa,aJ⟩:=exq (wr.heap.size);have cp:=y' aJ;go_upto_region 4 with fail;rw[<-aJ];refine G' (λx=>Eh x aa #[Ej r.s,Ej r.q,.string r.b] 150/\aa < x.heap.size/\SH w x p e s Qc) ?_ ?_;rw[aJ];exact⟨z19 _ _,by simp,(d' G).below bna⟩;clear bJ bK bL aJ G;rintro x ⟨F,bM,bl⟩;obtain⟨r0,ab,ac⟩:=DQ F;simp at r0 ab ac;have ad:=y' F;have G:=y' bl;clear F bl;by_cases ah:r.q=0
   .have bN:r=rc0:=(by rcases aH with h|h;exact h;have:=h.2.1;omega);have bm:=uM;have az:Hid (Mq.skLd (rs.take (j+1)) 0 (λ_=>[])=some Qc):=(by show _= _;rw[d' ay,if_pos ah]);subst bN;unfold rc0 at r0 ab ac;simp only at r0 ab ac;clear ay ah aH;go_wp2;go_roundw
    case rel=>exact⟨j+1,by omega,by go_num,Qc,d' az,d' G⟩
    case measure=>simp[intOf];omega
   have ak:r.fits:=(by rcases aH with h|h;rw[h]at ah;exact absurd rfl ah;exact h);have bm:=yV r.s r.q r.b ah;obtain⟨H,bn,bo,bp⟩:=ak;have s0:(0:Int)<=(r.s:Int):=(by omega);have s3:(r.s:Int) < 3:=(by omega);have aO:=y' (z13 ah (z13 bn (z13 bo bp)));clear ah bn bo bp aH;go_upto_region 5 with fail;go_quiet (fail);go_upto_region 6 with fail;refine G' (λy=>Eh y aa #[Ej r.s,Ej r.q,.string r.b] 150/\SH w y p e s Qc) ⟨d' ad,(d' G).below (z36 (z11 _ _) _)⟩ ?_;clear r0 ab ac ad G bm bM;rintro y ⟨F,J⟩;have ab:=Bi 1 F;have ac:=Bi 2 F;simp at ab ac;have bO:=z12 F;have ad:=y' F;have G:=y' J;obtain⟨arr,lv,K,ai,N⟩:=J;obtain⟨Z,aj,ao,aA⟩:=K.logc H;have aP:=K.Ve H;have bP:(Qc 0).length+(Qc 1).length+(Qc 2).length<=120:=K.cnt;have aq:=λn=>y' (LM (w:=y.drewN n) (K.far (BK (λ_=>False) y n) Ih));have aB:=λn=>y' (JN (y.drewN n) p (2+r.s * 3) _ aj Z aA (by omega));have V:=y' (z13 K (z13 ai (z13 N ao)));have aQ:Mq.cnt Qc=(Qc 0).length+(Qc 1).length+(Qc 2).length:=rfl;clear K ai N ao aA F;obtain⟨aR,aS⟩:=exq ((Qc 0).length+(Qc 1).length+(Qc 2).length);obtain⟨aT,az⟩:=exq ((Qc r.s).length+1);rw[<-aS]at aq aQ bP;rw[<-az]at aB;have aC:=y' (z13 aQ (z13 az aS));clear aQ aS az;unfold C' at aq;by_cases c1:j=aR
   .have bQ:((j:Int) != (aR:Int))=false:=(by simp[c1]);by_cases c2:r.q=aT
    .have bR:((r.q:Int) != (aT:Int))=false:=(by simp[c2]);have aU:=y' (z13 c1 c2);clear c1 c2;go_quiet (first
      |(go_at_call 129;exact z58 (d' (aq _)))
      |(go_at_call 130;exact z58 (d' (aB _))))
     go_upto_region 8 with fail
     refine G' (λau=>Eh au aa #[Ej r.s,Ej r.q,.string r.b] 150/\SH w au p e s Qc) ⟨d' ad,(d' G).below (z36 (z11 _ _) _)⟩ ?_;clear ab ac ad G V aq aB aP bO;rintro au ⟨F,J⟩;obtain⟨arr,lv,K,ai,N⟩:=J;obtain⟨Z,aj,ao,aA⟩:=K.logc H;have aP:=K.Ve H;have cq:=z12 F;have cr:=z12 K.blk;have Y:=K.lgs r.s H;have aK:=K.lgs r.s H |>.ne K.blk (by decide);have bS:=K.lgs r.s H |>.ne F (by decide);have bT:=λg z=>Y.lt g z;have bU:¬aa=p:=λe=>(by have h:=K.blk;rw[<-e,F]at h;injection h with h;injection h with _ h _;exact absurd h (by decide));obtain⟨n0,aV⟩:=exq ((Qc r.s).length);rw[<-aV]at ao aP Y aA;have V:=y' K;have bq:=y' (z13 ai N);have ad:=y' F;have aL:=y' ao;have bV:=y' Y;have bW:=y' aV;clear K ai N F ao Y aA aV;refine AH
      [Ep p (2+r.s * 3),Ep p (2+r.s * 3),Ep p (2+r.s * 3),Ep p (2+r.s * 3),Ev (.slice Z n0 aj),Ep aa 2,Ev (.string r.b),Lq au.heap.size r.b,Lr au (lv r.s) (n0+1) (AF (Qc r.s)++[.string r.b]),Ep p (2+r.s * 3),Ep p (2+r.s * 3),
       λ_ u=>SH w u p e s (Yo Qc r.s r.b)]
      [[7],[7],[2036],[3037],[4038],[6],[6040],[7041],[5039,8042],[1035],[10044],[11045,9043]] [36,37,38,39,40,41,42,43,44,45,46,0] [35,11,1]
      [(8,λk=>(lv r.s).ownBlock=some k),(11,λk=>k=p)] ?_ ?_ (hst:=by repeat' (first|exact Y' _|exact aS' _ _|exact aT' _ _ _ _|exact(λ_ _ _ h hb=>h.below hb)|exact trivial|apply z13)) (hstF:=by repeat' (first|exact trivial|exact .inl rfl|exact .inr (.inr (ab' _ _))|exact .inr (.inr (av' (λg z=>bT g z)))|exact .inr (.inr (av' (λg (z:g=p)=>by omega)))|exact .inr (.inr (aJ' (λg (z:g=p)=>⟨by omega,by rw[z];exact aK⟩)))|exact .inr (.inl (show DM _ 11 8=true by decide+kernel))|apply z13))
     .refine⟨?_,?_,?_,?_,?_,?_,?_,?_,?_,?_,?_,?_,trivial⟩;all_goals
       intro a' M hb ak;have aW:=hb.size;have aM:=y' hb;clear hb;simp[J']at ak
      iterate 4
       .go_simp;exact⟨_,rfl,Far.refl _ _,rfl⟩
      .have d0:=(d' aM).blk (d' V).blk (by rintro⟨q,I,g1,g2,Q⟩;simp at I;rcases I with rfl|rfl;exact aK Q;exact absurd (show DM _ 11 4=false from g2) (by decide+kernel));have d1:M.cell? (Ea p (2+r.s * 3))=some (.slice Z n0 aj):=(by rw[D' d0,(d' V).al r.s H,d' aL]);clear d0;go_simp;exact⟨_,rfl,Far.refl _ _,rfl⟩
      .go_simp;exact⟨_,rfl,Far.refl _ _,rfl⟩
      .have d0:=(d' aM).blk (d' ad) (by rintro⟨q,I,g1,g2,Q⟩;simp at I;rcases I with rfl|rfl;exact bS Q;exact bU Q);have d1:M.cell? (Ea aa 2)=some (.string r.b):=Bi 2 d0;clear d0;go_simp;exact⟨_,rfl,Far.refl _ _,rfl⟩
      .go_simp;exact⟨_,rfl,I' bna,_,rfl,aW,z19 M _⟩
      have bX:=(d' bV).far (d' aM) (by rintro g z ⟨q,I,g1,g2,Q⟩;simp at I;rcases I with rfl|rfl;exact g1 rfl;have Q:g=p:=Q;exact aK (by rw[z,Q]));obtain⟨g,z,cs,bY⟩:=ak.2;have bZ:Ql M 9 1 (.slice Z n0 aj) n0 (AF (Qc r.s)):=(by rw[<-d' aL];exact bX);refine ES rfl (.tmp 39) (.tmp 42) 33 rfl 9 _ 1 16 underlying33 CW rfl (.slice Z n0 aj) n0 (AF (Qc r.s)) bZ (by simp[Act.eval,ak]) ⟨g,0,none⟩ 1 1 [.string r.b] (by simp[Act.eval,z]) rfl ?_ (by intro u hu;simp at hu;subst hu;rfl) (by omega) (by omega) (by omega) ?_;intro k u br;rw[JB,D' bY,z45];simpa using br;intro v' w' g1 g2;have aX:=g2.grown;rw[<-d' aL]at aX g2;exact⟨v',rfl,AQ (.head _) (BU aX),g1,IK aW g2,z26 aW aX.size⟩
      .go_simp;exact⟨_,rfl,Far.refl _ _,rfl⟩
      .go_simp;exact⟨_,rfl,Far.refl _ _,rfl⟩
      have aY:Far (λk=>(lv r.s).ownBlock=some k) au M:=(d' aM).mono (by rintro k _ ⟨q,I,g1,g2,Q⟩;simp at I;rcases I with rfl|rfl;exact Q;exact absurd rfl g1);have d0:=aY.blk (d' V).blk aK;have f1:M.frozen? ⟨p,2+r.s * 3,none⟩=false:=H' d0;have d1:M.cell? (Ea p (2+r.s * 3))=some (.slice Z n0 aj):=(by rw[D' d0,(d' V).al r.s H,d' aL]);obtain⟨cu,aZ⟩:=ak;obtain⟨ca,cb,cc,_⟩:=aZ.1.shape;have bt:=y' aZ;have bu:=y' aY;clear aZ d0 aY;rw[cc]at bt;go_simp;refine⟨AQ (.tail _ (.head _)) (T' M p (2+r.s * 3) _),?_⟩;obtain⟨cd,bw,_⟩:=d' bt;have bz:=(d' bq).1;have ba:=(d' bq).2;have ce:(Qc 0).length+(Qc 1).length+(Qc 2).length < 120:=(by have h1:=(d' aC).2.2;have h2:=(d' aU).1;omega);have cf:=oQ (d' V) r.s H r.b (.slice ca (n0+1) cb) (d' bu) (by rw[<-d' bW,show AF (Qc r.s++[r.b])=AF (Qc r.s)++[.string r.b] by simp[AF]];exact cd) bw ce;have bb:Far (λk=>k=p) w M:=bz.trans (d' bu) (λk br h=>absurd (ba r.s H k h) (by omega));refine⟨_,_,cf,bb.trans (T' M p (2+r.s * 3) _) Ih,λi hi g z=>?_⟩;split at z;rcases bw with h3|h3|⟨k,h3,h4⟩;rw[h3]at z;cases z;rw[h3]at z;exact ba r.s H g z;rw[h3]at z;cases z;have:=bz.size;omega;exact ba i hi g z
     intro f3 z3 bb bA;have bB:=bA.2.2.2.2.2.2.2.2.2.2.2.1;have cg:=y' bB;clear bB bA bb;simp only[V'];go_wp2;go_roundw
     case rel=>refine⟨j+1,by omega,by go_num,_,?_,d' cg⟩;rw[d' ay,if_neg (d' aO).1,if_pos ⟨by rw[(d' aC).1];exact(d' aU).1,by rw[(d' aU).2];exact(d' aC).2.1⟩]
     case measure=>simp[intOf];omega
    have bR:((r.q:Int) != (aT:Int))=true:=(by simp;omega);have aD:Hid (Mq.skLd rs 0 (λ_=>[])=none):=(by refine y' (qF (j:=j+1) ?_);rw[d' ay,if_neg (d' aO).1,if_neg (λh=>c2 (by rw[h.2,(d' aC).2.1]))]);clear c1 c2;go_quiet (first
     |(go_at_call 129;exact z58 (d' (aq _)))
     |(go_at_call 130;exact z58 (d' (aB _))))
    go_wp2;go_ret;refine⟨BR (by rw[d' aD];rfl),(d' V).2.1.trans (BK (λ_=>False) y _) (λ_ _ h=>h.elim),λl h=>?_⟩;rw[d' aD]at h;cases h
   have bQ:((j:Int) != (aR:Int))=true:=(by simp;omega);have aD:Hid (Mq.skLd rs 0 (λ_=>[])=none):=(by refine y' (qF (j:=j+1) ?_);rw[d' ay,if_neg (d' aO).1,if_neg (λh=>c1 (by rw[h.1,(d' aC).1]))]);clear c1;go_quiet (first
    |(go_at_call 129;exact z58 (d' (aq _)))
    |(go_at_call 130;exact z58 (d' (aB _))))
   go_wp2;go_ret;refine⟨BR (by rw[d' aD];rfl),(d' V).2.1.trans (BK (λ_=>False) y _) (λ_ _ h=>h.elim),λl h=>?_⟩;rw[d' aD]at h;cases h
  have bh:j=m:=by omega
  have bC:Mq.skLd rs 0 (λ_=>[])=some Qc:=by rw[<-aG,z48 (by have:=d' bj;omega)]
  have bD:=y' bC;have G:=y' J;clear bC aG J bh;go_wp2;go_ret;refine⟨BR (by rw[d' bD];rfl),?_,λl h=>?_⟩;obtain⟨_,_,_,ai,_⟩:=d' G;exact ai;rw[d' bD]at h;cases h;exact d' G
theorem SH.behind {w x y:World} {p e s:Nat} {Qc:Nat->List z10} (h:SH x y p e s Qc) (hb:El w x):SH w y p e s Qc:=by
 obtain⟨arr,lv,h1,h2,h3⟩:=h;exact⟨arr,lv,h1,(I' (E:=λk=>k=p) hb).trans h2 Ih,λi hi g z=>z26 hb.size (h3 i hi g z)⟩
def FM (L:List UInt8) (h:Hd) (at':Nat):Stv:=⟨h.o+1,1,1 - at',⟨openL L h at',0,false⟩⟩
theorem iX (L:List UInt8) (h:Hd) (at':Nat):((⟨h.o+1,0,at',⟨L,0,false⟩⟩:Stv).Qp h.a h.b h.d).2=FM L h at':=by
 unfold Stv.Qp Dk.put FM openL Zh;simp[Stv.next]
theorem wB (h:Mq.recsFrom r w 0 a=some U):∀z∈U,z=rc0\/z.fits:=by
 intro z F;obtain⟨h1,h2⟩:=Xo a 0 h;obtain⟨x,G,e⟩:=z79.1 F;obtain⟨k1,k2⟩:=h2 x (by omega);rw[z17 G,e]at k2;cases k2;rcases recAt_ok k1 with ⟨_,H⟩|⟨_,_,_,_,_,_,I,_⟩;exact .inl H;exact .inr I
theorem Ha (h:SH p f w a q F) (hs:Zp f q b H y u) (hl:H.dk.bytes.length=7808) (hn:∀k,StU q b y u k->k≠w)
  (J:B=f.setCell ⟨w,11,none⟩ R) (M:Ql (B.alloc aU) 130 2 R 2 (FJ w)):
  ∃c,Jo (B.alloc aU) w a F (λ_=>[]) H c/\(∀k,PkU w c k->k=w\/p.heap.size<=k\/StU q b y u k\/R.ownBlock=some k):=by
 obtain⟨arr,lv,K,Z,N⟩:=h;subst J;have Q:=T' f w 11 R;have G:Below (f.setCell ⟨w,11,none⟩ R).heap.size (f.setCell ⟨w,11,none⟩ R) ((f.setCell ⟨w,11,none⟩ R).alloc aU):=bna;have I:Far (λk=>k=w) f ((f.setCell ⟨w,11,none⟩ R).alloc aU):=Q.trans (fbF G) (λ_ _ h=>h.elim);have z:∀j,j≠11->(arr.setIfInBounds 11 R)[j]? =arr[j]? :=λj hj=>z18 (λa=>hj a.symm);refine⟨⟨arr.setIfInBounds 11 R,q,b,lv,λ_=>En,λ_=>.map none,R,y,u⟩,⟨⟨?_,by simpa using K.sz,?_,?_,?_,?_,?_,?_,?_,λi hi=>NZ _,K.are,K.apl,K.aps,K.cnt,K.ep⟩,?_,M,hl⟩,?_⟩;exact(G.block w (by simp;exact z12 K.blk)).trans (AA K.blk);rw[z _ (by omega)];exact K.a0;rw[z _ (by omega)];exact K.a1;intro i hi;rw[z _ (by omega)];exact K.al i hi;intro i hi;rw[z _ (by omega)];exact K.an i hi;intro i hi;rw[z _ (by omega)];exact K.am i hi;have:=K.sz;simp[this];intro i hi;exact(K.lgs i hi).far I (λg V a=>(K.lgs i hi).ne K.blk (by decide) (by rw[V,a]));exact hs.far I (λk Y a=>hn k Y a);rintro k ((h|⟨i,hi,h⟩|⟨i,hi,h⟩)|h|h);exact .inl h;exact .inr (.inl (N i hi k h));rcases h with h|h <;> cases h;exact .inr (.inr (.inl h));exact .inr (.inr (.inr h))
def Lt (s a b d:Nat) (rv:Value):Array Value:= #[C' s,Ej a,Ej b,Ej d,
 En,.map none,En,.map none,En,.map none,En,.map none,En,.map none,En,.map none,En,.map none,En,.map none,En,.map none,
 En,Ej 0,.bool false,.bool false,rv]
theorem Hb (h:Yz p f w a O X) (hs:Zp f a q H y u) (hl:H.dk.bytes.length=1664) (hn:∀k,StU a q y u k->k≠w)
  (J:B=f.setCell ⟨w,26,none⟩ R) (M:Ql (B.alloc aU) 134 2 R 3 (EN w)):
  ∃c,Ja (B.alloc aU) w O 0 false false X.free (LO X) H c/\(∀k,PaU w c k->k=w\/p.heap.size<=k\/StU a q y u k\/R.ownBlock=some k):=by
 obtain⟨arr,nv,mv,fv,K,Y,N⟩:=h;subst J;have Q:=T' f w 26 R;have I:Below (f.setCell ⟨w,26,none⟩ R).heap.size (f.setCell ⟨w,26,none⟩ R) ((f.setCell ⟨w,26,none⟩ R).alloc aU):=bna;have F:Far (λk=>k=w) f ((f.setCell ⟨w,26,none⟩ R).alloc aU):=Q.trans (fbF I) (λ_ _ h=>h.elim);have z:∀j,j≠26->(arr.setIfInBounds 26 R)[j]? =arr[j]? :=λj hj=>z18 (λe=>hj e.symm);refine⟨⟨arr.setIfInBounds 26 R,a,q,nv,mv,fv,R,y,u⟩,⟨⟨?_,by simpa using K.sz,?_,?_,?_,?_,?_,?_,?_,?_,?_,?_,?_,K.apf,K.aps⟩,?_,M,hl⟩,?_⟩;exact(I.block w (by simp;exact z12 K.blk)).trans (AA K.blk);rw[z _ (by omega)];exact K.a0;intro i hi;rw[z _ (by omega)];exact K.ag i hi;intro i hi;rw[z _ (by omega)];exact K.an i hi;intro i hi;rw[z _ (by omega)];exact K.am i hi;rw[z _ (by omega)];exact K.af;rw[z _ (by omega)];exact K.at';rw[z _ (by omega)];exact K.aw;rw[z _ (by omega)];exact K.ae;have:=K.sz;simp[this];exact K.fr.far F (λO V e=>K.fr.ne K.blk (by decide) (by rw[V,e]));intro i hi;exact(K.shs i hi).far F (λk G e=>(K.shs i hi).ne K.blk (by decide) (by rw[<-e];exact G));exact hs.far F (λk G e=>hn k G e);rintro k (h|h|h);rcases N k h with h|h;exact .inl h;exact .inr (.inl h);exact .inr (.inr (.inl h));exact .inr (.inr (.inr h))
theorem qG (G:World) (v:Value) (L:List UInt8) (aC:Qk G v L) (I:L.length=1664) (ai:Mq.openSt L=some (t,w,U)):
  Cp 49 #[v] G λr w'=>Yb t.num U=none/\r=.returned (.tuple #[.pointer none,Ej 2])/\El G w'\/
   ∃l p c,Yb t.num U=some l/\r=.returned (.tuple #[C' p,Ej 0])/\Ja w' p t.num 0 false false l.free (LO l) (FM L t w) c/\El G w'/\∀k,PaU p c k->G.heap.size<=k:=by
 have Q:=PF G v L 26 aC (by omega) (by omega) (by omega) ai;rw[iX]at Q;obtain⟨aj,ak⟩:=Vg ai;have aD:=wB ak;have aE:U.length=24:=by have:=(Xo _ _ ak).1;rw[this,I]
 obtain⟨_,aF,aG,_⟩:=Vs aj;have aH:=Vk aF;rw[<-aG]at aH;have aI:∀i,i < 3->t.num i<=2147483647:=λi _=>by unfold Hd.num;split;omega;split <;> omega
 have aJ:(FM L t w).dk.bytes.length=1664:=by have:=(Yr aj (m:=26) (by omega) (by omega)).len;exact this
 obtain⟨bz,cap,rfl,be,bf,_⟩:=aC;obtain⟨n,hn⟩:=exq (L.length);rw[<-hn]at I be bf Q ⊢;subst I;generalize FM L t w=st at *;have aK:t.num 0=t.a:=rfl;have aL:t.num 1=t.b:=rfl;have aM:t.num 2=t.d:=rfl;rw[<-aK,<-aL,<-aM]at Q;generalize t.num=V at *;have aN:=y' Q;have Z:=y' (z13 aD (z13 aE (z13 aJ aI)));clear hn ai aj ak aF aG aH Q aD aE aJ aK aL aM aI;obtain⟨res,aa⟩:=exq (Yb V U);rw[<-aa];obtain⟨aO,ao⟩:=exq (V 0);obtain⟨aP,aq⟩:=exq (V 1);obtain⟨nd,au⟩:=exq (V 2);rw[<-ao,<-aq,<-au]at aN;have av:=y' (z13 ao (z13 aq au));clear ao aq au;unfold C' at *;go_enter func49,ntmps49;go_upto_region 7 with (go_at_call 74;refine Cm aN ?_;rintro r y ⟨s,dp,lv,bg,rv,rfl,aQ,aR,Y,hb⟩;obtain⟨bA,bh,rfl,_,_,aS⟩:=(Ql.Jc (AP Y (z54 _))).shape);obtain⟨bi,bj,rfl,_⟩:=aS (by omega);have bk:bj=0:=by rcases Y with ⟨_,⟨t,_⟩|⟨g',bB,bC,t,_⟩⟩;cases t;injection t with t;injection t with t;injection t
 subst bk;clear aS;obtain⟨z,ax⟩:=exq (y.heap.size);have ab:=y' ax;rw[<-ax];have bl:G.heap.size<=z:=by have:=hb.size;omega
 clear ax;refine G' (λx=>Eh x z #[Ej aO,Ej aP,Ej nd,Es bi 0 24 bh] 143/\Eh x (z+1) (Lt s aO aP nd En) 116/\Below z y x) ?_ ?_;rw[d' ab];exact FD _ _ _;rintro x ⟨h5,ac,ad⟩;have bD:=z12 ac;have aT:=Bi 3 h5;simp at aT;have aU:=BA (AP Y (z54 _)) (λg bm=>by have:=(z14 Y g bm).2;exact ad.block g (by rw[d' ab];exact this));have ay:=y' (aQ.far (fbF (by rw[<-d' ab];exact ad)) Ih);have bn:=y' aR;have az:=y' (hb.trans (ad.mono bl));have aV:=y' ac;have aW:Yz x x (z+1) s V ld0:=Dn ac (by rw[<-(d' av).1,<-(d' av).2.1,<-(d' av).2.2];rfl);have aA:=uL aW aU (d' Z).2.1 (by omega) (d' Z).1 (d' Z).2.2.2;rw[<-aa]at aA;have ah:=y' aA;have bE:=y' aa;clear aQ aR Y aU hb ad h5 ac ab aW aA aa;have aX:¬StU s dp lv bg (z+1):=by rintro(t|t);have h1:=(d' ay).blk;rw[<-t,d' aV]at h1;injection h1 with h1;injection h1 with _ h1 _;exact absurd h1 (by decide);exact KW (d' ay).dk (d' aV) (by decide) (by decide) (by decide) t
 unfold C' at ah;cases res with
 |none=>
  go_wp2_with (go_at_call 75;refine Cm ah ?_;rintro r F ⟨rfl,hF,_⟩;replace hF:=y' hF)
  go_ret2
  have J:Far (λk=>k=z+1) G F:=(I' (E:=λk=>k=z+1) (d' az)).trans (d' hF) Ih;first|exact .inl ⟨rfl,rfl,J.below (z16 _) (λk H t=>by omega)⟩|exact⟨rfl,J.below (z16 _) (λk H t=>by omega)⟩|exact .inl ⟨rfl,J.below (z16 _) (λk H t=>by omega)⟩
 |some l=>
  go_upto_region 9 with (go_at_call 75;refine Cm ah ?_;rintro r F ⟨rfl,hF,hl⟩;have I:=hl l rfl;clear hl)
  have aY:=(d' ay).far hF (λk H e=>aX (by rw[<-e];exact H));have J:Far (λk=>k=z+1) G F:=(I' (E:=λk=>k=z+1) (d' az)).trans hF Ih;have M:El G F:=J.below (z16 _) (λk H t=>by omega);have bo:=y' (z13 I (z13 aY M));obtain⟨arr,nv,mv,fv,K,_,_⟩:=I;have aZ:z+1 < F.heap.size:=z12 K.blk;have ba:F.cell? (Ea (z+1) 26)=some En:=by rw[D' K.blk];exact K.ar
  have bF:∀o,(F.alloc o).cell? (Ea (z+1) 26)=some En:=λo=>(z85 F _ ⟨z+1,26,none⟩ aZ).trans ba;have bG:∀o,(F.alloc o).frozen? ⟨z+1,26,none⟩=false:=λo=>H' (i:=26) ((hao _ _ aZ).trans K.blk);have bH:¬z+1=F.heap.size:=by omega
  clear ba K hF J M aY aT ah;go_wp2;go_ret2;obtain⟨I,bp,M⟩:=d' bo;obtain⟨R,bb⟩:=exq (Obj.cells (EN (z+1)).toArray 134 (0,0));obtain⟨bc,aB⟩:=exq (F.setCell ⟨z+1,26,none⟩ (Es F.heap.size 0 3 3));have bq:bc.heap.size=F.heap.size:=by rw[aB,z80]
  have br:Ql (bc.alloc R) 134 2 (Es F.heap.size 0 3 3) 3 (EN (z+1)):=by refine⟨by simp[EN],.inr ⟨F.heap.size,0,3,(EN (z+1)).toArray,rfl,?_,by omega,by unfold maxLen;omega,by simp[EN],by simp[EN]⟩⟩;rw[<-bq,z19,bb]
  obtain⟨c,bd,bt⟩:=Hb I bp (d' Z).2.2.1 (λk H e=>aX (by rw[<-e];exact H)) aB br;have bu:R=Obj.cells #[Ej 2,.func (.func 76) #[Er (z+1) 0] #[],Ej 4,.func (.func 77) #[Er (z+1) 0] #[],Ej 5,.func (.func 78) #[Er (z+1) 0] #[]] 134 (0,0):=by rw[bb];rfl
  subst bu;subst aB;have bI:=(d' az).size;have bw:∀z3,z3=((F.setCell ⟨z+1,26,none⟩ (Es F.heap.size 0 3 3)).alloc (.cells #[Ej 2,.func (.func 76) #[Er (z+1) 0] #[],Ej 4,.func (.func 77) #[Er (z+1) 0] #[],Ej 5,.func (.func 78) #[Er (z+1) 0] #[]] 134 (0,0)))->El G z3/\∀k,PaU (z+1) c k->G.heap.size<=k:=by rintro _ rfl;refine⟨(M.setCell (p:=⟨z+1,26,none⟩) (by show G.heap.size<=z+1;omega) _).alloc (by rw[z80];exact M.size) _,λk H=>?_⟩;rcases bt k H with t|t|t|t;omega;omega;exact(d' bn) k t;have h2:some F.heap.size=some k:=t;injection h2 with h2;have:=M.size;omega
  obtain⟨f1,f2⟩:=bw _ rfl;first|exact .inr ⟨l,z+1,c,rfl,rfl,bd,f1,f2⟩|exact⟨l,z+1,c,rfl,rfl,bd,f1,f2⟩
theorem gC (z:Vq p w bJ y u) (Q:Int):
  Cp 128 #[C' w,.int .u64 Q] p λr w'=>∃v',r=.returned v'/\Qw p.heap.size w' v' bJ.bytes/\El p w':=by
 obtain⟨aa,cap,G,_⟩:=(Ql.Jc z.row).shape;obtain⟨ab,ac,H,_⟩:=z.un.shape;have V:=z.len;have I:Qk p y bJ.bytes:=(show Qw 0 p y bJ.bytes from z.row).at
 have J:=y' (OD p y bJ.bytes I (by omega) V.2);have c0:p.cell? (Ea w 0)=some y:=Bi 0 z.blk;have c1:=Bi 1 z.blk;simp at c1;rw[H]at c1;have Y:=z12 z.blk;rw[G]at c0 J;clear I G H z;unfold C';go_enter func128,ntmps128;go_upto_region 2 with (go_at_call 163;refine Cm J ?_;rintro r Z ⟨v',rfl,F,hb⟩;obtain⟨ad,ah,rfl,_⟩:=F.shape);have c1:=Bc hb Y c1;have M:=y' (z13 F hb);clear F hb c0;go_wp2;go_loopw[6,7,18] (λ_ _ i wr=>i=.int .i64 0/\wr=Z) (λ_ _ _ _=>0)
 case atStart=>exact⟨rfl,rfl⟩
 case round=>obtain⟨rfl,rfl⟩:=hrel;go_wp2;go_ret;exact⟨_,rfl,(d' M).1,(d' M).2⟩
theorem OI (z:Zp p w a H y u) (G:Int):
  Cp 83 #[C' w,.int .u64 G] p λr w'=>∃v',r=.returned v'/\Qw p.heap.size w' v' H.dk.bytes/\El p w':=by
 have c0:p.cell? (Ea w 0)=some (C' a):=Bi 0 z.blk;have I:=y' (gC z.dk G);clear z;unfold C' at *;go_enter func83,ntmps83;go_wp2_with (go_at_call 128;refine Cm I ?_;rintro r J ⟨v',rfl,F,hb⟩;replace F:=y' F;replace hb:=y' hb);go_ret;exact⟨_,rfl,d' F,d' hb⟩
theorem qH (z:Vq p w bJ y u) (n:Int) (hn:n<=9223372036854775807):
  Cp 101 #[C' w,Ej n] p λr w'=>Rr r (.tuple #[])/\Vq w' w {bJ with Xr:=n.toNat} y u/\Far (λk=>k=w) p w':=by
 have H:=λv=>y' (AA (j:=2) (v:=v) z.blk);have I:=y' z;have f2:p.frozen? ⟨w,2,none⟩=false:=H' (i:=2) z.blk;have c2:=Bi 2 z.blk;simp at c2;clear z;have key:∀m:Nat,m=n.toNat->Vq (p.setCell ⟨w,2,none⟩ (Ej m)) w {bJ with Xr:=n.toNat} y u/\Far (λk=>k=w) p (p.setCell ⟨w,2,none⟩ (Ej m)):=by rintro m rfl;have z:=d' I;have G:=T' p w 2 (Ej n.toNat);have h1:=d' (H (Ej n.toNat));refine⟨⟨?_,BA z.row (λg F=>G.rest g (z14 z.row g F).2 (λe=>?_)),z.un.far G (λg F e=>?_),z.len,by show n.toNat<= _;omega⟩,G⟩;simpa using h1;exact(Ql.Jc z.row).ne z.blk (by decide) (by rw[F,e]);exact z.un.ne z.blk (by decide) (by rw[F,e])
 have J:=y' key;clear key H I;by_cases h0:(0:Int)<=n
 .have M:max (0:Int) n=n:=by omega
  unfold C';go_enter func101,ntmps101;go_wp2;obtain⟨k1,k2⟩:=(d' J) n.toNat rfl;have Q:((n.toNat:Nat):Int)=n:=by omega
  rw[Q]at k1 k2;exact z74 (z64 rfl _ _ _) rfl ⟨rfl,k1,k2⟩
 have M:max (0:Int) n=0:=by omega
 unfold C';go_enter func101,ntmps101;go_wp2;obtain⟨k1,k2⟩:=(d' J) 0 (by omega);exact z74 (z64 rfl _ _ _) rfl ⟨rfl,k1,k2⟩
theorem SI (z:Zp p w a H y u) (n:Int) (hn:n<=9223372036854775807):
  Cp 65 #[C' w,Ej n] p λr w'=>Rr r (.tuple #[])/\Zp w' w a {H with dk:={H.dk with Xr:=n.toNat}} y u/\Far (λk=>k=a) p w':=by
 have c0:p.cell? (Ea w 0)=some (C' a):=Bi 0 z.blk;have F:=y' (qH z.dk n hn);have G:=y' z;clear z;unfold C' at *;go_enter func65,ntmps65;go_wp2_with (go_at_call 101;refine Cm F ?_;rintro r J ⟨rfl,k1,k2⟩;replace k1:=y' k1;replace k2:=y' k2);have z:=d' G;have I:w≠a:=λe=>z.sep (.inl e);exact z74 (z64 rfl _ _ _) rfl ⟨rfl,⟨(d' k2).blk z.blk I,d' k1,z.op,z.ct,z.hd⟩,d' k2⟩
theorem gD (z:Jo p w a F L H D) (I:Int):
  Cp 56 #[C' w,.int .u64 I] p λr w'=>∃v',r=.returned v'/\Qw p.heap.size w' v' H.dk.bytes/\El p w':=by
 have c0:p.cell? (Ea w 0)=some (C' D.s):=by rw[D' z.ks.blk,z.ks.a0]
 have J:=y' (OI z.stt I);clear z;unfold C' at *;go_enter func56,ntmps56;go_wp2_with (go_at_call 83;refine Cm J ?_;rintro r y ⟨v',rfl,G,hb⟩;replace G:=y' G;replace hb:=y' hb);go_ret;exact⟨_,rfl,d' G,d' hb⟩
theorem qI (z:Ja p w O a aD aV k L H aL) (G:Int):
  Cp 51 #[C' w,.int .u64 G] p λr w'=>∃v',r=.returned v'/\Qw p.heap.size w' v' H.dk.bytes/\El p w':=by
 have c0:p.cell? (Ea w 0)=some (C' aL.s):=by rw[D' z.ks.blk,z.ks.a0]
 have I:=y' (OI z.stt G);clear z;unfold C' at *;go_enter func51,ntmps51;go_wp2_with (go_at_call 83;refine Cm I ?_;rintro r y ⟨v',rfl,F,hb⟩;replace F:=y' F;replace hb:=y' hb);go_ret;exact⟨_,rfl,d' F,d' hb⟩
theorem yX (hb:Eh p w #[C' a] 79) (G:Jo p a q F L H D) (I:Int):
  Cp 28 #[C' w,.int .u64 I] p λr w'=>∃v',r=.returned v'/\Qw p.heap.size w' v' H.dk.bytes/\El p w':=by
 have c0:p.cell? (Ea w 0)=some (C' a):=Bi 0 hb;have J:=y' (gD G I);clear G hb;unfold C' at *;go_enter func28,ntmps28;go_wp2_with (go_at_call 56;refine Cm J ?_;rintro r y ⟨v',rfl,z,hb⟩;replace z:=y' z;replace hb:=y' hb);go_ret;exact⟨_,rfl,d' z,d' hb⟩
theorem yY (hb:Eh p w #[C' a] 76) (F:Ja p a O q aD aV k L H aL) (G:Int):
  Cp 23 #[C' w,.int .u64 G] p λr w'=>∃v',r=.returned v'/\Qw p.heap.size w' v' H.dk.bytes/\El p w':=by
 have c0:p.cell? (Ea w 0)=some (C' a):=Bi 0 hb;have I:=y' (qI F G);clear F hb;unfold C' at *;go_enter func23,ntmps23;go_wp2_with (go_at_call 51;refine Cm I ?_;rintro r y ⟨v',rfl,z,hb⟩;replace z:=y' z;replace hb:=y' hb);go_ret;exact⟨_,rfl,d' z,d' hb⟩
theorem UH (z:Jo p w a F L H D) (hs:H.dk.dead=false) (bs:Value) (l:List UInt8) (J:Qk p bs l) (M:Qb.reads l=false):
  Cp 44 #[C' w,bs] p λr Q=>Rr r (.tuple #[En,Ej 1])/\El p Q:=by
 have c0:p.cell? (Ea w 0)=some (C' D.s):=by rw[D' z.ks.blk,z.ks.a0]
 have I:=AN z.stt;rw[hs]at I;have V:=y' I;have G:=GS bs l p J;rw[M]at G;simp only[Bool.false_eq_true,if_false,CR]at G;have Y:=y' G;clear z I G;unfold C' at *;go_enter func44,ntmps44;go_wp2_with (first|(go_at_call 66;refine Cm V ?_;rintro r y ⟨rfl,rfl⟩)|(go_at_call 69;refine Cm Y ?_;rintro r y ⟨rfl,hb⟩;replace hb:=y' hb));go_ret2;exact⟨rfl,(d' hb).alloc (d' hb).size _⟩
section
variable {w:World} {p:Nat} {g:Nat->Nat} {tk:Nat} {wel fen:Bool} {free:List Nat} {sh:Nat->List (Nat×Value)} {st:Stv} {c:Av} {a:Ag} {pl:Nat->List Nat}
theorem gE (z:Ja w p g tk wel fen free sh st c) (hs:st.dk.dead=true) (i:Int) (s:z10):
  Cp 50 #[C' p,Ej i,.string s] w λr w'=>Rr r (Ej 3)/\w'=w:=by
 have c0:w.cell? (Ea p 0)=some (C' c.s):=by rw[D' z.ks.blk,z.ks.a0]
 have F:=AN z.stt;rw[hs]at F;have G:=y' F;clear z F;unfold C' at *;go_enter func50,ntmps50;go_wp2_with (go_at_call 66;refine Cm G ?_;rintro r y ⟨rfl,H⟩;obtain rfl:w=y:=H.symm);go_ret;exact⟨rfl,rfl⟩
theorem ZS (z:Ja w p g tk wel fen free sh st c) (hs:st.dk.dead=true) (bs:Value):
  Cp 45 #[C' p,bs] w λr w'=>Rr r (Ej 3)/\w'=w:=by
 have c0:w.cell? (Ea p 0)=some (C' c.s):=by rw[D' z.ks.blk,z.ks.a0]
 have F:=AN z.stt;rw[hs]at F;have G:=y' F;clear z F;unfold C' at *;go_enter func45,ntmps45;go_wp2_with (go_at_call 66;refine Cm G ?_;rintro r y ⟨rfl,H⟩;obtain rfl:w=y:=H.symm);go_ret;exact⟨rfl,rfl⟩
theorem lN (F:Ja w p g tk wel fen free sh st c) (hs:st.dk.dead=true) (i:Int):
  Cp 47 #[C' p,Ej i] w λr w'=>Rr r En/\w'=w:=by
 have c0:w.cell? (Ea p 0)=some (C' c.s):=by rw[D' F.ks.blk,F.ks.a0]
 have H:=AN F.stt;rw[hs]at H;have J:=y' H;have z:=CD i w;cases hst:Qb.isStr i with
 |true=>rw[hst]at z;have I:=y' z;clear F H z hst;unfold C' at *;go_enter func47,ntmps47;go_wp2_with (first|(go_at_call 71;refine Cm I ?_;rintro r y ⟨rfl,G⟩;obtain rfl:w=y:=G.symm)|(go_at_call 66;refine Cm J ?_;rintro r y ⟨rfl,G⟩;obtain rfl:w=y:=G.symm));go_ret;exact⟨rfl,rfl⟩
 |false=>rw[hst]at z;have I:=y' z;clear F H z hst;unfold C' at *;go_enter func47,ntmps47;go_wp2_with (go_at_call 71;refine Cm I ?_;rintro r y ⟨rfl,G⟩;obtain rfl:w=y:=G.symm);go_ret;exact⟨rfl,rfl⟩
theorem yZ (z:Ja w p g tk wel fen free sh st c) (n:Int) (hn:n<=9223372036854775807):
  Cp 41 #[C' p,Ej n] w λr w'=>Rr r (.tuple #[])/\Ja w' p g tk wel fen free sh {st with dk:={st.dk with Xr:=n.toNat}} c/\Far (λk=>k=c.dp) w w':=by
 have c0:w.cell? (Ea p 0)=some (C' c.s):=by rw[D' z.ks.blk,z.ks.a0]
 have F:=y' (SI z.stt n hn);have G:=y' z;clear z;unfold C' at *;go_enter func41,ntmps41;go_wp2_with (go_at_call 65;refine Cm F ?_;rintro r y ⟨rfl,k1,k2⟩;replace k1:=y' k1;replace k2:=y' k2);have z:=d' G;exact z74 (z64 rfl _ _ _) rfl ⟨rfl,⟨z.ks.far (d' k2) (λk H e=>z.sep k H (by rw[e];exact .inr (.inl rfl))),d' k1,z.rl.far (d' k2) (λg I e=>(z.sepr g I).2 (by rw[e];exact .inr (.inl rfl))),z.len⟩,d' k2⟩
theorem qJ (F:Ja w p g tk wel fen free sh st c) (hs:st.dk.dead=true) (ad:tk<=1000000000):
  Cp 43 #[C' p] w λr Z=>Rr r En/\Qy w Z p g (tk+1) wel fen free sh st c:=by
 have aa:w.cell? (Ea p 23)=some (Ej tk):=by rw[D' F.ks.blk,F.ks.at']
 have f23:w.frozen? ⟨p,23,none⟩=false:=H' (i:=23) F.ks.blk;obtain⟨t2,G⟩:=exq (tk+1);rw[<-G];have ab:=y' G;have ac:=y' F;clear F G;unfold C' at *;go_enter func43,ntmps43;go_upto_region 2 with fail;refine G' (λx=>Qy w x p g t2 wel fen free sh st c) ?_ ?_;rw[show((tk:Int)+1)=((t2:Nat):Int) by have:=d' ab;omega];exact LA (d' ac) t2;clear aa f23;rintro x hst;obtain⟨c1,z,J,M,s1,Q⟩:=hst;have d25:x.cell? (Ea p 25)=some (.bool fen):=by rw[D' z.ks.blk,z.ks.ae]
 have d0:x.cell? (Ea p 0)=some (C' c1.s):=by rw[D' z.ks.blk,z.ks.a0]
 have H:=AN z.stt;rw[hs]at H;have V:=y' H;have Y:=y' (⟨c1,z,J,M,s1,Q⟩:Qy w x p g t2 wel fen free sh st c);clear z J M s1 Q H;unfold C' at *;cases fen with
 |true=>
  go_wp2_with (go_at_call 66;refine Cm V ?_;rintro r y ⟨rfl,I⟩;obtain rfl:x=y:=I.symm)
  go_ret;exact⟨rfl,d' Y⟩
 |false=>
  go_wp2_with (go_at_call 66;refine Cm V ?_;rintro r y ⟨rfl,I⟩;obtain rfl:x=y:=I.symm)
  go_ret;exact⟨rfl,d' Y⟩
end
theorem qK (J:Mq.openSt r=some (t,w,U)) (hl:Mq.ldAll t.num U 0 ld0=some X) (M:∀i,i < 3->okP (X.sh i) (t.num i)=true) (Q:r.length=1664):
  Jv (Zt t.o t.num X) (t.o+1) t.num X.free (LO X) (plOf X):=by
 obtain⟨h1,P,h3⟩:=Yx J hl M Q;have G:∀i,i < 3->((Zt t.o t.num X).fl i).base=t.num i:=λi hi=>by unfold Zt;simp only;rw[if_pos hi]
 have H:∀i,i < 3->((Zt t.o t.num X).fl i).kept=(X.sh i).map λe=>(e.2.1,0):=λi hi=>by unfold Zt;simp only;rw[if_pos hi]
 have V:∀i,i < 3->((Zt t.o t.num X).fl i).held=[]:=λi hi=>by unfold Zt;simp only;rw[if_pos hi]
 have I:∀i,LO X (i * 3+1)=[]:=λi=>by unfold LO;rw[if_neg (by omega)]
 have z:∀i,LO X (i * 3+2)=[]:=λi=>by unfold LO;rw[if_neg (by omega)]
 refine⟨rfl,λi hi=>(G i hi).symm,P.pn,λi hi=>?_,λi hi n=>?_,λi hi=>?_,λi hi n=>?_,λi hi=>?_,λi hi=>?_,P.nd,P.lt,P.sum⟩;rw[JV,iW,G i hi,H i hi,h3 i hi]
 .rw[I];unfold GH;rw[H i hi,z77];show none= _;split;rfl;cases (X.sh i)[n - ((Zt t.o t.num X).fl i).base - 1]? with
  |none=>rfl
  |some e=>rfl
 rw[I];exactλx F=>by cases F
 rw[z,V i hi];rfl;rw[z];exactλx F=>by cases F
 rw[z];simp
def QH (op ct n:Nat) (w:World) (v:Nat) (a:Ag) (U:Nat->Prop):Prop:=
 ∃p g free sh z st c,w.heap[v]? =some (.cells #[C' p] 76 (0,0))/\Ja w p g a.Qf a.Qd a.fenced free sh st c/\Yn op ct n st a free z/\Jv a st.Qe g free sh z/\U=λk=>k=v\/PaU p c k
def SJ (op:Nat) (w:World) (v:Nat) (a:Ag) (U:Nat->Prop):Prop:=
 ∃p g free sh st c,w.heap[v]? =some (.cells #[C' p] 76 (0,0))/\Ja w p g a.Qf a.Qd a.fenced free sh st c/\Gw op st a/\a.Qa=op/\U=λk=>k=v\/PaU p c k
section
variable {op ct n N:Nat} {w w':World} {v:Nat} {a:Ag} {U:Nat->Prop}
theorem Hc (h:QH op ct n w v a U):∀k,U k->k < w.heap.size:=by
 obtain⟨p,g,free,sh,G,st,c,hb,z,_,_,rfl⟩:=h;rintro k (rfl|F);exact z12 hb;exact z.lt k F
theorem Dp {E:Nat->Prop} (h:QH op ct n w v a U) (z:Far E w w') (F:∀k,U k->¬E k):QH op ct n w' v a U:=by
 obtain⟨p,g,free,sh,G,st,c,hb,H,h1,h2,rfl⟩:=h;exact⟨p,g,free,sh,G,st,c,z.blk hb (F v (.inl rfl)),H.far z (λk I=>F k (.inr I)),h1,h2,rfl⟩
theorem He (h:SJ op w v a U):∀k,U k->k < w.heap.size:=by
 obtain⟨p,g,free,sh,st,c,hb,z,_,_,rfl⟩:=h;rintro k (rfl|F);exact z12 hb;exact z.lt k F
theorem Dq {E:Nat->Prop} (h:SJ op w v a U) (z:Far E w w') (F:∀k,U k->¬E k):SJ op w' v a U:=by
 obtain⟨p,g,free,sh,st,c,hb,G,h1,h2,rfl⟩:=h;exact⟨p,g,free,sh,st,c,z.blk hb (F v (.inl rfl)),G.far z (λk H=>F k (.inr H)),h1,h2,rfl⟩
theorem Hf (h:QH op ct n w v a U):a.Qa=op:=by
 obtain⟨p,g,free,sh,z,st,c,hb,F,h1,h2,rfl⟩:=h;rw[<-h2.ep];exact h1.op
theorem lO {p:Nat} {c:Av} {z:World} {a':Ag} (hb:Eh w v #[C' p] 76) (G:¬PaU p c v) (H:a'.Qa=op) (h:iT op w z p a' c):
  ∃U',SJ op z v a' U'/\Far (λk=>k=v\/PaU p c k) w z/\∀k,U' k->(k=v\/PaU p c k)\/w.heap.size<=k:=by
 obtain⟨g,free,sh,st,⟨I,K,F,J,s1,Q⟩,hs⟩:=h;refine⟨_,⟨p,g,free,sh,st,I,F.blk hb G,K,hs,H,rfl⟩,F.mono (λ_ _ h=>.inr h),?_⟩;rintro k (rfl|M);exact .inl (.inl rfl);exact(J k M).imp .inr id
theorem lP (i:Int) (s:z10) (h:QH op ct 1 w v a U) (G:Jj N a) (Q:N < 1000000000) (h0:a.Je i s.size=0):
  Cp 22 #[C' v,Ej i,.string s] w λr w'=>
   ∃U',r=.returned (Ej 4)/\SJ op w' v a U'/\Far U w w'/\∀k,U' k->U k\/w.heap.size<=k:=by
 have H:=Hf h;obtain⟨p,g,free,sh,V,st,c,hb,z,hs,O,rfl⟩:=h;have c0:w.cell? (Ea v 0)=some (C' p):=Bi 0 hb;have I:Cp 50 #[C' p,Ej i,.string s] w λr J=>Rr r (Ej 4)/\iT op w J p a c:=by obtain⟨⟨h1,h2⟩,h3,h4⟩:=LX h0;obtain⟨m,rfl⟩:=z62 h1;exact lH z hs O (i:=m) (by omega) s h3 h4 (by have:=G.sum m (by omega);omega)
 have M:=y' I;have F:=y' (z13 hb (z13 (QE z hb) H));clear z O hs hb I H h0 G;unfold C' at *;go_enter func22,ntmps22;go_wp2_with (go_at_call 50;refine Cm M ?_;rintro r y ⟨rfl,k1⟩;replace k1:=y' k1);go_ret;obtain⟨U',h1,h2,h3⟩:=lO (d' F).1 (d' F).2.1 (d' F).2.2 (d' k1);exact⟨U',rfl,h1,h2,h3⟩
theorem lQ (i:Int) (s:z10) (h:SJ op w v a U):Cp 22 #[C' v,Ej i,.string s] w λr w'=>Rr r (Ej 3)/\w'=w:=by
 obtain⟨p,g,free,sh,st,c,hb,z,hs,G,rfl⟩:=h;have c0:w.cell? (Ea v 0)=some (C' p):=Bi 0 hb;have F:=y' (gE z hs.dead i s);clear z hb;unfold C' at *;go_enter func22,ntmps22;go_wp2_with (go_at_call 50;refine Cm F ?_;rintro r y ⟨rfl,rfl⟩);go_ret;exact⟨rfl,rfl⟩
theorem gF (bs:Value) (h:SJ op w v a U):Cp 16 #[C' v,bs] w λr w'=>Rr r (Ej 3)/\w'=w:=by
 obtain⟨p,g,free,sh,st,c,hb,z,hs,G,rfl⟩:=h;have c0:w.cell? (Ea v 0)=some (C' p):=Bi 0 hb;have F:=y' (ZS z hs.dead bs);clear z hb;unfold C' at c0 F;show Cp _ #[Er v 0,bs] w _;go_enter func16,ntmps16;go_wp2_with (go_at_call 45;refine Cm F ?_;rintro r y ⟨rfl,rfl⟩);go_ret;exact⟨rfl,rfl⟩
theorem uN (h:SJ op w v a U) (H:a.Qf<=1000000000):Cp 13 #[C' v] w λr w'=>
  ∃U',r=.returned En/\SJ op w' v {a with Qf:=a.Qf+1} U'/\Far U w w'/\∀k,U' k->U k\/w.heap.size<=k:=by
 obtain⟨p,g,free,sh,st,c,hb,F,hs,G,rfl⟩:=h;have c0:w.cell? (Ea v 0)=some (C' p):=Bi 0 hb;have I:=y' (qJ F hs.dead H);have J:=y' (z13 hb (z13 (QE F hb) (z13 G hs)));clear F hb G hs;unfold C' at *;go_enter func13,ntmps13;go_wp2_with (go_at_call 43;refine Cm I ?_;rintro r y ⟨rfl,k1⟩;replace k1:=y' k1);go_ret;obtain⟨h1,h2,h3,h4⟩:=d' J;obtain⟨M,Q,V,Y,Z,z⟩:=h4.dk;obtain⟨U',k2,k3,k4⟩:=lO (a':={a with Qf:=a.Qf+1}) h1 h2 h3 ⟨g,free,sh,st,d' k1,⟨h4.dead,h4.op,M,Q,V,Y,Z.same (λi _=>⟨rfl,rfl⟩),⟨z.pn,z.nd,z.lt,z.sum⟩⟩⟩;exact⟨U',rfl,k2,k3,k4⟩
theorem wC {p:Nat} {g:Nat->Nat} {tk:Nat} {F G:Bool} {free:List Nat} {sh:Nat->List (Nat×Value)} {st:Stv} {c:Av} (hb:Eh w v #[C' p] 76) (z:Ja w p g tk F G free sh st c) (m:Int) (H:m<=9223372036854775807):
  Cp 11 #[C' v,Ej m] w λr w'=>Rr r (.tuple #[])/\Eh w' v #[C' p] 76/\Ja w' p g tk F G free sh {st with dk:={st.dk with Xr:=m.toNat}} c/\Far (λk=>k=v\/PaU p c k) w w':=by
 have c0:w.cell? (Ea v 0)=some (C' p):=Bi 0 hb;have J:=y' (yZ z m H);have M:=QE z hb;have Q:=y' hb;clear z hb H;unfold C' at *;go_enter func11,ntmps11;go_wp2_with (go_at_call 41;refine Cm J ?_;rintro r y ⟨rfl,k1,k2⟩;replace k1:=y' k1;replace k2:=y' k2);have I:=d' k2;exact z74 (z64 rfl _ _ _) rfl ⟨rfl,I.blk (d' Q) (λe=>M (by rw[e];exact .inr (.inl (.inr (.inl rfl))))),d' k1,I.mono (λk _ e=>.inr (by rw[e];exact .inr (.inl (.inr (.inl rfl)))))⟩
theorem Mo (m:Int) (h:QH op ct n w v a U) (z:m<=9223372036854775807):Cp 11 #[C' v,Ej m] w λr w'=>Rr r (.tuple #[])/\QH op ct m.toNat w' v a U/\Far U w w':=by
 obtain⟨p,g,free,sh,F,st,c,hb,G,hs,O,rfl⟩:=h;refine(wC hb G m z).mono ?_;rintro r y ⟨rfl,k1,k2,k3⟩;exact⟨rfl,⟨p,g,free,sh,F,_,c,k1,k2,⟨hs.dead,rfl,hs.op,hs.ct,hs.dk⟩,O,rfl⟩,k3⟩
end
theorem qL (h1:Mq.ldAll O U 0 ld0=some X) (h2:∀i,i < 3->okP (X.sh i) (O i)=true):Yb O U=some X:=by
 unfold Yb;rw[h1];simp only
 rw[if_pos ⟨h2 0 (by omega),h2 1 (by omega),h2 2 (by omega)⟩]
theorem iY (bs:Value) (L:List UInt8) (ab:Qk p bs L) (J:L.length=1664) (M:Mq.openSt L=some (t,w,U)) (hl:Mq.ldAll t.num U 0 ld0=some X) (z:∀i,i < 3->okP (X.sh i) (t.num i)=true):
  Cp 21 #[bs] p λr w'=>
   ∃v ac,r=.returned (.tuple #[C' v,Ej 0])/\QH (t.o+1) 1 0 w' v (Zt t.o t.num X) ac/\El p w'/\∀k,ac k->p.heap.size<=k:=by
 have H:Hid (Cp 49 #[bs] p λr w'=>∃F c,r=.returned (.tuple #[C' F,Ej 0])/\Ja w' F t.num 0 false false X.free (LO X) (FM L t w) c/\El p w'/\∀k,PaU F c k->p.heap.size<=k):=by refine(qG p bs L ab J M).mono ?_;rintro r y (⟨h1,_⟩|⟨ah,F,c,Q,rfl,k1,k2,k3⟩);rw[qL hl z]at h1;cases h1;rw[qL hl z]at Q;injection Q with Q;subst Q;exact⟨F,c,rfl,k1,k2,k3⟩
 have I:Hid (Yn (t.o+1) 1 0 (FM L t w) (Zt t.o t.num X) X.free (plOf X)):=⟨rfl,rfl,rfl,z16 _,(Yx M hl z J).1⟩;have G:Hid (Jv (Zt t.o t.num X) (FM L t w).Qe t.num X.free (LO X) (plOf X)):=qK M hl z J;have V:(Zt t.o t.num X).Qf=0:=rfl;have Y:(Zt t.o t.num X).Qd=false:=rfl;have Z:(Zt t.o t.num X).fenced=false:=rfl;clear ab M J hl z;generalize Zt t.o t.num X=a at *;generalize FM L t w=st at H I G;generalize t.o+1=op1 at I ⊢;generalize t.num=ai at H G;generalize LO X=aj at H G;generalize plOf X=ak at I G;generalize X.free=lf at H I G;have ad:=y' (z13 V (z13 Y Z));clear V Y Z;unfold C' at *;go_enter func21,ntmps21;go_wp2_with (go_at_call 49;refine Cm H ?_;rintro r y ⟨F,c,rfl,K,hb,aa⟩;replace K:=y' K;replace hb:=y' hb;replace aa:=y' aa);go_ret2;have hb:=d' hb;obtain⟨V,Y,Z⟩:=d' ad;refine⟨y.heap.size,_,rfl,⟨F,_,_,_,_,st,c,z19 _ _,?_,d' I,d' G,rfl⟩,hb.alloc hb.size _,?_⟩;rw[V,Y,Z];exact(d' K).below bna;rintro k (rfl|z);exact hb.size;exact(d' aa) k z
theorem Lu (bs:Value) (L:List UInt8) (H:Qk p bs L) (D:Xu L w a q c k W) (P:Xl c k W) (I:c.Qa=w) (J:w<=1073741824) (M:∀i,i < 3->(c.fl i).base+(c.fl i).kept.length<=1073741824):
  Cp 21 #[bs] p λr w'=>∃v U,r=.returned (.tuple #[C' v,Ej 0])/\QH (w+1) 1 0 w' v (Zq c) U/\El p w'/\∀F,U F->p.heap.size<=F:=by
 obtain⟨z,at',rs,l,Q,V,Y,G⟩:=agLoad_some (D.loads P I J M);have Z:z.o=w:=by have:=congrArg Ag.Qa G;have h1:(Zq c).Qa=c.Qa+1:=rfl;have h2:(Zt z.o z.num l).Qa=z.o+1:=rfl;omega
 subst Z;rw[G];exact iY bs L H D.ok.len Q V Y
theorem Hg:Mq.ldAll Mq.hd0.num ((List.range (26 - 2)).map λ_=>rc0) 0 ld0=some ⟨List.range 24,λ_=>[]⟩:=by rfl
theorem Hh:Zt Mq.hd0.o Mq.hd0.num ⟨List.range 24,λ_=>[]⟩={Qa:=1,Qf:=0,Qd:=false,fenced:=false,fl:=λ_=>{base:=0,kept:=[],held:=[]}}:=by
 unfold Zt;congr 1;funext i;split;have:Mq.hd0.num i=0:=by
  unfold Hd.num;repeat' split
  all_goals rfl
 rw[this];rfl;rfl
theorem qM (bs:Value) (z:Qk p bs (List.replicate 1664 0)):
  Cp 21 #[bs] p λr w'=>
   ∃v U,r=.returned (.tuple #[C' v,Ej 0])/\QH 1 1 0 w' v {Qa:=1,Qf:=0,Qd:=false,fenced:=false,fl:=λ_=>{base:=0,kept:=[],held:=[]}} U/\El p w'/\∀k,U k->p.heap.size<=k:=by
 have F:=Yy 26 (by omega);rw[<-Hh];exact iY bs _ z (by rw[z57]) F Hg (λi _=>by
  have:Mq.hd0.num i=0:=by
   unfold Hd.num;repeat' split
   all_goals rfl
  show okP [] (Mq.hd0.num i)=true;rw[this];rfl)
def Mp (w:World) (v:Nat) (a:Ag) (U:Nat->Prop):Prop:=QH a.Qa (1+OH a) 0 w v a U
section
variable {N:Nat} {w w':World} {v:Nat} {a:Ag} {U:Nat->Prop}
theorem iZ {op ct z n:Nat} (h:QH op ct n w v a U) (F:ct<=z):QH op z n w v a U:=by
 obtain⟨p,g,free,sh,G,st,c,hb,H,hs,O,rfl⟩:=h;exact⟨p,g,free,sh,G,st,c,hb,H,⟨hs.dead,hs.arm,hs.op,z26 hs.ct F,hs.dk⟩,O,rfl⟩
theorem zA (z:Jj N a) (F:N < 1000000000):OH a<=12884901882:=vZ (λi hi=>by have:=z.sum i hi;omega)
theorem qN (h0:a.Je o z.size=0):1+OH a+1<=1+OH (BF a o z)/\(BF a o z).Qa=a.Qa:=by
 obtain⟨⟨h1,h2⟩,h3,h4⟩:=LX h0;obtain⟨m,rfl⟩:=z62 h1;have F:m < 3:=by omega
 have:BF a (m:Int) z=a.Xm m z:=by unfold BF;rw[if_pos h0];rfl
 rw[this];refine⟨?_,rfl⟩;obtain rfl|rfl|rfl:m=0\/m=1\/m=2:=by omega
 all_goals
  simp[OH,Ag.Xm,upd];omega
theorem jA (a:Ag) (l:List UInt8):(CJ a l).2.Qa=a.Qa:=by
 unfold CJ;split
 .unfold Ag.Qv;repeat' split
  all_goals rfl
 rfl
theorem wD (a:Ag):a.tick.1.Qa=a.Qa:=by
 unfold Ag.tick;repeat' split
 all_goals rfl
theorem Lv (bs:Value) (L:List UInt8) {c2 hd:Nat} {free:List Nat} {z:Nat->List Nat} (F:Qk w bs L) (D:Xu L a.Qa c2 hd a free z) (P:Xl a free z) (G:a.Qa<=1073741824) (H:∀i,i < 3->(a.fl i).base+(a.fl i).kept.length<=1073741824):
  Cp 21 #[bs] w λr w'=>∃v U,r=.returned (.tuple #[C' v,Ej 0])/\Mp w' v (Zq a) U/\El w w'/\∀k,U k->w.heap.size<=k:=by
 refine(Lu bs L F D P rfl G H).mono ?_;rintro r y ⟨v,U,rfl,k1,k2,k3⟩;exact⟨v,U,rfl,iZ k1 (by omega),k2,k3⟩
theorem qO (bs:Value) (z:Qk w bs (List.replicate 1664 0)):
  Cp 21 #[bs] w λr w'=>
   ∃v U,r=.returned (.tuple #[C' v,Ej 0])/\Mp w' v {Qa:=1,Qf:=0,Qd:=false,fenced:=false,fl:=λ_=>{base:=0,kept:=[],held:=[]}} U/\El w w'/\∀k,U k->w.heap.size<=k:=by
 refine(qM bs z).mono ?_;rintro r y ⟨v,U,rfl,k1,k2,k3⟩;exact⟨v,U,rfl,iZ k1 (by omega),k2,k3⟩
end
attribute [local go_sem] Oper.semAt_some
section
variable {w:World} {p:Nat} {g:Nat->Nat} {free:List Nat} {sh:Nat->List (Nat×Value)} {st:Stv} {c:Av} {a:Ag} {pl:Nat->List Nat}
theorem qQ (I:Ja w p g a.Qf a.Qd a.fenced free sh st c) (hs:st.dk.dead=false) (O:Jv a st.Qe g free sh pl) (i:Nat) (aa:i < 3):
  Cp 47 #[C' p,Ej i] w λr aW=>∃v,r=.returned v/\aW.ownsRow w.heap.size 9 1 v (a.Xn i).length (AF (a.Xn i))/\Below w.heap.size w aW:=by
 have c0:w.cell? ⟨p,0,none⟩=some (C' c.s):=by rw[D' I.ks.blk,I.ks.a0]
 have aE:=AN I.stt;rw[hs]at aE;have bu:=y' aE;have aF:=CD (i:Int) w;rw[show Qb.isStr (i:Int)=true by simp[Qb.isStr];omega]at aF;have bw:=y' aF;have bQ:=z12 I.ks.blk;have av:=λy (G:Below w.heap.size w y)=>y' (Ce (I.below G).ks.blk (I.ks.an (i * 3) (by omega)) ((I.below G).ks.shs (i * 3) (by omega)));rw[show 4+i * 3 * 2=4+i * 6 by omega]at av;have ad:(sh (i * 3)).length=(a.Xn i).length:=by rw[O.kp i aa,JO _ _ _ (O.pn i aa)];simp[Ag.Xn]
 have aX:(0:Int)<=(i:Int):=by omega
 have bR:(i:Int) < 3:=by omega
 have ax:∀k (F:k < (sh (i * 3)).length),∃ (V:z10) (q:Nat),(sh (i * 3))[k].2=JD V q/\(a.Xn i)[k]? =some V:=by
  intro k F;have aY:k < (a.fl i).kept.length:=by rw[ad]at F;simpa[Ag.Xn]using F
  have h1:=UC (a.fl i).base (a.fl i).kept (pl i) k (O.pn i aa) aY;rw[<-O.kp i aa,z17 F]at h1;injection h1 with h1;exact⟨_,_,by rw[h1],by simp[Ag.Xn,List.getElem?_eq_getElem aY]⟩
 have aZ:kM (sh (i * 3)):=by rw[O.kp i aa];exact OR _ _ _
 have bz:(a.Xn i).length<=24:=by have h1:=O.sum;have h2:=kW (a:=a) aa;simp[Ag.Xn];omega
 have aG:=λy (G:Below w.heap.size w y)=>y' ((I.below G).ks.shs (i * 3) (by omega));have aH:∀y (G:Below w.heap.size w y),Hid (y.cell? ⟨p,4+i * 6,none⟩=some (c.nv (i * 3))/\y.cell? ⟨p,4+i * 6+1,none⟩=some (c.mv (i * 3))):=λy G=>y' ⟨by
  rw[D' (I.below G).ks.blk,show 4+i * 6=4+i * 3 * 2 by omega,I.ks.an (i * 3) (by omega)],by
  rw[D' (I.below G).ks.blk,show 4+i * 6+1=4+i * 3 * 2+1 by omega,I.ks.am (i * 3) (by omega)]⟩
 obtain⟨L,ba⟩:=exq (sh (i * 3));obtain⟨nv,bb⟩:=exq (c.nv (i * 3));obtain⟨mv,bc⟩:=exq (c.mv (i * 3));obtain⟨ab,bd⟩:=exq (a.Xn i);rw[<-bb,<-bc]at aG aH;rw[<-ba]at aG av ax aZ ad;rw[<-bd]at ax ad bz ⊢;have bA:=y' ax;have be:=y' ad;clear I O aE ad ax ba bb bc bd aF;unfold C' at *;refine uA.1 (callsIn_of_wp_marks (n:=5) func47 rfl trivial ?_ rfl);refine xZ.2 ?_;simp only[ntmps47,List.size_toArray,List.length_cons,List.length_nil,Nat.reduceAdd,Nat.reduceSub,Array.replicate_succ,Array.replicate_zero,List.push_toArray,List.append_toArray,List.nil_append,List.cons_append];go_upto_region 4 with (first|(go_at_call 71;refine Cm bw ?_;rintro r y ⟨rfl,aI⟩;obtain rfl:w=y:=aI.symm)|(go_at_call 66;refine Cm bu ?_;rintro r y ⟨rfl,aI⟩;obtain rfl:w=y:=aI.symm));obtain⟨z,ah⟩:=exq (w.heap.size);have aJ:=y' ah;rw[<-ah];refine G' (λx=>x.heap[z]? =some (.cells #[.slice none 0 0] 33 (0,0))/\Below z w x/\x.heap.size=z+1) ?_ ?_;rw[ah];exact⟨z19 _ _,bna,by simp⟩;rintro x ⟨h5,hb,bf⟩;have bg:=y' (d' (av x (by rw[<-ah];exact hb)));have ai:=y' (z13 h5 (z13 hb bf));clear ah h5 hb bf av;go_wp2_with (go_at_call 73;refine Cm bg ?_;rintro r y ⟨rfl,G⟩);clear bg;have aK:y.heap.size=z+3:=by rw[G];simp[JF,(d' ai).2.2]
 have ay:x.heap.size=z+1:=(d' ai).2.2;have aL:y.heap[z]? =some (.cells #[.slice none 0 0] 33 (0,0)):=by rw[G];unfold JF;rw[hao _ _ (by simp;omega),hao _ _ (by omega)];exact(d' ai).1
 have aM:y.heap[z+1]? =some (.cells #[.pointer (some ⟨p,4+i * 6,none⟩)] 197 (0,0)):=by rw[G];unfold JF;rw[hao _ _ (by simp;omega),<-ay];exact z19 _ _
 have aN:y.heap[z+2]? =some (.cells #[Ej L.length] 3 (0,0)):=by rw[G];unfold JF;have:=z19 (x.alloc (.cells #[.pointer (some ⟨p,4+i * 6,none⟩)] 197)) (.cells #[Ej L.length] 3);rw[z92,ay]at this;exact this
 have aO:Below z w y:=by rw[G];unfold JF;exact((d' ai).2.1.alloc (by omega) _).alloc (by simp;omega) _
 rw[<-G,ay];clear G ay ai;refine xZ.1 (VM (n:=5) (b:=z+1) (p:=p) (o:=4+i * 6) (m:=L.length) nv mv L aZ rfl rfl (λk W=>(∃v,W.heap[z]? =some (.cells #[v] 33 (0,0))/\W.ownsRow (z+5) 9 1 v k (AF (ab.take k)))/\W.heap[z+1]? =some (.cells #[.pointer (some ⟨p,4+i * 6,none⟩)] 197 (0,0))/\W.heap[z+2]? =some (.cells #[Ej L.length] 3 (0,0))/\Below z w W/\z+5<=W.heap.size) ?_ ?_ ?_ ?_ ?_ ?_);rintro k W bS ⟨⟨v,h5,J⟩,h1,h2,hb,Z⟩ H;rw[aK]at H;have M:=λk (h:k≠z+3) (bB:k≠z+4)=>H.rest k h (by omega);refine⟨⟨v,(M z (by omega) (by omega)).trans h5,Q' J (λg Q=>?_)⟩,(M _ (by omega) (by omega)).trans h1,(M _ (by omega) (by omega)).trans h2,⟨H.os.trans hb.os,H.tape.trans hb.tape,H.output.trans hb.output,by rw[H.size];exact hb.size,λk F=>(M k (by omega) (by omega)).trans (hb.block k F)⟩,by rw[H.size];exact Z⟩;have:=(z14 J g Q).1;exact M g (by omega) (by omega);rintro k W ⟨_,h1,h2,hb,_⟩;have aP:Below w.heap.size w W:=by rw[<-d' aJ];exact hb
 exact⟨D' h1,D' h2,(d' (aH W aP)).1,(d' (aH W aP)).2,d' (aG W aP)⟩;intro W bh bT;have F:=λk (F:k < y.heap.size)=>bh.block k F;exact⟨⟨_,(F z (by omega)).trans aL,z20 _ _ _ _⟩,(F _ (by omega)).trans aM,(F _ (by omega)).trans aN,aO.trans (bh.mono (by omega)),by omega⟩
 .intro k F W bC bD bE;rw[aK]at bE ⊢;obtain⟨V,q,bi,bj⟩:=(d' bA) k F;rw[bi];obtain⟨⟨v,h5,J⟩,h1,h2,hb,Z⟩:=bD;generalize L[k].1=bU at *;have bk:ab.take (k+1)=ab.take k++[V]:=by rw[sX,bj];rfl
  have bV:k < 24:=by have:=d' be;omega
  have bF:=y' bk;have bl:=y' (z13 h5 (z13 J (z13 h1 (z13 h2 (z13 hb Z)))));clear h5 J h1 h2 hb Z bk bj aL aM aN aO bi bC F;unfold JD;obtain⟨ac,aj⟩:=exq (W.heap.size);have bW:z+5<=ac:=by omega
  have bX:=y' aj;gi_wp2;refine⟨⟨hao _ _ (by omega),hao _ _ (by omega)⟩,?_⟩;intro Y H;obtain⟨h5,J,h1,h2,hb,Z⟩:=d' bl;have M:∀j,j≠z+3->j≠z+4->j < W.heap.size->Y.heap[j]? =W.heap[j]? :=λj h bB hl=>(H.rest j h (by omega)).trans (hao _ _ hl);have bm:Y.heap[ac]? =some (.cells #[.string V,Ej q] 140 (0,0)):=by rw[H.rest ac (by omega) (by omega),aj];exact z19 _ _
  have bG:Y.heap.size=ac+1:=by rw[H.size,aj];simp
  have ak:=(M z (by omega) (by omega) (by omega)).trans h5;have az:=(M _ (by omega) (by omega) (by omega)).trans h1;have aA:=(M _ (by omega) (by omega) (by omega)).trans h2;have aB:Below z w Y:=⟨H.os.trans hb.os,H.tape.trans hb.tape,H.output.trans hb.output,by have:=hb.size;omega,λj hj=>(M j (by omega) (by omega) (by omega)).trans (hb.block j hj)⟩;have ao:Y.ownsRow (z+5) 9 1 v k (AF (ab.take k)):=Q' J (λg Q=>by have:=z14 J g Q;exact M g (by omega) (by omega) this.2);obtain⟨bn,cap,rfl,_⟩:=(CV ao).shape;have d5:=Bi 0 ak;have f5:=H' (i:=0) ak;have d7:=Bi 0 bm;simp at d5 d7;rw[<-aj];obtain⟨xs,aQ⟩:=exq (AF (ab.take k));rw[<-aQ]at ao;have bY:xs.length=k:=ao.1 |> λh=>by simpa using h
  have bH:=y' aQ;have bo:=y' (z13 ak (z13 az (z13 aA aB)));have aR:=y' ao;clear h5 J h1 h2 hb Z M bm ak az aA aB ao H bl aQ aj;have bI:∀bp,(Y.alloc bp).heap[z]? =some (.cells #[.slice bn k cap] 33 (0,0)):=λbp=>(hao _ _ (by omega)).trans (d' bo).1;have bq:∀j,j < z+5->some j≠(Value.slice bn k cap).ownBlock:=λj hj e=>by have:=(z14 (d' aR) j e.symm).1;omega
  have br:=cell_one_new Y (.string V) 9;rw[bG]at br;obtain⟨i0,hi,aX,bJ,bK⟩:=jL CW;gi_wp2_with (gi_at_builtin;go_loud (refine wpListIn_append_own _ rfl (.tmp 27) (.tmp 30) 33 rfl (z+5) 9 i0 _ 1 16 underlying33 hi aX bJ bK rfl (by decide) _ k xs rfl (z52 (d' aR) _) ⟨ac+1,0,none⟩ 1 1 [.string V] rfl rfl br (by simp[Value.oneCell']) (by unfold maxLen;omega) (by omega) (by simp;omega) ?_;intro v' w1 aq aC _;obtain⟨aS,aT,bL,_⟩:=(CV aq).shape;subst bL;have au:=(aC.block z (by simp;omega) (bq z (by omega))).trans (bI _);have bM:=Bi 0 au;have bZ:=H' (i:=0) au;simp at bM;replace au:=y' au;replace aq:=y' aq;replace aC:=y' aC));obtain⟨ak,az,aA,aB⟩:=d' bo;have Q:=d' aC;have ca:ac+2<=w1.heap.size:=by have:=Q.size;simp at this;omega
  have aU:=T' w1 z 0 (.slice aS (k+1) aT);have aD:∀j,j≠z->j < z+5->(w1.setCell ⟨z,0,none⟩ (.slice aS (k+1) aT)).heap[j]? =Y.heap[j]? :=λj bN bO=>
   (aU.rest j (by omega) bN).trans ((Q.block j (by simp;omega) (bq j bO)).trans (hao _ _ (by omega)))
  refine⟨aD _ (by omega) (by omega),aD _ (by omega) (by omega),⟨_,by have:=AA (j:=0) (v:=.slice aS (k+1) aT) (d' au);simpa using this,?_⟩,(aD _ (by omega) (by omega)).trans az,(aD _ (by omega) (by omega)).trans aA,?_,?_⟩;have e:AF (ab.take (k+1))=xs++[.string V]:=by rw[d' bF,d' bH];simp[AF]
  rw[e];exact Q' (d' aq) (λg bP=>by have:=z14 (d' aq) g bP;exact aU.rest g this.2 (by omega));exact((aB.alloc (by omega) _).grown Q (by simp;omega) (λj e=>by have:=(z14 (d' aR) j e).1;omega)).setCell (p:=⟨z,0,none⟩) (z16 _) _;have:=aU.size;omega
 intro k W h;have:=h.2.2.2.2;omega;intro W h hK;rw[aK]at hK ⊢;rw[Nat.min_self,d' be,Kl]at h;obtain⟨⟨v,h5,J⟩,_,_,hb,Z⟩:=h;have c5:=Bi 0 h5;simp at c5;have aV:=y' (z13 J hb);clear h5 J hb aL aM aN aO;go_wp2;have bt:∀j,j≠z+3->(W.putObj (z+3) (.deferred none)).heap[j]? =W.heap[j]? :=λj h=>xY h;refine⟨by simp,.inl ⟨_,_,rfl,run_takeDeferred hK,?_⟩⟩;refine⟨_,results_tmp rfl _ _ _,_,rfl,AP (Q' (d' aV).1 (λg Q=>bt g (by have:=(z14 (d' aV).1 g Q).1;omega))) (by have:=d' aJ;omega),?_⟩;obtain⟨_,hb⟩:=d' aV;rw[<-d' aJ];exact⟨hb.os,hb.tape,hb.output,by rw[Le];exact hb.size,λk F=>(bt k (by omega)).trans (hb.block k F)⟩
theorem lR (F:Ja w p g a.Qf a.Qd a.fenced free sh st c) (hs:st.dk.dead=false) (O:Jv a st.Qe g free sh pl) (i:Int):
  Cp 47 #[C' p,Ej i] w λr G=>∃v,r=.returned v/\G.ownsRow w.heap.size 9 1 v (DT a i).length (AF (DT a i))/\El w G:=by
 unfold DT;by_cases h:0<=i/\i < 3;rw[if_pos h];obtain⟨n,rfl⟩:=z62 h.1;exact qQ F hs O n (by omega);rw[if_neg h];have hst:Qb.isStr i=false:=by cases H:Qb.isStr i;rfl;simp[Qb.isStr]at H;omega
 have z:=CD i w;rw[hst]at z;have I:=y' z;clear F O hs z hst h;unfold C' at *;go_enter func47,ntmps47;go_wp2_with (go_at_call 71;refine Cm I ?_;rintro r y ⟨rfl,J⟩;obtain rfl:w=y:=J.symm);go_ret;exact⟨_,rfl,z20 _ _ _ _,z11 _ _⟩
end
def WL (n:Nat) (w:World) (v:Nat) (a:Ag) (U:Nat->Prop):Prop:=QH a.Qa (1+OH a) n w v a U
section
variable {n N:Nat} {w w':World} {v:Nat} {a:Ag} {U:Nat->Prop}
theorem PG (a:Ag) (i:Int) (s:z10):(BF a i s).Qa=a.Qa:=by
 unfold BF;split <;> rfl
theorem wE {p:Nat} {c:Av} {z:World} {a':Ag} (hb:Eh w v #[C' p] 76) (G:¬PaU p c v) {op:Nat×Nat} (H:a'.Qa=op.1) (h:Zy op w z p a' c):
  ∃U',WL op.2 z v a' U'/\Far (λk=>k=v\/PaU p c k) w z/\∀k,U' k->(k=v\/PaU p c k)\/w.heap.size<=k:=by
 obtain⟨g,free,sh,I,st,⟨J,K,F,M,s1,V⟩,hs,O⟩:=h;unfold Zx at hs;rw[<-H]at hs;refine⟨_,⟨p,g,free,sh,I,st,J,F.blk hb G,K,hs,O,rfl⟩,F.mono (λ_ _ h=>.inr h),?_⟩;rintro k (rfl|Q);exact .inl (.inl rfl);exact(M k Q).imp .inr id
def zB (a:Ag) (i:Int) (s:z10) (n:Nat):Nat:=if a.Je i s.size=0 then n - 1 else n
theorem Dr (i:Int) (s:z10) (h:WL n w v a U) (I:Jj N a) (Q:N < 1000000000) (hn:n≠1\/a.Je i s.size≠0):
  Cp 22 #[C' v,Ej i,.string s] w λr w'=>
   ∃U',r=.returned (Ej (a.Je i s.size))/\WL (zB a i s n) w' v (BF a i s) U'/\Far U w w'/\∀k,U' k->U k\/w.heap.size<=k:=by
 obtain⟨p,g,free,sh,ac,st,c,hb,z,hs,O,rfl⟩:=h;have c0:w.cell? (Ea v 0)=some (C' p):=Bi 0 hb;have J:Cp 50 #[C' p,Ej i,.string s] w λr F=>Rr r (Ej (a.Je i s.size))/\Zy (a.Qa,zB a i s n) w F p (BF a i s) c:=by
  unfold zB;by_cases h0:a.Je i s.size=0;rw[if_pos h0];obtain⟨M,ad⟩:=qN h0;have G:BF a i s=a.Xm i.toNat s:=by unfold BF;rw[if_pos h0]
  obtain⟨⟨h1,h2⟩,h3,h4⟩:=LX h0;obtain⟨m,rfl⟩:=z62 h1;have ah:=zA I Q;refine(lG z hs (by omega) (hn.resolve_right (by rw[h0];simp)) O (i:=m) (by omega) s h3 h4 (by have:=I.sum m (by omega);omega)).mono ?_;rintro r F ⟨rfl,g2,V,Y,Z,aa,k1,k2,k3⟩;rw[G]at M ⊢;refine⟨by rw[h0],g2,V,Y,Z,aa,k1,?_,k3⟩;exact⟨k2.dead,k2.arm,k2.op,z26 k2.ct M,k2.dk⟩;rw[if_neg h0];have G:BF a i s=a:=by unfold BF;rw[if_neg h0]
  rw[G];refine(lF z hs.dead O i s h0).mono ?_;rintro r F ⟨rfl,rfl⟩;exact⟨rfl,EV z hs O⟩
 have ab:=y' J;have H:=y' (z13 hb (z13 (QE z hb) (PG a i s)));generalize BF a i s=a2,a.Je i s.size=e,zB a i s n=n2 at *;clear z O hs hb J hn;unfold C' at *;go_enter func22,ntmps22;go_wp2_with (go_at_call 50;refine Cm ab ?_;rintro r y ⟨rfl,k1⟩;replace k1:=y' k1);go_ret;obtain⟨U',h1,h2,h3⟩:=wE (d' H).1 (d' H).2.1 (d' H).2.2 (d' k1);exact⟨U',rfl,h1,h2,h3⟩
theorem zC (bs:Value) (l:List UInt8) (h:WL n w v a U) (Q:Jj N a) (Y:N < 1000000000) (I:Qk w bs l) (hn:n≠1\/GI a l=0):
  Cp 16 #[C' v,bs] w λr w'=>
   ∃U',r=.returned (Ej (CJ a l).1)/\WL (QF (0,n) (GI a l)).2 w' v (CJ a l).2 U'/\Far U w w'/\∀k,U' k->U k\/w.heap.size<=k:=by
 obtain⟨p,g,free,sh,Z,st,c,hb,F,hs,O,rfl⟩:=h;have c0:w.cell? (Ea v 0)=some (C' p):=Bi 0 hb;have G:=VQ (op:=(a.Qa,n)) F hs O (λi hi=>by have:=Q.sum i hi;omega) bs l I;have H:¬ ((a.Qa,n).2=1/\0 < GI a l):=by show ¬ (n=1/\ _);omega
 simp only[JH H,Rq.is H]at G;clear H;have J:(CJ a l).2.Qa=(QF (a.Qa,n) (GI a l)).1:=by rw[Gx];exact jA a l
 have M:(QF (a.Qa,n) (GI a l)).2=(QF (0,n) (GI a l)).2:=by unfold QF;split <;> rfl
 have V:=y' G;have z:=y' (z13 hb (z13 (QE F hb) (z13 J M)));generalize (CJ a l).2=a2,(CJ a l).1=e,QF (a.Qa,n) (GI a l)=aa,(QF (0,n) (GI a l)).2=n2 at *;clear F O hs hb I G J M hn;unfold C' at *;go_enter func16,ntmps16;go_wp2_with (go_at_call 45;refine Cm V ?_;rintro r y ⟨rfl,k1⟩;replace k1:=y' k1);go_ret;obtain⟨U',h1,h2,h3⟩:=wE (d' z).1 (d' z).2.1 (d' z).2.2.1 (d' k1);rw[(d' z).2.2.2]at h1;exact⟨U',rfl,h1,h2,h3⟩
theorem gG (bs:Value) (l:List UInt8) (h:WL 1 w v a U) (J:Jj N a) (Q:N < 1000000000) (H:Qk w bs l) (z:0 < GI a l):
  Cp 16 #[C' v,bs] w λr w'=>
   ∃U',r=.returned (Ej 4)/\SJ a.Qa w' v a U'/\Far U w w'/\∀k,U' k->U k\/w.heap.size<=k:=by
 obtain⟨p,g,free,sh,V,st,c,hb,F,hs,O,rfl⟩:=h;have c0:w.cell? (Ea v 0)=some (C' p):=Bi 0 hb;have G:=VQ (op:=(a.Qa,1)) F hs O (λi hi=>by have:=J.sum i hi;omega) bs l H;simp only[WU (o:=(a.Qa,1)) ⟨rfl,z⟩,Rq.dead (op:=(a.Qa,1)) ⟨rfl,z⟩]at G;have M:=y' G;clear G;have I:=y' (z13 hb (QE F hb));clear F O hs hb H z;unfold C' at *;go_enter func16,ntmps16;go_wp2_with (go_at_call 45;refine Cm M ?_;rintro r y ⟨rfl,k1⟩;replace k1:=y' k1);go_ret;obtain⟨U',h1,h2,h3⟩:=lO (d' I).1 (d' I).2 rfl (d' k1);exact⟨U',rfl,h1,h2,h3⟩
theorem Lw (h:WL n w v a U) (J:Jj N a) (M:N < 1000000000):
  Cp 13 #[C' v] w λr w'=>
   ∃lv F U',r=.returned lv/\Qj w.heap.size w' lv F (a.tick.2.map λl=>⟨l.toArray⟩) U'/\WL n w' v a.tick.1 U'/\Far U w w'/\∀k,U' k->U k\/w.heap.size<=k:=by
 obtain⟨p,g,free,sh,aj,st,c,hb,G,hs,O,rfl⟩:=h;have c0:w.cell? (Ea v 0)=some (C' p):=Bi 0 hb;have Q:=y' (pZ (op:=(a.Qa,n)) G hs O J M);have ak:=z12 hb;have V:=y' (z13 hb (QE G hb));have Y:=y' (wD a);generalize a.tick.1=a2,a.tick.2=fr at *;clear G O hs hb;unfold C' at *;go_enter func13,ntmps13;go_wp2_with (go_at_call 43;refine Cm Q ?_;rintro r y ⟨lv,F,rfl,k1⟩;replace k1:=y' k1);go_ret;obtain⟨H,k1,⟨g2,free2,Z,aa,ab,K,ac,ad⟩,I,ah,s1,ao⟩:=d' k1;obtain⟨hb,ai⟩:=d' V;refine⟨lv,F,λk=>k=v\/PaU p H k,rfl,k1.apartU ?_,⟨p,g2,free2,Z,aa,ab,H,I.blk hb ai,K,by rw[d' Y];exact ac,ad,rfl⟩,I.mono (λ_ _ h=>.inr h),?_⟩;rintro k z (rfl|hu);have:=(k1.lt k z).1;omega;exact k1.clear k z hu;rintro k (rfl|z);exact .inl (.inl rfl);exact(ah k z).imp .inr id
theorem Hi (i:Int) (h:WL n w v a U):
  Cp 18 #[C' v,Ej i] w λr w'=>
   ∃lv,r=.returned lv/\w'.ownsRow w.heap.size 9 1 lv (DT a i).length (AF (DT a i))/\El w w':=by
 obtain⟨p,g,free,sh,G,st,c,hb,z,hs,O,rfl⟩:=h;have c0:w.cell? (Ea v 0)=some (C' p):=Bi 0 hb;have F:=y' (lR z hs.dead O i);generalize DT a i=xs at *;clear z hb O hs;unfold C' at *;go_enter func18,ntmps18;go_wp2_with (go_at_call 47;refine Cm F ?_;rintro r y ⟨lv,rfl,k1,k2⟩;replace k1:=y' k1;replace k2:=y' k2);go_ret;exact⟨lv,rfl,d' k1,d' k2⟩
theorem Mr (m:Int) (h:WL n w v a U) (z:m<=9223372036854775807):Cp 11 #[C' v,Ej m] w λr w'=>Rr r (.tuple #[])/\WL m.toNat w' v a U/\Far U w w':=Mo m h z
theorem Hj {op:Nat} (m:Int) (h:SJ op w v a U) (z:m<=9223372036854775807):Cp 11 #[C' v,Ej m] w λr w'=>Rr r (.tuple #[])/\SJ op w' v a U/\Far U w w':=by
 obtain⟨p,g,free,sh,st,c,hb,F,hs,G,rfl⟩:=h;refine(wC hb F m z).mono ?_;rintro r y ⟨rfl,k1,k2,k3⟩;exact⟨rfl,⟨p,g,free,sh,_,c,k1,k2,⟨hs.dead,hs.op,hs.dk⟩,G,rfl⟩,k3⟩
end
end Go.Proofs.YtamafdcnbcoegabGreat
namespace Go.Proofs.YtamafdcnbcoegabGreat
attribute [local simp, local go_sem] Ev Ep Ei Eb Et Ej Ea En Er Es
open Qb Mq
open Go.RowKit Go.Proofs.Tryz
theorem qT (R:World->Prop) (A:Nat->Nat->Prop) (w:World) (z:Nat) (ai aA aB:Value) (hs:List Nat) (G:List AD) (M F i:Int) (s:z10) (kp Z aa ab ac:Int) (ad:z10)
  (aj:Jm A w z ai aA aB hs) (Y:w.ownsRow 0 164 1 ai G.length (G.map λV=>C' V.q)) (bd:G.length<=6) (aC: -9223372036854775808<=F/\F<=9223372036854775807) (h0:0 < G.length) (V:AD) (au:G[KZ F G.length]? =some V) (aD:M=4\/M=5\/M=6\/M=7\/M=11\/M=13)
  (av:∀x,El w x->Cp 96 #[C' z,C' V.q,AL M F i s kp Z aa ab ac ad] x λr y=>Rr r (.bool true)/\R y):
  Cp 60 #[C' z,AL M F i s kp Z aa ab ac ad] w λr w'=>Rr r (.bool true)/\R w':=by
 have aE:=λx h=>y' (av x h);have aF:=z12 aj.blk;have aG:=RZ F h0;obtain⟨g,cap,aH⟩:∃g cap,ai=Es g 0 G.length cap:=by obtain⟨g,cap,h⟩:=BS Y (by omega);exact⟨g,cap,h⟩
 subst aH;have ak:=z59 Y (KZ F G.length) (by omega);rw[z77,au]at ak;have aI:=(z14 Y g rfl).2;have be:G.length<=cap:=by have h:=Y.2;rcases h with ⟨_,h⟩|⟨g',bf,bg,h1,_,_,h2,_⟩;omega;injection h1 with _ _ h3;omega
 have aJ:w.cell? (Ea g (KZ F G.length))=some (C' V.q):=by simpa using ak
 have c1:=Bi 0 aj.blk;simp at c1;have aK:=λx=>y' (pC F G.length x aC h0 (by omega));have bh:=y' aG;have bi:=y' h0;clear aj Y ak av au;generalize aL:G.length=J at *;clear aL;generalize aM:KZ F J=j at *;clear aM;have bj:¬J=0:=by omega
 have bk:((J:Int) ==0)=false:=by simp;omega
 have bl:(0:Int)<=j:=by omega
 have bm:(j:Int) < J:=by omega
 unfold C' AL at *;go_enter func60,ntmps60;rcases aD with rfl|rfl|rfl|rfl|rfl|rfl
 case' inl=>let Q:Int:=4
 case' inr.inl=>let Q:Int:=5
 case' inr.inr.inl=>let Q:Int:=6
 case' inr.inr.inr.inl=>let Q:Int:=7
 case' inr.inr.inr.inr.inl=>let Q:Int:=11
 case' inr.inr.inr.inr.inr=>let Q:Int:=13
 all_goals
  go_upto_region 16 with fail
  have ax:=y' ((z11 w.heap.size w).alloc (z16 _) (.cells #[Ej Q,Ej F,Ej i,.string s,.int .u64 kp,Ej Z,Ej aa,Ej ab,Ej ac,.string ad] 94));refine CO
   [Ep z 0,Ep z 0,Ep z 0,Ev (Es g 0 J cap),Ei J,Eb false,Eb false,
    Ep z 0,Ep z 0,Ep z 0,Ep z 0,Ev (Es g 0 J cap),Ep w.heap.size 1,Ei F,
    Ep z 0,Ep z 0,Ep z 0,Ev (Es g 0 J cap),Ei J,Ei j,Ep g j,Ep V.q 0,
    Ev (.agg #[Ej Q,Ej F,Ej i,.string s,.int .u64 kp,Ej Z,Ej aa,Ej ab,Ej ac,.string ad]),Et,Et,Et]
   [[0],[1050],[2051],[3052],[4053],[5054],[6055],[0,7056],[0,7056],[9058,7056],[10059,7056],[11060,7056],[3,7056],[13062,7056],[0,7056],[15064,7056],[16065,7056],[17066,7056],[18067,7056],[14063,19068,7056],[12061,20069,7056],[21070,7056],[3,7056],[8057,22071,23072,7056],[7056,24073],[25074]] [51,52,53,54,55,56,57,58,59,60,61,62,63,64,65,66,67,68,69,70,71,72,73,74,75,5] [4,1,45,25,30]
   23 _ rfl ?_ ?_ ?_
  .refine⟨?_,?_,?_,?_,?_,?_,?_,?_,?_,?_,?_,?_,?_,?_,?_,?_,?_,?_,?_,?_,?_,?_,?_,trivial⟩;all_goals
    intro b x hb ah;have ao:=(d' ax).trans (hb.mono (by simp));have bn:=Bc ao aF c1;have bo:=Bc ao aI aJ;have H:=λk=>DA hb k;have aN:=H 0;have aO:=H 1;have b2:=H 2;have aP:=H 3;have aQ:=H 4;have aR:=H 5;have aS:=H 6;have aT:=H 7;have aU:=H 8;have aV:=H 9;clear hb ao H;simp at aN aO b2 aP aQ aR aS aT aU aV;simp[J']at ah;try (have aW:b.tmps[56]? =some (.bool false):=SC (by first|exact ah|exact ah.2|exact ah.2.2))
    try go_simp
    try simp only[aW,if_true]
    try go_simp
    try exact z11 _ _
   all_goals first
    |exact⟨rfl,z11 _ _⟩
    |(refine Cm (aK _) ?_;rintro e bp ⟨rfl,rfl⟩;exact⟨rfl,z11 _ _⟩)
    |skip
  intro f x I;simp only[AJ,List.take]at I;have aq:=I.2.2.2.2.2.2.1;clear I;simp only[V',aq];rfl
  .intro f aX hb I;simp only[AJ,List.take]at I;have aq:=I.2.2.2.2.2.2.1;have aY:=I.2.2.2.2.2.2.2.1;have aZ:=I.2.2.2.2.2.2.2.2.2.2.2.2.2.2.2.2.2.2.2.2.2.1;have ba:=I.2.2.2.2.2.2.2.2.2.2.2.2.2.2.2.2.2.2.2.2.2.2.1;have bb:=y' ((d' ax).trans (hb.mono (by simp)));clear I hb;simp only[V',aq,aY,aZ,ba];go_simp;refine Cm (aE aX (d' bb)) ?_;rintro bq br ⟨rfl,ay⟩;have bc:=y' ay;clear ay;intro az bt;obtain⟨m,rfl⟩:∃m,az=m+2:=⟨az - 2,by omega⟩;refine BP (i:=24) (by kernel_rfl) rfl rfl ?_;go_simp;refine BP (i:=25) (by kernel_rfl) rfl rfl ?_;go_simp;refine DP (by kernel_rfl) ?_;go_wp2;go_ret;exact⟨rfl,d' bc⟩
theorem UI (R:World->Prop) (A:Nat->Nat->Prop) (w:World) (G:Nat) (H Q V:Value) (hs:List Nat) (z Y i:Int) (s:z10) (kp Z aa ab ac:Int) (ad:z10)
  (F:Jm A w G H Q V hs) (I:w.ownsRow 0 164 1 H 0 []) (ah:z=4\/z=5\/z=6\/z=7\/z=11\/z=13) (J:∀x,El w x->R x):
  Cp 60 #[C' G,AL z Y i s kp Z aa ab ac ad] w λr w'=>Rr r (.bool true)/\R w':=by
 have ai:=λ(x:World) (hb:El w x)=>y' (J x hb);have c1:=Bi 0 F.blk;simp at c1;obtain⟨aj,cap,M,hl,_,_⟩:=AR I;simp only[List.length_nil]at M hl;have ak:=z12 F.blk;clear F I J;subst M;unfold C' AL at *;rcases ah with rfl|rfl|rfl|rfl|rfl|rfl;all_goals
  go_enter func60,ntmps60;go_upto_region 16 with fail;go_quiet (fail);go_wp2;go_ret;exact⟨rfl,d' (ai _ (by first|exact bna|exact z36 bna _))⟩
theorem zD (R:World->Prop) (A:Nat->Nat->Prop) (w:World) (z:Nat) (aA ai aB:Value) (hs:List Nat) (G:List AD) (M F i:Int) (s:z10) (kp Z aa ab ac:Int) (ad:z10)
  (aj:Jm A w z aA ai aB hs) (V:w.ownsRow 0 176 1 ai G.length (G.map λQ=>C' Q.q)) (bd:G.length<=6) (aC: -9223372036854775808<=F/\F<=9223372036854775807) (h0:0 < G.length) (Q:AD) (au:G[KZ F G.length]? =some Q) (aD:M=9\/M=10\/M=12\/M=14)
  (av:∀x,El w x->Cp 98 #[C' z,C' Q.q,AL M F i s kp Z aa ab ac ad] x λr y=>Rr r (.bool true)/\R y):
  Cp 60 #[C' z,AL M F i s kp Z aa ab ac ad] w λr w'=>Rr r (.bool true)/\R w':=by
 have aE:=λx h=>y' (av x h);have aF:=z12 aj.blk;have aG:=RZ F h0;obtain⟨g,cap,aH⟩:∃g cap,ai=Es g 0 G.length cap:=by obtain⟨g,cap,h⟩:=BS V (by omega);exact⟨g,cap,h⟩
 subst aH;have ak:=z59 V (KZ F G.length) (by omega);rw[z77,au]at ak;have aI:=(z14 V g rfl).2;have be:G.length<=cap:=by have h:=V.2;rcases h with ⟨_,h⟩|⟨g',bf,bg,h1,_,_,h2,_⟩;omega;injection h1 with _ _ h3;omega
 have aJ:w.cell? (Ea g (KZ F G.length))=some (C' Q.q):=by simpa using ak
 have c1:=Bi 1 aj.blk;simp at c1;have aK:=λx=>y' (pC F G.length x aC h0 (by omega));have bh:=y' aG;have bi:=y' h0;clear aj V ak av au;generalize aL:G.length=J at *;clear aL;generalize aM:KZ F J=j at *;clear aM;have bj:¬J=0:=by omega
 have bk:((J:Int) ==0)=false:=by simp;omega
 have bl:(0:Int)<=j:=by omega
 have bm:(j:Int) < J:=by omega
 unfold C' AL at *;go_enter func60,ntmps60;rcases aD with rfl|rfl|rfl|rfl
 case' inl=>let Y:Int:=9
 case' inr.inl=>let Y:Int:=10
 case' inr.inr.inl=>let Y:Int:=12
 case' inr.inr.inr=>let Y:Int:=14
 all_goals
  go_upto_region 21 with fail
  have ax:=y' ((z11 w.heap.size w).alloc (z16 _) (.cells #[Ej Y,Ej F,Ej i,.string s,.int .u64 kp,Ej Z,Ej aa,Ej ab,Ej ac,.string ad] 94));refine CO
   [Ep z 0,Ep z 0,Ep z 1,Ev (Es g 0 J cap),Ei J,Eb false,Eb false,
    Ep z 0,Ep z 0,Ep z 0,Ep z 1,Ev (Es g 0 J cap),Ep w.heap.size 1,Ei F,
    Ep z 0,Ep z 0,Ep z 1,Ev (Es g 0 J cap),Ei J,Ei j,Ep g j,Ep Q.q 0,
    Ev (.agg #[Ej Y,Ej F,Ej i,.string s,.int .u64 kp,Ej Z,Ej aa,Ej ab,Ej ac,.string ad]),Et,Et,Et]
   [[0],[1080],[2081],[3082],[4083],[5084],[6085],[0,7086],[0,7086],[9088,7086],[10089,7086],[11090,7086],[3,7086],[13092,7086],[0,7086],[15094,7086],[16095,7086],[17096,7086],[18097,7086],[14093,19098,7086],[12091,20099,7086],[21100,7086],[3,7086],[8087,22101,23102,7086],[7086,24103],[25104]]
   [81,82,83,84,85,86,87,88,89,90,91,92,93,94,95,96,97,98,99,100,101,102,103,104,105,5]
   [4,1,75,25,999]
   23 _ rfl ?_ ?_ ?_
  .refine⟨?_,?_,?_,?_,?_,?_,?_,?_,?_,?_,?_,?_,?_,?_,?_,?_,?_,?_,?_,?_,?_,?_,?_,trivial⟩;all_goals
    intro b x hb ah;have ao:=(d' ax).trans (hb.mono (by simp));have bn:=Bc ao aF c1;have bo:=Bc ao aI aJ;have H:=λk=>DA hb k;have aN:=H 0;have aO:=H 1;have b2:=H 2;have aP:=H 3;have aQ:=H 4;have aR:=H 5;have aS:=H 6;have aT:=H 7;have aU:=H 8;have aV:=H 9;clear hb ao H;simp at aN aO b2 aP aQ aR aS aT aU aV;simp[J']at ah;try (have aW:b.tmps[86]? =some (.bool false):=SC (by first|exact ah|exact ah.2|exact ah.2.2))
    try go_simp
    try simp only[aW,if_true]
    try go_simp
    try exact z11 _ _
   all_goals first
    |exact⟨rfl,z11 _ _⟩
    |(refine Cm (aK _) ?_;rintro e bp ⟨rfl,rfl⟩;exact⟨rfl,z11 _ _⟩)
    |skip
  intro f x I;simp only[AJ,List.take]at I;have aq:=I.2.2.2.2.2.2.1;clear I;simp only[V',aq];rfl
  .intro f aX hb I;simp only[AJ,List.take]at I;have aq:=I.2.2.2.2.2.2.1;have aY:=I.2.2.2.2.2.2.2.1;have aZ:=I.2.2.2.2.2.2.2.2.2.2.2.2.2.2.2.2.2.2.2.2.2.1;have ba:=I.2.2.2.2.2.2.2.2.2.2.2.2.2.2.2.2.2.2.2.2.2.2.1;have bb:=y' ((d' ax).trans (hb.mono (by simp)));clear I hb;simp only[V',aq,aY,aZ,ba];go_simp;refine Cm (aE aX (d' bb)) ?_;rintro bq br ⟨rfl,ay⟩;have bc:=y' ay;clear ay;intro az bt;obtain⟨m,rfl⟩:∃m,az=m+2:=⟨az - 2,by omega⟩;refine BP (i:=24) (by kernel_rfl) rfl rfl ?_;go_simp;refine BP (i:=25) (by kernel_rfl) rfl rfl ?_;go_simp;refine DP (by kernel_rfl) ?_;go_wp2;go_ret;exact⟨rfl,d' bc⟩
theorem ZT (R:World->Prop) (A:Nat->Nat->Prop) (w:World) (G:Nat) (Q H V:Value) (hs:List Nat) (z Y i:Int) (s:z10) (kp Z aa ab ac:Int) (ad:z10)
  (F:Jm A w G Q H V hs) (I:w.ownsRow 0 176 1 H 0 []) (ah:z=9\/z=10\/z=12\/z=14) (J:∀x,El w x->R x):
  Cp 60 #[C' G,AL z Y i s kp Z aa ab ac ad] w λr w'=>Rr r (.bool true)/\R w':=by
 have ai:=λ(x:World) (hb:El w x)=>y' (J x hb);have c1:=Bi 1 F.blk;simp at c1;obtain⟨aj,cap,M,hl,_,_⟩:=AR I;simp only[List.length_nil]at M hl;have ak:=z12 F.blk;clear F I J;subst M;unfold C' AL at *;rcases ah with rfl|rfl|rfl|rfl;all_goals
  go_enter func60,ntmps60;go_upto_region 21 with fail;go_quiet (fail);go_wp2;go_ret;exact⟨rfl,d' (ai _ (by first|exact bna|exact z36 bna _))⟩
structure UJ (K:DK) where
 At0:World->Nat->(Nat->Prop)->Prop
 lt0:∀ {x v U},At0 x v U->∀k,U k->k < x.heap.size
 below0:∀ {x y v U},At0 x v U->El x y->At0 y v U
 open0:∀ {x} (bs:Value),Qk x bs (List.replicate 1664 0)->Cp 21 #[bs] x λr w'=>∃v U,r=.returned (.tuple #[C' v,Ej 0])/\At0 w' v U/\El x w'/\∀k,U k->x.heap.size<=k
 mk0:∀ {y q sv rp U} (n:Nat),y.heap[q]? =some (.cells #[C' sv,C' rp,.bool false,Ej 0] 175 (0,0))->At0 y sv U->y.heap[rp]? =some (.cells EO 171 (0,0))->q≠rp->¬U q->¬U rp->
  ∃t:AD,t.q=q/\t.Is y/\K.A n t/\∀k,t.In k->k=q\/k=rp\/U k
variable{w a q b Q:Nat}{p f:World}{y u R:Value}{k:List Nat}{Y Z:List AD}{N:Nat -> Prop}
theorem lS {K:DK} (F:UJ K) {A:Nat->Nat->Prop} {w1:World} {v1:Value} (S:Qr w q A p b y u R k Y Z) (ab:JG a b y u R (Y++Z)) (ac:∀t∈Y,K.A q t) (ad:∀t∈Z,K.S q t) (ah:Y.length < 6) (hb:El p f) (I:F.At0 f Q N) (ai:∀z,N z->p.heap.size<=z)
  (J:App (((f.alloc (.cells EO 171)).alloc (.cells #[C' Q,C' f.heap.size,.bool false,Ej 0] 175)).alloc (.cells #[C' (f.heap.size+1)] 164)) w1 y v1)
  (aj:w1.ownsRow 0 164 1 v1 (Y.map (λG=>C' G.q)++[C' (f.heap.size+1)]).length (Y.map (λG=>C' G.q)++[C' (f.heap.size+1)])):
  Qx K w (w1.setCell ⟨b,0,none⟩ v1).heap.size q (w1.setCell ⟨b,0,none⟩ v1) b/\Far (λz=>w<=z/\z < a) p (w1.setCell ⟨b,0,none⟩ v1):=by
 have ak:=hb.size;have M:=F.lt0 I;generalize H:(((f.alloc (.cells EO 171)).alloc (.cells #[C' Q,C' f.heap.size,.bool false,Ej 0] 175)).alloc (.cells #[C' (f.heap.size+1)] 164))=X at J;have V:El f X:=by rw[<-H];exact(bna.alloc (by simp) _).alloc (by simp;omega) _
 have ao:X.heap[f.heap.size]? =some (.cells EO 171 (0,0)):=by rw[<-H,z35 _ _ _ (by simp;omega),z35 _ _ _ (by simp)];exact z19 f _
 have aq:X.heap[f.heap.size+1]? =some (.cells #[C' Q,C' f.heap.size,.bool false,Ej 0] 175 (0,0)):=by rw[<-H,z35 _ _ _ (by simp)];have:=z19 (f.alloc (.cells EO 171)) (.cells #[C' Q,C' f.heap.size,.bool false,Ej 0] 175);simpa using this
 obtain⟨t,au,av,ax,ay⟩:=F.mk0 q aq (F.below0 I V) ao (by omega) (λh=>by have:=M _ h;omega) (λh=>by have:=M _ h;omega);obtain⟨aa,az,_⟩:=S.pushA ab ah (hb.trans (V.mono ak)) J t (by rw[au];exact aj) av (λz aA=>S.mine (by rcases ay z aA with rfl|rfl|h;omega;omega;exact ai z h));refine⟨⟨A,_,_,R,k,_,_,aa,aa.bnd,?_,?_⟩,az⟩;intro aB hu;rcases z55.1 hu with h|h;exact ac aB h;rw[z51]at h;subst h;exact ax;exact ad
theorem Ds {K:DK} (J:UJ K) (B D n:Nat) (A:Nat->Nat->Prop) (w:World) (H:Nat) (M av ax:Value) (hs:List Nat) (G ls:List AD) (aN i:Int) (s:z10) (kp aO aP aQ aR:Int) (aS:z10)
  (S:Qr B n A w H M av ax hs G ls) (ay:JG D H M av ax (G++ls)) (az:∀t∈G,K.A n t) (aA:∀t∈ls,K.S n t) (aT:G.length < 6):
  Cp 59 #[C' H,AL 3 aN i s kp aO aP aQ aR aS] w λr w'=>Rr r (.bool true)/\Qx K B w'.heap.size n w' H/\Far (λk=>B<=k/\k < D) w w':=by
 have Q:=y' S;have aU:=y' ay;have aV:=y' az;have aW:=y' aA;have aX:=z12 S.wat.blk;clear S ay az aA;unfold C' AL;go_enter func59,ntmps59;go_upto_region 2 with fail;refine G' (λx=>El w x) bna ?_;intro bm aB;have V:=y' aB;clear aB;obtain⟨Y,Z⟩:=exq (⟨(List.replicate 1664 0).toArray⟩:z10);have aC:∀x,Hid (Cp 95 #[Ej 1664] x λr w'=>Rr r (.string Y)/\El x w'):=λx=>by rw[Z];exact y' (pD 1664 (by omega) x)
 have aD:Y.size<=140737488355328:=by rw[Z];simp[ByteArray.size]
 have aE:Hid (Y.data.toList=List.replicate 1664 0):=by rw[Z];show _= _;simp
 clear Z;go_wp2_with (go_at_call 95;refine Cm (aC _) ?_;rintro bn aY ⟨rfl,ac⟩;obtain⟨aZ,bo,ba,ad,aF⟩:=WZ aY Y aD;rw[d' aE]at ad;have aG:=y' ad;have aa:=y' (((d' V).trans (ac.mono (d' V).size)).trans (aF.mono (z26 (d' V).size ac.size)));clear ad ac aF);refine(J.open0 aZ (d' aG)).mono ?_;rintro bp bb ⟨F,U,rfl,aH,aI,aJ⟩;have aK:=y' ((d' aa).trans (aI.mono (d' aa).size));have bc:Hid (∀k,U k->w.heap.size<=k):=λk ah=>z26 (d' aa).size (aJ k ah);have aL:Hid (J.At0 bb F U):=aH;clear aH aI aJ aG aa ba V aC aD aE;unfold C';go_upto_region 5 with fail;refine G' (λx=>El w x/\J.At0 x F U) ⟨d' aK,d' aL⟩ ?_;clear aK aL;rintro z ⟨I,ai⟩;have aj:Far (λ_=>False) w z:=I' I;have bd:=y' (z52 (z52 (z52 (w:=z) (aj.own (d' Q).Yj Ih) (.cells EO 171)) (.cells #[C' F,C' z.heap.size,.bool false,Ej 0] 175)) (.cells #[C' (z.heap.size+1)] 164));have ab:=aj.blk (d' Q).wat.blk (λh=>h);have c1:=Bi 0 ab;have f1:=H' (i:=0) ab;simp at c1;have bq:=y' I;have br:=y' ai;have be:=y' ab;have bf:=y' (λ(k:Nat) (ah:k < z.heap.size)=>((z35 ((z.alloc (.cells EO 171)).alloc (.cells #[C' F,C' z.heap.size,.bool false,Ej 0] 175)) (.cells #[C' (z.heap.size+1)] 164) k (by simp;omega)).trans ((z35 (z.alloc (.cells EO 171)) (.cells #[C' F,C' z.heap.size,.bool false,Ej 0] 175) k (by simp;omega)).trans (z35 z (.cells EO 171) k ah))));have bg:Hid (z.heap.size<=(((z.alloc (.cells EO 171)).alloc (.cells #[C' F,C' z.heap.size,.bool false,Ej 0] 175)).alloc (.cells #[C' (z.heap.size+1)] 164)).heap.size):=by show _<= _;simp;omega
 have bh:Hid ((((z.alloc (.cells EO 171)).alloc (.cells #[C' F,C' z.heap.size,.bool false,Ej 0] 175)).alloc (.cells #[C' (z.heap.size+1)] 164)).cell? (Ea (z.heap.size+1+1) 0)=some (C' (z.heap.size+1))):=by show _= _;have:=Bi 0 (z19 ((z.alloc (.cells EO 171)).alloc (.cells #[C' F,C' z.heap.size,.bool false,Ej 0] 175)) (.cells #[C' (z.heap.size+1)] 164));simpa using this
 have bi:=λw1 v1 h1 h2=>y' (lS J (w1:=w1) (v1:=v1) (d' Q) (d' aU) (d' aV) (d' aW) aT I ai (d' bc) h1 h2);have bj:=y' (λ(e:M.ownBlock=some H)=>((d' Q).asu H e).2.1 (.inl rfl));have bt:=z21 aX I.size;clear I ai aj ab;unfold EO C' at *;go_upto_region 6 with (at_builtin;(refine DV rfl (.tmp 28) (.tmp 34) 87 rfl 164 (.pointer none) 8 underlying87 Cw rfl M (G.map λak=>Er ak.q 0) (by rw[z42];exact d' bd) rfl ⟨z.heap.size+1+1,0,none⟩ (Er (z.heap.size+1) 0) rfl (d' bh) rfl (by rw[z42];omega) (by rw[z42];omega) ?_;intro v1 w1 ao bk aq;have bl:=y' (d' (bi w1 v1 aq ao));obtain⟨g1,bu,aM⟩:=BS ao (by simp);rw[show(G.map (λak=>Value.pointer (some ⟨ak.q,0,none⟩))++[Value.pointer (some ⟨z.heap.size+1,0,none⟩)]).length=G.length+1 by simp]at aM;have au:=EW aq (d' bf) (d' bg) (d' be) (d' bj);subst aM;have bw:=Bi 0 au;have f11:=H' (i:=0) au;clear au ao bk aq));go_wp2;go_ret;exact⟨rfl,d' bl⟩
theorem qU {K:DK} (ah:UJ K) (B D n:Nat) (w:World) (z:Nat) (I i:Int) (s:z10) (kp J M Q V:Int) (Y:z10) (S:Qx K B D n w z):
  Cp 60 #[C' z,AL 3 I i s kp J M Q V Y] w λr w'=>Rr r (.bool true)/\Qx K B w'.heap.size n w' z/\Far (λk=>B<=k/\k < D) w w':=by
 obtain⟨A,Z,aa,ab,hs,F,ls,S,ai,ac,ad⟩:=S;have hb:∀O,El w (w.alloc O):=λO=>(z11 _ _).alloc (z16 _) O;have G:=λO=>S.below (hb O);have c1:=Bi 0 S.wat.blk;simp at c1;obtain⟨ax,cap,H,hl,_,_⟩:=AR S.Yj;rw[z42]at H hl;have ay:=z12 S.wat.blk;have az:=y' S.bx;by_cases aj:F.length < 6
 .have ak:=λO=>y' (Ds ah B D n A (w.alloc O) z Z aa ab hs F ls I i s kp J M Q V Y (G O) ai ac ad aj);have ao:¬ (6:Int)<=F.length:=by omega
  clear S G hb;subst H;unfold C' AL at *;go_enter func60,ntmps60;go_upto_region 7 with fail;go_wp2_with (go_at_call 59;refine Cm (ak _) ?_;rintro aA aB ⟨rfl,aq,au⟩);go_ret;exact⟨rfl,aq,(I' (E:=λk=>B<=k/\k < D) bna).trans au Ih⟩
 have ao:(6:Int)<=F.length:=by omega
 have av:=λO=>y' (show Qx K B (w.alloc O).heap.size n (w.alloc O) z from⟨A,Z,aa,ab,hs,F,ls,G O,(G O).bnd,ac,ad⟩);clear S G hb;subst H;unfold C' AL at *;go_enter func60,ntmps60;go_wp2;go_ret;exact⟨rfl,d' (av _),I' bna⟩
structure UK (K:DK) where
 At0:World->Nat->(Nat->Prop)->Prop
 lt0:∀ {x v U},At0 x v U->∀k,U k->k < x.heap.size
 below0:∀ {x y v U},At0 x v U->El x y->At0 y v U
 open0:∀ {x} (bs:Value),Qk x bs (List.replicate 7808 0)->Cp 25 #[bs] x λr w'=>∃v U,r=.returned (.tuple #[C' v,Ej 0])/\At0 w' v U/\El x w'/\∀k,U k->x.heap.size<=k
 mk0:∀ {y q sv rp U} (n:Nat),y.heap[q]? =some (.cells #[C' sv,C' rp,.bool false,Ej 0] 182 (0,0))->At0 y sv U->y.heap[rp]? =some (.cells IC 180 (0,0))->q≠rp->¬U q->¬U rp->
  ∃t:AD,t.q=q/\t.Is y/\K.S n t/\∀k,t.In k->k=q\/k=rp\/U k
theorem lT {K:DK} (F:UK K) {A:Nat->Nat->Prop} {w1:World} {v1:Value} (S:Qr w q A p b y u R k Y Z) (ab:JG a b y u R (Y++Z)) (ac:∀t∈Y,K.A q t) (ad:∀t∈Z,K.S q t) (ah:Z.length < 6) (hb:El p f) (I:F.At0 f Q N) (ai:∀z,N z->p.heap.size<=z)
  (J:App (((f.alloc (.cells IC 180)).alloc (.cells #[C' Q,C' f.heap.size,.bool false,Ej 0] 182)).alloc (.cells #[C' (f.heap.size+1)] 176)) w1 u v1)
  (aj:w1.ownsRow 0 176 1 v1 (Z.map (λG=>C' G.q)++[C' (f.heap.size+1)]).length (Z.map (λG=>C' G.q)++[C' (f.heap.size+1)])):
  Qx K w (w1.setCell ⟨b,1,none⟩ v1).heap.size q (w1.setCell ⟨b,1,none⟩ v1) b/\Far (λz=>w<=z/\z < a) p (w1.setCell ⟨b,1,none⟩ v1):=by
 have ak:=hb.size;have M:=F.lt0 I;generalize H:(((f.alloc (.cells IC 180)).alloc (.cells #[C' Q,C' f.heap.size,.bool false,Ej 0] 182)).alloc (.cells #[C' (f.heap.size+1)] 176))=X at J;have V:El f X:=by rw[<-H];exact(bna.alloc (by simp) _).alloc (by simp;omega) _
 have ao:X.heap[f.heap.size]? =some (.cells IC 180 (0,0)):=by rw[<-H,z35 _ _ _ (by simp;omega),z35 _ _ _ (by simp)];exact z19 f _
 have aq:X.heap[f.heap.size+1]? =some (.cells #[C' Q,C' f.heap.size,.bool false,Ej 0] 182 (0,0)):=by rw[<-H,z35 _ _ _ (by simp)];have:=z19 (f.alloc (.cells IC 180)) (.cells #[C' Q,C' f.heap.size,.bool false,Ej 0] 182);simpa using this
 obtain⟨t,au,av,ax,ay⟩:=F.mk0 q aq (F.below0 I V) ao (by omega) (λh=>by have:=M _ h;omega) (λh=>by have:=M _ h;omega);obtain⟨aa,az,_⟩:=S.pushS ab ah (hb.trans (V.mono ak)) J t (by rw[au];exact aj) av (λz aA=>S.mine (by rcases ay z aA with rfl|rfl|h;omega;omega;exact ai z h));refine⟨⟨A,_,_,R,k,_,_,aa,aa.bnd,?_,?_⟩,az⟩;exact ac;intro aB hu;rcases z55.1 hu with h|h;exact ad aB h;rw[z51]at h;subst h;exact ax
theorem Dt {K:DK} (I:UK K) (B D n:Nat) (A:Nat->Nat->Prop) (w:World) (G:Nat) (av J ax:Value) (hs:List Nat) (ab ls:List AD) (aN i:Int) (s:z10) (kp aO aP aQ aR:Int) (aS:z10)
  (S:Qr B n A w G av J ax hs ab ls) (ay:JG D G av J ax (ab++ls)) (az:∀t∈ab,K.A n t) (aA:∀t∈ls,K.S n t) (aT:ls.length < 6):
  Cp 59 #[C' G,AL 8 aN i s kp aO aP aQ aR aS] w λr w'=>Rr r (.bool true)/\Qx K B w'.heap.size n w' G/\Far (λk=>B<=k/\k < D) w w':=by
 have M:=y' S;have aU:=y' ay;have aV:=y' az;have aW:=y' aA;have aX:=z12 S.wat.blk;clear S ay az aA;unfold C' AL;go_enter func59,ntmps59;go_upto_region 7 with fail;refine G' (λx=>El w x) bna ?_;intro bm aB;have Q:=y' aB;clear aB;obtain⟨V,Y⟩:=exq (⟨(List.replicate 7808 0).toArray⟩:z10);have aC:∀x,Hid (Cp 95 #[Ej 7808] x λr w'=>Rr r (.string V)/\El x w'):=λx=>by rw[Y];exact y' (pD 7808 (by omega) x)
 have aD:V.size<=140737488355328:=by rw[Y];simp[ByteArray.size]
 have aE:Hid (V.data.toList=List.replicate 7808 0):=by rw[Y];show _= _;simp
 clear Y;go_wp2_with (go_at_call 95;refine Cm (aC _) ?_;rintro bn aY ⟨rfl,ac⟩;obtain⟨aZ,bo,ba,ad,aF⟩:=WZ aY V aD;rw[d' aE]at ad;have aG:=y' ad;have Z:=y' (((d' Q).trans (ac.mono (d' Q).size)).trans (aF.mono (z26 (d' Q).size ac.size)));clear ad ac aF);refine(I.open0 aZ (d' aG)).mono ?_;rintro bp bb ⟨F,U,rfl,aH,aI,aJ⟩;have aK:=y' ((d' Z).trans (aI.mono (d' Z).size));have bc:Hid (∀k,U k->w.heap.size<=k):=λk ah=>z26 (d' Z).size (aJ k ah);have aL:Hid (I.At0 bb F U):=aH;clear aH aI aJ aG Z ba Q aC aD aE;unfold C';go_upto_region 10 with fail;refine G' (λx=>El w x/\I.At0 x F U) ⟨d' aK,d' aL⟩ ?_;clear aK aL;rintro z ⟨H,ai⟩;have aj:Far (λ_=>False) w z:=I' H;have bd:=y' (z52 (z52 (z52 (w:=z) (aj.own (d' M).Vu Ih) (.cells IC 180)) (.cells #[C' F,C' z.heap.size,.bool false,Ej 0] 182)) (.cells #[C' (z.heap.size+1)] 176));have aa:=aj.blk (d' M).wat.blk (λh=>h);have c1:=Bi 1 aa;have f1:=H' (i:=1) aa;simp at c1;have bq:=y' H;have br:=y' ai;have be:=y' aa;have bf:=y' (λ(k:Nat) (ah:k < z.heap.size)=>((z35 ((z.alloc (.cells IC 180)).alloc (.cells #[C' F,C' z.heap.size,.bool false,Ej 0] 182)) (.cells #[C' (z.heap.size+1)] 176) k (by simp;omega)).trans ((z35 (z.alloc (.cells IC 180)) (.cells #[C' F,C' z.heap.size,.bool false,Ej 0] 182) k (by simp;omega)).trans (z35 z (.cells IC 180) k ah))));have bg:Hid (z.heap.size<=(((z.alloc (.cells IC 180)).alloc (.cells #[C' F,C' z.heap.size,.bool false,Ej 0] 182)).alloc (.cells #[C' (z.heap.size+1)] 176)).heap.size):=by show _<= _;simp;omega
 have bh:Hid ((((z.alloc (.cells IC 180)).alloc (.cells #[C' F,C' z.heap.size,.bool false,Ej 0] 182)).alloc (.cells #[C' (z.heap.size+1)] 176)).cell? (Ea (z.heap.size+1+1) 0)=some (C' (z.heap.size+1))):=by show _= _;have:=Bi 0 (z19 ((z.alloc (.cells IC 180)).alloc (.cells #[C' F,C' z.heap.size,.bool false,Ej 0] 182)) (.cells #[C' (z.heap.size+1)] 176));simpa using this
 have bi:=λw1 v1 h1 h2=>y' (lT I (w1:=w1) (v1:=v1) (d' M) (d' aU) (d' aV) (d' aW) aT H ai (d' bc) h1 h2);have bj:=y' (λ(e:J.ownBlock=some G)=>((d' M).ssu G e).2 (.inl rfl));have bt:=z21 aX H.size;clear H ai aj aa;unfold IC C' at *;go_upto_region 11 with (at_builtin;(refine DV rfl (.tmp 54) (.tmp 60) 88 rfl 176 (.pointer none) 8 underlying88 Cs rfl J (ls.map λak=>Er ak.q 0) (by rw[z42];exact d' bd) rfl ⟨z.heap.size+1+1,0,none⟩ (Er (z.heap.size+1) 0) rfl (d' bh) rfl (by rw[z42];omega) (by rw[z42];omega) ?_;intro v1 w1 ao bk aq;have bl:=y' (d' (bi w1 v1 aq ao));obtain⟨g1,bu,aM⟩:=BS ao (by simp);rw[show(ls.map (λak=>Value.pointer (some ⟨ak.q,0,none⟩))++[Value.pointer (some ⟨z.heap.size+1,0,none⟩)]).length=ls.length+1 by simp]at aM;have au:=EW aq (d' bf) (d' bg) (d' be) (d' bj);subst aM;have bw:=Bi 1 au;have f11:=H' (i:=1) au;clear au ao bk aq));go_wp2;go_ret;exact⟨rfl,d' bl⟩
theorem qV {K:DK} (ah:UK K) (B D n:Nat) (w:World) (z:Nat) (H i:Int) (s:z10) (kp I J M Q:Int) (V:z10) (S:Qx K B D n w z):
  Cp 60 #[C' z,AL 8 H i s kp I J M Q V] w λr w'=>Rr r (.bool true)/\Qx K B w'.heap.size n w' z/\Far (λk=>B<=k/\k < D) w w':=by
 obtain⟨A,Y,Z,aa,hs,ab,ls,S,ai,ac,ad⟩:=S;have hb:∀O,El w (w.alloc O):=λO=>(z11 _ _).alloc (z16 _) O;have F:=λO=>S.below (hb O);have c1:=Bi 1 S.wat.blk;simp at c1;obtain⟨ax,cap,G,hl,_,_⟩:=AR S.Vu;rw[z42]at G hl;have ay:=z12 S.wat.blk;have az:=y' S.bx;by_cases aj:ls.length < 6
 .have ak:=λO=>y' (Dt ah B D n A (w.alloc O) z Y Z aa hs ab ls H i s kp I J M Q V (F O) ai ac ad aj);have ao:¬ (6:Int)<=ls.length:=by omega
  clear S F hb;subst G;unfold C' AL at *;go_enter func60,ntmps60;go_upto_region 9 with fail;go_wp2_with (go_at_call 59;refine Cm (ak _) ?_;rintro aA aB ⟨rfl,aq,au⟩);go_ret;exact⟨rfl,aq,(I' (E:=λk=>B<=k/\k < D) bna).trans au Ih⟩
 have ao:(6:Int)<=ls.length:=by omega
 have av:=λO=>y' (show Qx K B (w.alloc O).heap.size n (w.alloc O) z from⟨A,Y,Z,aa,hs,ab,ls,F O,(F O).bnd,ac,ad⟩);clear S F hb;subst G;unfold C' AL at *;go_enter func60,ntmps60;go_wp2;go_ret;exact⟨rfl,d' (av _),I' bna⟩
structure Zz (B N:Nat) (A:Nat->Nat->Prop) (w x:World) (wb:Nat) (asv ssv hv0 hv:Value) (hs:List Nat) (la ls:List AD):Prop where
 S:Qr B N A x wb asv ssv hv hs la ls
 loc:Loc w hv0 hv
 far:Far (Us wb hv0) w x
section
variable {B N:Nat} {A:Nat->Nat->Prop} {w x y:World} {wb:Nat} {asv ssv hv0 hv:Value} {hs:List Nat} {la ls:List AD}
theorem Zz.start (S:Qr B N A w wb asv ssv hv hs la ls):Zz B N A w w wb asv ssv hv hv hs la ls:=⟨S,.inr (.inl rfl),Far.refl _ _⟩
theorem Zz.below (R:Zz B N A w x wb asv ssv hv0 hv hs la ls) (hb:El x y):Zz B N A w y wb asv ssv hv0 hv hs la ls:=
 ⟨R.S.below hb,R.loc,R.far.trans (fbF hb) (λ_ _ h=>h.elim)⟩
theorem Zz.mine (R:Zz B N A w x wb asv ssv hv0 hv hs la ls) {k:Nat} (z:x.heap.size<=k):UE A wb asv ssv hv (la++ls) k:=
 ⟨R.S.noneOf z,λo h=>by have:=(R.S.a2 k o h).1;omega⟩
theorem Zz.usOld (R:Zz B N A w x wb asv ssv hv0 hv hs la ls) {k:Nat} (F:k < w.heap.size) (h:Us wb hv k):Us wb hv0 k:=by
 rcases h with h|h;exact .inl h;rcases R.loc with z|z|⟨g',z,G⟩;rw[z]at h;cases h;exact .inr (z ▸ h);rw[z]at h;injection h with h;omega
theorem Zz.keep (R:Zz B N A w x wb asv ssv hv0 hv hs la ls) (z F fv:Value) (I J:List Value) (l:List UInt8) (aj:x.ownsRow 0 9 1 z I.length I) (ak:x.ownsRow 0 5 1 F l.length (bv l)) (ao:x.ownsRow 0 48 1 fv J.length J)
  (M:∀g,(z.ownBlock=some g\/F.ownBlock=some g\/fv.ownBlock=some g)->UE A wb asv ssv hv (la++ls) g/\w.heap.size<=g) (aE:N+4<=17592186044416) (aq:l.length<=140737488353990) (z3:I.length<=900) (z4:J.length<=900):
  Cp 91 #[C' wb,C' x.heap.size] (x.alloc (.cells #[z,F,fv,Ej 0,.string ⟨#[]⟩,.string ⟨#[]⟩] 160)) λr y=>Rr r (.tuple #[])/\
   ∃Z G Q,Zz B (N+4) Z w y wb asv ssv hv0 G Q la ls/\Far (λk=>(z.ownBlock=some k\/F.ownBlock=some k\/fv.ownBlock=some k)\/Us wb hv k) x y/\
    ∀k,UE A wb asv ssv hv (la++ls) k->k < x.heap.size->¬ (z.ownBlock=some k\/F.ownBlock=some k\/fv.ownBlock=some k)->UE Z wb asv ssv G (la++ls) k:=by
 have aa:El x (x.alloc (.cells #[z,F,fv,Ej 0,.string ⟨#[]⟩,.string ⟨#[]⟩] 160)):=bna;have V:=R.S.below aa;have aF:=R.S.hn;have au:QA wb asv ssv hv (la++ls) x.heap.size:=R.S.noneOf (z16 _);refine(IV A _ wb x.heap.size asv ssv hv z F fv hs I J l V.wat (z19 x _) (z52 aj _) (z52 ak _) (z52 ao _) (λb o hb=>⟨(V.a2 b o hb).1,?_⟩) (by omega) aq z3 z4).mono ?_;rintro(e|e|e);have:=(R.S.a2 b o hb).1;omega;exact(M b e).1.2 o hb;exact(R.S.a2 b o hb).2.1 e;rintro r ab ⟨rfl,G,Q,aG,W,av,L⟩;have ax:∀k,(k=x.heap.size\/z.ownBlock=some k\/F.ownBlock=some k\/fv.ownBlock=some k)->QA wb asv ssv hv (la++ls) k:=by rintro k (rfl|h);exact au;exact(M k h).1.1
 have ac:Far (λk=>(k=x.heap.size\/z.ownBlock=some k\/F.ownBlock=some k\/fv.ownBlock=some k)\/Us wb hv k) (x.alloc (.cells #[z,F,fv,Ej 0,.string ⟨#[]⟩,.string ⟨#[]⟩] 160)) ab:=av.mono (by rintro k _ (h|h|h);exact .inl (.inl h);exact .inl (.inr h);exact .inr h);have ay:=V.keep (N:=N+4) ax ac L (by omega) (W.mono (λb o ⟨h1,h2⟩=>⟨h1,by rcases h2 with h|h|h|h;exact .inl h;exact .inr (.inl (.inl h));exact .inr (.inl (.inr h));exact .inr (.inr h)⟩));have aH:x.heap.size < (x.alloc (.cells #[z,F,fv,Ej 0,.string ⟨#[]⟩,.string ⟨#[]⟩] 160)).heap.size:=by simp
 have ad:Far (λk=>(z.ownBlock=some k\/F.ownBlock=some k\/fv.ownBlock=some k)\/Us wb hv k) x ab:=(I' (E:=λk=>(z.ownBlock=some k\/F.ownBlock=some k\/fv.ownBlock=some k)\/Us wb hv k) aa).trans ac (by rintro k Y ((h|h)|h);omega;exact .inl h;exact .inr h);have ah:Loc x hv G:=by rcases L with h|h|⟨g,h,aI⟩;exact .inl h;exact .inr (.inl h);exact .inr (.inr ⟨g,h,by omega⟩)
 refine⟨rfl,_,G,Q,⟨ay,FO R.loc ah R.far.size,R.far.trans ad ?_⟩,ad,?_⟩;rintro k Y (h|h);have:=(M k h).2;omega;exact R.usOld Y h;rintro k ⟨⟨ai,az,aA,aB⟩,aC⟩ Y aD;refine⟨⟨λh=>?_,az,aA,aB⟩,?_⟩;rcases h with h|h;exact ai (.inl h);rcases ah with H|H|⟨g',H,aJ⟩;rw[H]at h;cases h;exact ai (.inr (H ▸ h));rw[H]at h;injection h with h;omega;rintro o ⟨_,h|h|h⟩;exact aC o h;rcases h with h|h;omega;exact aD h;omega
end
