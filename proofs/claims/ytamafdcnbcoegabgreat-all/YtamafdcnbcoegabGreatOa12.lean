/-
  Part 12 of a proof.
-/
import Derived.Test.YtamafdcnbcoegabGreatOa11
set_option maxRecDepth 100000
set_option maxHeartbeats 40000000
namespace Go.Proofs.YtamafdcnbcoegabGreat
attribute [local simp, local go_sem] Ev Ep Ei Eb Et Ej Ea En Er Es
open Qb Mq
abbrev z225:= @true_and
open Go.RowKit Go.Proofs.Tryz
def opS (a:Ag) (s:Nat):Ag:={Qa:=a.Qa+1,Qf:=0,Qd:=false,fenced:=false,fl:=λt=>if t < s then(Zq a).fl t else {base:=0,kept:=[],held:=[]}}
def opI (a:Ag) (s i:Nat):Ag:={opS a s with fl:=upd (opS a s).fl s {base:=(a.fl s).base,kept:=((a.fl s).kept.take i).map λx=>(x.1,0),held:=[]}}
theorem Du (a:Ag) (s:Nat):(opS a s).fl s={base:=0,kept:=[],held:=[]}:=by simp[opS]
theorem qW (a:Ag) (s i:Nat):(opI a s i).fl s={base:=(a.fl s).base,kept:=((a.fl s).kept.take i).map λx=>(x.1,0),held:=[]}:=by simp[opI,Mq.Qn]
theorem zE (a:Ag) (s:Nat):{opS a s with fl:=upd (opS a s).fl s {(opS a s).fl s with base:=(a.fl s).base}}=opI a s 0:=by
 unfold opI;rw[Du];rfl
variable{z:z10}{w a q b Q:Nat}{l:Array Value}{j:TypeId}{N:Nat -> Prop}{p f B:World}{y:Value}{C:List Value}{c:Ag}{P:AY}{m I:Nat -> Value}{t:Hd}{U:List Rc}{H:Stv}{F:Nat -> List z10}{x cK:Mq.Sk}{L:Nat -> List (Nat×Value)}{D:Sv}{S:List z10}{o:Int}{r:List UInt8}
theorem Dv (a:Ag) (s i:Nat) (h:(a.fl s).kept[i]? =some (z,w)):
  {opI a s i with fl:=upd (opI a s i).fl s {(opI a s i).fl s with kept:=(((a.fl s).kept.take i).map λx=>(x.1,0))++[(z,0)]}}=opI a s (i+1):=by
 rw[qW];unfold opI;simp only[KQ];rw[sX,h];simp
theorem Hk (a:Ag) (hs:w < 3):opI a w (a.fl w).kept.length=opS a (w+1):=by
 unfold opI opS;simp only[List.take_length,Ag.mk.injEq,true_and];funext t;unfold upd;by_cases h:t=w;subst h;simp[Zq,hs];by_cases h2:t < w;simp[h,h2,show t < w+1 by omega];simp[h,h2,show ¬t < w+1 by omega]
theorem zF (a:Ag):opS a 3=Zq a:=by
 unfold opS Zq;simp only[Ag.mk.injEq,true_and];funext t;by_cases h:t < 3;simp[h];simp[h]
def SK:Nat->Value:=λ_=>En
def qX (B:Nat) (C:Array Value) (T:TypeId) (v:Value) (z:World):Prop:=∃g,v=.pointer (some ⟨g,0,none⟩)/\B<=g/\z.heap[g]? =some (.cells C T (0,0))
theorem aw' (B:Nat) (C:Array Value) (T:TypeId):CL (qX B C T):=λ_ _ _ h hb=>by
 obtain⟨g,e,h1,h2⟩:=h;exact⟨g,e,h1,(hb.block g (z12 h2)).trans h2⟩
def Ly (B:Nat) (C:Array Value) (T:TypeId) (v:Value) (z:World):Prop:=∃g,v=.slice (some ⟨g,0,none⟩) 1 1/\B<=g/\z.heap[g]? =some (.cells C T (0,0))
theorem aU' (B:Nat) (C:Array Value) (T:TypeId):CL (Ly B C T):=λ_ _ _ h hb=>by
 obtain⟨g,e,h1,h2⟩:=h;exact⟨g,e,h1,(hb.block g (z12 h2)).trans h2⟩
theorem ax' (z:∀k,N k->k < w):DO N (Ly w l j):=λ_ _ _ h hF=>by
 obtain⟨g,e,h1,h2⟩:=h;exact⟨g,e,h1,hF.blk h2 (λh=>by have:=z g h;omega)⟩
def Lz (w0:World) (fv:Value) (T:TypeId) (size n:Nat) (xs:List Value) (v:Value) (w:World):Prop:=Ql w T size v n xs/\Loc w0 fv v/\w0.heap.size<=w.heap.size
theorem aV' (w0:World) (fv:Value) (T:TypeId) (size n:Nat) (xs:List Value):CL (Lz w0 fv T size n xs):=λ_ _ _ h hb=>
 ⟨h.1.far (fbF hb) Ih,h.2.1,z26 h.2.2 hb.size⟩
theorem aK' (F:∀k,N k->k < p.heap.size/\y.ownBlock≠some k):DO N (Lz p y j w a C):=λ_ _ _ h hF=>
 ⟨h.1.far hF (λg z G=>by
  rcases h.2.1 with h1|h1|⟨g',h1,h2⟩
  .rw[h1]at z;cases z
  .rw[h1]at z;exact(F g G).2 z
  .rw[h1]at z;injection z with z;have:=(F g G).1;omega),h.2.1,z26 h.2.2 hF.size⟩
theorem SL:∀ {l:List (z10×Nat)} {j:Nat} {b:z10} {n:Nat},l[j]? =some (b,n)->(BO l)[j * 2]? =some (.string b)
 |[],j,_,_,h=>by simp at h
 |x::l,0,b,n,h=>by simp at h;subst h;rfl
 |x::l,j+1,b,n,h=>by simp at h;have:=SL h;rw[show(j+1) * 2=j * 2+2 by omega];simpa[BO]using this
theorem aD' (h:CC p f w c P m I) (hb:El f B):CC p B w c P m I:=by
 obtain⟨z,F,R,G,N⟩:=h;exact⟨z,F,R.far (fbF hb) Ih,G.trans (fbF hb) (λ_ _ h=>h.elim),N⟩
theorem gH (R:Qi p w c P m I) (bn:c.Qa<=100000000000000) (aA:∃bP n bQ,P.ex=.slice bP n bQ):
  Cp 190 #[Er w 0] p λe w'=>∃b ab ac,e=.returned (Er b 0)/\Qi w' b (Zq c) {P with dead:=false} ab ac/\El p w'/\∀k,CP b ab ac k->p.heap.size<=k:=by
 obtain⟨aF,aG,aH,aA⟩:=aA;have c0:=Bi 0 R.blk;have bo:=Bi 14 R.blk;have bp:=Bi 15 R.blk;have bq:=Bi 16 R.blk;have br:=Bi 17 R.blk;have aW:=Bi 18 R.blk;simp[AE]at c0 bo bp bq br aW;have V:=z12 R.blk;have bR:IntKind.i64.wrap ((c.Qa:Int)+1)=((c.Qa+1:Nat):Int):=by rw[z28];omega
 have ai:=y' R;have bS:=y' bn;rw[aA]at aW;have bT:=y' aA;clear R bn aA;go_enter func190,ntmps190;go_upto_region 1 with fail;refine AI
  [Ep w 0,Ep w 0,Ep w 0,Ei c.Qa,Ei (c.Qa+1:Nat),
   Ep w 0,Ep w 0,Ep w 14,Ev (.agg #[Ej P.g0,Ej P.g1,Ej P.g2]),
   Ep w 0,Ep w 0,Ep w 17,Ei P.st,
   Ep w 0,Ep w 0,Ep w 18,Ev (.slice aF aG aH),
   Ev (.agg #[Ej (c.Qa+1:Nat),Ej 0,.bool false,.bool false,.bool false,Ej 0,En,En,Ej 0,En,En,Ej 0,En,En,Ej P.g0,Ej P.g1,Ej P.g2,Ej P.st,.slice aF aG aH]),
   qX p.heap.size #[Ej (c.Qa+1:Nat),Ej 0,.bool false,.bool false,.bool false,Ej 0,En,En,Ej 0,En,En,Ej 0,En,En,Ej P.g0,Ej P.g1,Ej P.g2,Ej P.st,.slice aF aG aH] 171,qX p.heap.size #[Ej (c.Qa+1:Nat),Ej 0,.bool false,.bool false,.bool false,Ej 0,En,En,Ej 0,En,En,Ej 0,En,En,Ej P.g0,Ej P.g1,Ej P.g2,Ej P.st,.slice aF aG aH] 171]
  [[0],[1006],[2007],[3008],[4009],[0],[6011],[7012],[8013],[0],[10015],[11016],[12017],[0],[14019],[15020],[16021],[5010,9014,13018,17022],[18023],[19024]] [7,8,9,10,11,12,13,14,15,16,17,18,19,20,21,22,23,24,25,4] [3,1,2,19,57] ?_ ?_ (hst:=by repeat' (first|exact Y' _|exact aw' _ _ _|exact trivial|apply z13))
 .refine⟨?_,?_,?_,?_,?_,?_,?_,?_,?_,?_,?_,?_,?_,?_,?_,?_,?_,?_,?_,?_,trivial⟩;all_goals
   intro b x hb Y;have aX:=Bc hb V c0;have cB:=Bc hb V bo;have cC:=Bc hb V bp;have cD:=Bc hb V bq;have cE:=Bc hb V br;have cF:=Bc hb V aW;have bt:=hb.size;clear hb;simp[J']at Y;try go_simp
   try exact z11 _ _
  all_goals first
   |exact⟨rfl,z11 _ _⟩
   |(rw[bR];exact⟨rfl,z11 _ _⟩)
   |exact⟨bna,_,rfl,bt,z19 x _⟩
   |exact⟨_,rfl,bna,_,rfl,bt,z19 x _⟩
   |exact⟨_,rfl,z11 _ _,Y⟩
 intro f aY Z Q;simp only[AJ]at Q;have hn:=Q.2.2.2.2.2.2.2.2.2.2.2.2.2.2.2.2.2.2.2.1;obtain⟨b,aI,bu,bw⟩:=hn;clear Q;simp only[V',aI];have bz:Qi aY b (opS c 0) {P with dead:=false} SK SK:=⟨by rw[bw];simp only[AE,d' bT];rfl,λ_ _=>BW _ _ _,λ_ _=>BW _ _ _,λs t _ _ _ g h=>(by cases h),λs t _ _ _ g h=>(by cases h),by show c.Qa+1<=1000000000000000;have:=d' bS;omega,z54 _,λs _=>by simp[opS],λs _=>by simp[opS],λs _=>by simp[opS]⟩;have bU:=y' bz;have bV:=y' Z;have bW:=y' bu;clear bw Z bz aI bu;go_wp2;go_loopw[4] (λi wr=>∃ (s:Nat) (ab ac:Nat->Value),s<=3/\i=.int .i64 s/\Qi wr b (opS c s) {P with dead:=false} ab ac/\Below p.heap.size p wr/\∀k,CP b ab ac k->p.heap.size<=k) (λi _=>3 - (intOf i).toNat)
 case atStart=>refine⟨0,SK,SK,by omega,rfl,d' bU,d' bV,?_⟩;rintro k (rfl|⟨s,_,h|h⟩);exact d' bW;cases h;cases h
 case round=>
  obtain⟨s,aZ,ba,hs,rfl,aa,Z,aJ⟩:=hrel;by_cases z:s < 3
  .have cG:(s:Int) < 3:=(by omega);obtain⟨d0,_,_⟩:=DR (d' ai) s z;have d0:=Bc Z V d0;obtain⟨g0,_,_⟩:=DR aa s z;have f0:=H' (i:=5+s * 3) aa.blk;have aK:=z12 aa.blk;have bA:=z21 V Z.size;have bB:=y' aa;have aL:=y' Z;have bb:=y' aJ;clear aa Z aJ;go_upto_region 5 with fail;refine Z'
    [Ep b 0,Ei s,Ep w 0,Ei s,Ep w 0,Ep w 5,Ep w (5+s * 3),Ep w (5+s * 3),Ei ((c.fl s).base),Ep b 0,Ep b 5,Ep b (5+s * 3),Ep b (5+s * 3),Et]
    [[3],[4],[0],[4],[3031],[5033],[6034,4032],[7035],[8036],[1029],[10038],[11039,2030],[12040],[13041,9037]] [30,31,32,33,34,35,36,37,38,39,40,41,42,0] [29,13,40]
    13 _ rfl rfl ?_ ?_
   .refine⟨?_,?_,?_,?_,?_,?_,?_,?_,?_,?_,?_,?_,?_,trivial⟩;all_goals
     intro cH x hb Y;have aX:=Bc hb bA d0;clear hb;simp[J']at Y;try go_simp
     try exact z11 _ _
    all_goals first
     |exact⟨rfl,z11 _ _⟩
     |skip
   intro f5 bC hb Q;simp only[AJ,List.take]at Q;have bX:=Q.2.2.2.2.2.2.2.2.1;have bY:=Q.2.2.2.2.2.2.2.2.2.2.2.2.1;have bD:=(d' bB).far (fbF hb) Ih;have aX:=Bc hb aK g0;have bZ:=(hb.frozen (p:=⟨b,5+s * 3,none⟩) aK).trans f0;have au:=bD.baseStep s z (c.fl s).base ((d' ai).bs s z);rw[zE]at au;have aB:El p (bC.setCell ⟨b,5+s * 3,none⟩ (Ej ((c.fl s).base:Int))):=((d' aL).trans (hb.mono (d' aL).size)).trans ((T' bC b (5+s * 3) _).below (z26 (d' aL).size hb.size) (λk av e=>by have:=(d' bb) b (.inl rfl);omega));have aC:=y' au;have aD:=y' aB;clear Q hb bD au aB d0 g0 f0 bA aK bB aL;simp only[V',bX,bY];go_simp;go_upto_region 6 with fail;refine G' (λx=>Qi x b (opI c s 0) {P with dead:=false} aZ ba/\El p x) ⟨d' aC,d' aD⟩ ?_;clear aX bZ aC aD;rintro cI ⟨au,aB⟩;have aC:=y' au;have aD:=y' aB;clear au aB;go_wp2;go_loopw[5] (λi wr=>∃ (j:Nat) (ab ac:Nat->Value),j<=(c.fl s).kept.length/\i=.int .i64 j/\Qi wr b (opI c s j) {P with dead:=false} ab ac/\Below p.heap.size p wr/\∀k,CP b ab ac k->p.heap.size<=k) (λi _=>(c.fl s).kept.length - (intOf i).toNat)
   case atStart=>exact⟨0,aZ,ba,by omega,rfl,d' aC,d' aD,d' bb⟩
   case round=>
    obtain⟨j,ad,bE,hj,rfl,J,aj,ax⟩:=hrel;clear aC aD bb;obtain⟨cJ,bF,ay,cK,cL,aM⟩:=((d' ai).kept s z).shape;obtain⟨_,d1,_⟩:=DR (d' ai) s z;have d1:=Bc aj V d1;rw[ay]at d1;obtain⟨ak,ah⟩:=exq ((c.fl s).kept.length);rw[<-ah]at hj aM d1 ay;have cM:ak<=24:=(by rw[ah];exact(d' ai).kl s z);by_cases ca:j < ak
    .obtain⟨g,o,rfl,bG⟩:=aM (by omega);obtain⟨⟨ao,sn⟩,bc⟩:∃x,(c.fl s).kept[j]? =some x:=⟨_,z17 (by rw[<-ah];exact ca)⟩;have bd:=bG (j * 2) (by omega);rw[SL bc]at bd;have cb:g < p.heap.size:=((d' ai).kept s z).lt g (by rw[ay];rfl);have d2:=Bc aj cb bd;have az:=J.kept s z;rw[qW]at az;simp only at az;obtain⟨X,aN⟩:=exq (((c.fl s).kept.take j).map λx=>(x.1,(0:Nat)));have be:X.length=j:=(by rw[aN,z42,z71,<-ah];omega);rw[<-aN,be]at az;obtain⟨aO,aP,bf,_⟩:=az.shape;obtain⟨_,bg,_⟩:=DR J s z;rw[bf]at bg;have aQ:(ad s).ownBlock≠some b:=(J.kept s z).ne J.blk (by decide);have cN:p.heap.size<=b:=ax b (.inl rfl);have bH:∀k,(ad s).ownBlock=some k->p.heap.size<=k:=λk h=>ax k (.inr ⟨s,z,.inl h⟩);have cc:∀k,(ad s).ownBlock=some k->k < wr.heap.size:=λk h=>(J.kept s z).lt k h;have aK:=z12 J.blk;have bI:=aj.size;have aR:=y' J.blk;have cd:=y' az;have bJ:=y' bf;have ce:=y' (z13 aN be);have bh:=y' J;have aS:=y' aj;have aT:=y' ax;have cf:=y' bc;have aU:=y' ah;have cg:=y' ay;have ch:(j:Int) < ak:=(by omega);clear bG aM ay bc az aN be J aj ax bf bd ah;go_upto_region 9 with fail;refine AH
      [Ep b 0,Ei s,Ep b 0,Ei s,Ep b 0,Ep b 5,Ep b (5+s * 3),Ep b (5+s * 3+1),Ev (.slice aO j aP),
       Ep w 0,Ei s,Ep w 0,Ep w 5,Ep w (5+s * 3),Ep w (5+s * 3+1),Ev (Es g o ak bF),Ei j,Ep g (o+j * 2),Ep g (o+j * 2),Ev (.string ao),
       Ev (.agg #[.string ao,Ej 0]),Ly wr.heap.size #[.string ao,Ej 0] 265,Lz wr (ad s) 265 2 (j+1) (BO (X++[(ao,0)])),
       Ep b 0,Ep b 5,Ep b (5+s * 3),Ep b (5+s * 3+1),
       λ_ M=>CC wr M b (opI c s (j+1)) {P with dead:=false} ad bE]
      [[3],[4],[3],[4],[3056],[5058],[6059,4057],[7060],[8061],[0],[4],[10063],[12065],[13066,11064],[14067],[15068],[5],[16069,17070],[18071],[19072],[20073],[21074],[9062,22075],[1054],[24077],[25078,2055],[26079],[27080,23076]] [55,56,57,58,59,60,61,62,63,64,65,66,67,68,69,70,71,72,73,74,75,76,77,78,79,80,81,0] [54,27,1]
      [(22,λk=>(ad s).ownBlock=some k),(27,λk=>k=b)] ?_ ?_ (hst:=by repeat' (first|exact Y' _|exact aU' _ _ _|exact aV' _ _ _ _ _ _|exact(λ_ _ _ h hb=>aD' h hb)|exact trivial|apply z13)) (hstF:=by repeat' (first|exact trivial|exact .inl rfl|exact .inr (.inr (ab' _ _))|exact .inr (.inr (ax' (λg G=>cc g G)))|exact .inr (.inr (ax' (λg (G:g=b)=>by omega)))|exact .inr (.inr (aK' (λg (G:g=b)=>⟨by omega,by rw[G];exact aQ⟩)))|exact .inr (.inl (show DM _ 27 22=true by decide+kernel))|apply z13))
     .refine⟨?_,?_,?_,?_,?_,?_,?_,?_,?_,?_,?_,?_,?_,?_,?_,?_,?_,?_,?_,?_,?_,?_,?_,?_,?_,?_,?_,?_,trivial⟩;all_goals
       intro a' M hb Y;have bi:=hb.size;have aE:=y' hb;clear hb;simp[J']at Y
      iterate 8
       .go_simp;exact⟨_,rfl,Far.refl _ _,rfl⟩
      .have d0:=(d' aE).blk (d' aR) (by rintro⟨q,H,g1,g2,F⟩;simp at H;rcases H with rfl|rfl;exact aQ F;exact absurd (show DM _ 27 8=false from g2) (by decide+kernel));have d1:M.cell? (Ea b (5+s * 3+1))=some (.slice aO j aP):=(by rw[D' d0,<-D' (d' aR)];exact bg);clear d0;go_simp;exact⟨_,rfl,Far.refl _ _,rfl⟩
      iterate 6
       .go_simp;exact⟨_,rfl,Far.refl _ _,rfl⟩
      .have bj:El p M:=(d' aS).trans ((d' aE).below (B:=p.heap.size) bI (λk av h=>by obtain⟨q,H,_,_,F⟩:=h;simp at H;rcases H with rfl|rfl;have:=bH k F;omega;have F:k=b:=F;omega));have d1:M.cell? (Ea w (5+s * 3+1))=some (Es g o ak bF):=(by obtain⟨_,aV,_⟩:=DR (d' ai) s z;have aV:=Bc bj V aV;rw[d' cg]at aV;exact aV);go_simp;exact⟨_,rfl,Far.refl _ _,rfl⟩
      iterate 3
       .go_simp;exact⟨_,rfl,Far.refl _ _,rfl⟩
      .have bj:El wr M\/True:=.inr trivial;have d1:M.cell? (Ea g (o+j * 2))=some (.string ao):=(by have h1:=(d' aE).rest g (by omega) (by rintro⟨q,H,_,_,F⟩;simp at H;rcases H with rfl|rfl;have:=bH g F;omega;have F:g=b:=F;omega);exact(z46 h1).trans d2);clear bj;go_simp;exact⟨_,rfl,Far.refl _ _,rfl⟩
      .go_simp;exact⟨_,rfl,Far.refl _ _,rfl⟩
      .go_simp;exact⟨_,rfl,I' bna,_,rfl,bi,z19 M _⟩
      have bK:=(d' cd).far (d' aE) (by rintro g G ⟨q,H,g1,g2,F⟩;simp at H;rcases H with rfl|rfl;exact g1 rfl;have F:g=b:=F;exact aQ (by rw[G,F]));obtain⟨ci,cj,cO,ck⟩:=Y.2;rw[d' bJ]at bK;refine ES rfl (.tmp 62) (.tmp 75) 166 rfl 265 _ 2 24 underlying166 vP rfl (.slice aO j aP) j (BO X) bK (by simp[Act.eval,Y]) ⟨ci,0,none⟩ 1 1 [.string ao,Ej 0] (by simp[Act.eval,cj]) rfl ?_ (by intro u hu;simp at hu;rcases hu with rfl|rfl <;> rfl) (by omega) (by omega) (by omega) ?_;intro k u av;rw[JB,D' ck,z45];simpa using av;intro v' w' k1 k2;rw[<-NL]at k1;have bk:=k2.grown;rw[<-d' bJ]at bk k2;exact⟨v',rfl,AQ (.head _) (BU bk),k1,IK bi k2,z26 bi bk.size⟩;iterate 4
       .go_simp;exact⟨_,rfl,Far.refl _ _,rfl⟩
      have bl:Far (λk=>(ad s).ownBlock=some k) wr M:=(d' aE).mono (by rintro k _ ⟨q,H,g1,g2,F⟩;simp at H;rcases H with rfl|rfl;exact F;exact absurd rfl g1);have d0:=bl.blk (d' aR) aQ;have f1:M.frozen? ⟨b,5+s * 3+1,none⟩=false:=H' (i:=5+s * 3+1) d0;have d1:M.cell? (Ea b (5+s * 3+1))=some (.slice aO j aP):=(by rw[D' d0,<-D' (d' aR)];exact bg);obtain⟨cP,bm⟩:=Y;obtain⟨cl,cm,cn,_⟩:=bm.1.shape;have bL:=y' bm;have cp:=y' bl;clear bm d0 bl;rw[cn]at bL;go_simp;refine⟨AQ (.tail _ (.head _)) (T' M b _ _),?_⟩;obtain⟨aa,J,_⟩:=d' bL;obtain⟨aY,bM⟩:=d' ce;have bN:=((d' bh).keptStep s z (x:=X++[(ao,0)]) (d' cp) (v':=.slice cl (j+1) cm) (λg G=>by rcases J with h|h|⟨g',h,cQ⟩;rw[h]at G;cases G;rw[h]at G;exact .inl G;rw[h]at G;injection G with G;exact .inr (by omega)) (by rw[z29,bM];exact aa) (by rw[z29,bM];simp;omega)).2;rw[aY,Dv c s j (d' cf)]at bN;exact bN
     intro f3 z3 cq Q;have bO:=Q.2.2.2.2.2.2.2.2.2.2.2.2.2.2.2.2.2.2.2.2.2.2.2.2.2.2.2.1;have cr:=y' bO;clear bO Q cq;simp only[V'];go_wp2;go_roundw
     case rel=>obtain⟨cs,cu,aq,cv,cw⟩:=d' cr;refine⟨j+1,cs,cu,by have:=d' aU;omega,by go_num,aq,(d' aS).trans (cv.below bI (λk av h=>by have:=(d' aT) k h;omega)),λk av=>?_⟩;rcases cw k av with h|h;exact(d' aT) k h;omega
     case measure=>have:=d' aU;simp[intOf];omega
    have cx:j=ak:=(by omega);have bh:=y' J;have aS:=y' aj;have aT:=y' ax;have aU:=y' ah;clear J aj ax ay aM ah;have ch:¬ (j:Int) < ak:=(by omega);go_wp2;go_roundw
    case rel=>have e:=d' aU;have aq:=d' bh;rw[cx,e,Hk c z]at aq;exact⟨s+1,by omega,by go_num,ad,bE,aq,d' aS,d' aT⟩
    case measure=>simp[intOf];omega
  have aI:s=3:=by omega
  subst aI;have cy:=y' aa;have cz:=y' Z;have cA:=y' aJ;clear aa Z aJ;go_wp2;go_ret;have aq:=d' cy;rw[zF]at aq;exact⟨b,aZ,ba,rfl,aq,d' cz,d' cA⟩
theorem gI (M:World) (v:Value) (L:List UInt8) (aW:Qk M v L) (Q:L.length=7808) (aF:Mq.openSt L=some (t,w,U)):
  Cp 53 #[v] M λr w'=>(¬ (t.b=0/\t.d=0)\/Mq.skLd U 0 (λ_=>[])=none)/\r=.returned (.tuple #[.pointer none,Ej 2])/\El M w'\/
   t.b=0/\t.d=0/\∃Qc p c,Mq.skLd U 0 (λ_=>[])=some Qc/\r=.returned (.tuple #[C' p,Ej 0])/\Jo w' p t.a Qc (λ_=>[]) (FM L t w) c/\El M w'/\∀k,PkU p c k->M.heap.size<=k:=by
 have ai:=PF M v L 122 aW (by omega) (by omega) (by omega) aF;rw[iX]at ai;obtain⟨aG,aH⟩:=Vg aF;have aX:=wB aH;have aY:U.length=120:=by have:=(Xo _ _ aH).1;rw[this,Q]
 obtain⟨_,aZ,ba,_⟩:=Vs aG;have bb:=Vk aZ;rw[<-ba]at bb;have bc:(FM L t w).dk.bytes.length=7808:=by have:=(Yr aG (m:=122) (by omega) (by omega)).len;exact this
 obtain⟨bP,cap,rfl,bt,bu,_⟩:=aW;obtain⟨n,hn⟩:=exq (L.length);rw[<-hn]at Q bt bu ai ⊢;subst Q;generalize FM L t w=st at *;obtain⟨ep,aI⟩:=exq (t.a);obtain⟨V,aJ⟩:=exq (t.b);obtain⟨nd,aK⟩:=exq (t.d);rw[<-aI,<-aJ,<-aK]at ai;rw[<-aI,<-aJ,<-aK];have bd:ep<=2147483647:=by omega
 have bw:=y' ai;have aq:=y' (z13 aX (z13 aY (z13 bc bd)));have au:=λy=>y' (PB ep y);clear hn aF aG aH aZ ba bb ai aX aY bc aI aJ aK bd;obtain⟨res,av⟩:=exq (Mq.skLd U 0 (λ_=>[]));rw[<-av];unfold C' at *;go_enter func53,ntmps53;go_upto_region 7 with (go_at_call 74;refine Cm bw ?_;rintro r y ⟨s,dp,lv,bz,rv,rfl,be,bf,aj,hb⟩;obtain⟨bQ,ax,rfl,_,_,bg⟩:=(Ql.Jc (AP aj (z54 _))).shape);obtain⟨ay,bA,rfl,_⟩:=bg (by omega);have bB:bA=0:=by rcases aj with ⟨_,⟨t,_⟩|⟨g',bR,bS,t,_⟩⟩;cases t;injection t with t;injection t with t;injection t
 subst bB;clear bg;obtain⟨z,aL⟩:=exq (y.heap.size);have az:=y' aL;rw[<-aL];have bC:M.heap.size<=z:=by have:=hb.size;omega
 clear aL;refine G' (λx=>Eh x z #[Ej ep,Ej V,Ej nd,Es ay 0 120 ax] 143/\Eh x (z+1) (LC s ep En) 125/\Below z y x) ?_ ?_;rw[d' az];exact FD _ _ _;rintro x ⟨h5,aA,aB⟩;have aM:=z12 aA;have aN:=BA (AP aj (z54 _)) (λg ac=>by have:=(z14 aj g ac).2;exact aB.block g (by rw[d' az];exact this));have bT:(Value.slice (some ⟨ay,0,none⟩) 120 ax).ownBlock≠some (z+1):=λe=>(Ql.Jc aN).ne aA (by decide) e;have aO:=y' (be.far (fbF (by rw[<-d' az];exact aB)) Ih);have bD:=y' bf;have aC:=y' (hb.trans (aB.mono bC));have bh:=y' h5;have ak:=y' aA;have aP:=y' aN;clear be bf aj aN hb aB h5 aA az;have bi:¬StU s dp lv bz (z+1):=by rintro(t|t);have h1:=(d' aO).blk;rw[<-t,d' ak]at h1;injection h1 with h1;injection h1 with _ h1 _;exact absurd h1 (by decide);exact KW (d' aO).dk (d' ak) (by decide) (by decide) (by decide) t
 by_cases aa:V=0/\nd=0
 .have bE:∀G:World,(Op.equalIn 10000 100 (.agg #[Ej ep,Ej V,Ej nd]) (.agg #[Ej ep,Ej 0,Ej 0])).run prog G=.ok true G:=λG=>by rw[RW];simp[aa.1,aa.2]
  have ao:=y' aa;clear aa;have aD:=λ(G:World) (h1:G.heap[z+1]? = _) (h2:G.ownsRow 0 150 3 (Es ay 0 120 ax) 120 (GN U))=>y' (lM (p:=z+1) (e:=ep) (s:=s) h1 h2 (d' aq).2.1 (by omega) (d' aq).1 (d' aq).2.2.2);rw[<-av]at aD;have bU:=y' av;clear av;unfold C' at aD;refine CO
   [Ep z 0,Ev (.agg #[Ej ep,Ej V,Ej nd]),Ep (z+1) 0,Ep (z+1) 0,Ep (z+1) 1,Ei ep,Ev (.agg #[Ej ep,Ej 0,Ej 0]),Eb false,Eb false,
    Ep (z+1) 0,Ep z 3,Ev (Es ay 0 120 ax),Et,Et,Et]
   [[5],[1026],[7],[3028],[4029],[5030],[6031],[2027,7032],[8033],[7,9034],[5,9034],[11036,9034],[10035,12037,9034],[13038,9034],[9034,14039]] [27,28,29,30,31,32,33,34,35,36,37,38,39,40,41] [26,15,11]
   12 _ rfl ?_ ?_ ?_
  .refine⟨?_,?_,?_,?_,?_,?_,?_,?_,?_,?_,?_,?_,trivial⟩;all_goals
    intro a' G H J;have z5:=(H.block _ (by omega)).trans (d' bh);have Y:=(H.block _ aM).trans (d' ak);obtain⟨d0,d1,d2,d3⟩:=gX z5;have ad:=Bi 1 Y;simp[LC]at d0 d1 d2 d3 ad;clear H z5 Y;simp[J']at J;try (have ac:a'.tmps[34]? =some (.bool false):=JM (by first|exact J|exact J.1|exact J.2|exact J.2.2))
    try go_simp
    try simp only[ac,if_true]
    try go_simp
    try exact z11 _ _
   all_goals first
    |exact⟨rfl,z11 _ _⟩
    |exact⟨_,rfl,z11 _ _,rfl⟩
    |(refine Cm (au _) ?_;rintro e F ⟨rfl,hb⟩;exact⟨rfl,hb⟩)
    |(refine Cm (au _) ?_;rintro e F ⟨rfl,hb⟩;exact⟨_,rfl,hb,rfl⟩)
    |skip
  intro f G I;simp only[AJ,List.take]at I;have aQ:=I.2.2.2.2.2.2.2.2.1;clear I;simp only[V',aQ];rfl;intro f G H I;simp only[AJ,List.take]at I;have aQ:=I.2.2.2.2.2.2.2.2.1;have bF:=I.2.2.2.2.2.2.2.2.2.1;have bG:=I.2.2.2.2.2.2.2.2.2.2.2.1;have Y:=(H.block _ aM).trans (d' ak);have bj:=BA (d' aP) (λg ac=>H.block g (z14 (d' aP) g ac).2);have aR:=y' (d' (aD G Y bj));have Z:=y' H;clear I Y bj H aD;simp only[V',aQ,bF,bG];go_simp;refine Cm aR ?_;rintro e F ⟨rfl,hF,hl⟩;have aE:=y' hF;have aS:=y' hl;clear hF hl;intro bk bV;obtain⟨m,rfl⟩:∃m,bk=m+2:=⟨bk - 2,by omega⟩;refine BP (i:=13) (by kernel_rfl) rfl rfl ?_;go_simp;refine BP (i:=14) (by kernel_rfl) rfl rfl ?_;go_simp;refine DP (by kernel_rfl) ?_;have aT:Far (λk=>k=z+1) M F:=(I' (E:=λk=>k=z+1) (d' aC)).trans ((I' (E:=λk=>k=z+1) (d' Z)).trans (d' aE) Ih) Ih;have ab:El M F:=aT.below (z16 _) (λk ah t=>by omega);cases res with
  |none=>have aU:=y' ab;clear ab aT aR aS aE Z;go_wp2;go_ret2;first|exact .inl ⟨.inr rfl,rfl,d' aU⟩|exact⟨rfl,d' aU⟩|exact .inl ⟨rfl,d' aU⟩
  |some Qc=>have Q:=(d' aS) Qc rfl;have bl:=Q.behind (d' Z);have bm:Far (λk=>k=z+1) x F:=(I' (E:=λk=>k=z+1) (d' Z)).trans (d' aE) Ih;have bn:=(d' aO).far bm (λk ah e=>bi (by rw[<-e];exact ah));obtain⟨arr,bW,K,_,_⟩:=Q;have bo:=z12 K.blk;have bp:F.cell? (Ea (z+1) 11)=some En:=(by rw[D' K.blk];exact K.ar);have bX:∀o,(F.alloc o).cell? (Ea (z+1) 11)=some En:=λo=>(z85 F _ ⟨z+1,11,none⟩ bo).trans bp;have bY:∀o,(F.alloc o).frozen? ⟨z+1,11,none⟩=false:=λo=>H' (i:=11) ((hao _ _ bo).trans K.blk);have bZ:¬z+1=F.heap.size:=(by omega);have bH:=y' (z13 bl (z13 bn ab));clear bp bl bn K bm aT aS aE Z aR;go_wp2;go_ret2;obtain⟨Q,bI,ab⟩:=d' bH;obtain⟨R,bq⟩:=exq (Obj.cells (FJ (z+1)).toArray 130 (0,0));obtain⟨br,aV⟩:=exq (F.setCell ⟨z+1,11,none⟩ (Es F.heap.size 0 2 2));have bJ:br.heap.size=F.heap.size:=(by rw[aV,z80]);have bK:Ql (br.alloc R) 130 2 (Es F.heap.size 0 2 2) 2 (FJ (z+1)):=(by refine⟨by simp[FJ],.inr ⟨F.heap.size,0,2,(FJ (z+1)).toArray,rfl,?_,by omega,by unfold maxLen;omega,by simp[FJ],by simp[FJ]⟩⟩;rw[<-bJ,z19,bq]);obtain⟨c,bL,bM⟩:=Ha Q bI (d' aq).2.2.1 (λk ah e=>bi (by rw[<-e];exact ah)) aV bK;have bN:R=Obj.cells #[Ej 1,.func (.func 87) #[Er (z+1) 0] #[],Ej 3,.func (.func 88) #[Er (z+1) 0] #[]] 130 (0,0):=(by rw[bq];rfl);subst bN;subst aV;have ca:=(d' aC).size;refine .inr ⟨(d' ao).1,(d' ao).2,Qc,z+1,c,rfl,rfl,bL,?_,λk ah=>?_⟩;exact(ab.setCell (p:=⟨z+1,11,none⟩) (by show M.heap.size<=z+1;omega) _).alloc (by rw[z80];exact ab.size) _;rcases bM k ah with t|t|t|t;omega;omega;exact(d' bD) k t;have h2:some F.heap.size=some k:=t;injection h2 with h2;have:=ab.size;omega
 have bE:∀G:World,(Op.equalIn 10000 100 (.agg #[Ej ep,Ej V,Ej nd]) (.agg #[Ej ep,Ej 0,Ej 0])).run prog G=.ok false G:=λG=>by
  rw[RW];congr 1;by_cases ad:V=0;have cb:¬nd=0:=λe=>aa ⟨ad,e⟩;have:((nd:Int) ==0)=false:=by simp;omega
  simp[ad,this];have:((V:Int) ==0)=false:=by simp;omega
  simp[this]
 have ao:=y' aa;clear aa aP;refine AI
  [Ep z 0,Ev (.agg #[Ej ep,Ej V,Ej nd]),Ep (z+1) 0,Ep (z+1) 0,Ep (z+1) 1,Ei ep,Ev (.agg #[Ej ep,Ej 0,Ej 0]),Eb true,Eb true,
   Et,Et,Et,Et,Et,Eb true]
  [[5],[1026],[7],[3028],[4029],[5030],[6031],[2027,7032],[8033],[7,9034],[5,9034],[11036,9034],[10035,12037,9034],[13038,9034],[9034,14039]] [27,28,29,30,31,32,33,34,35,36,37,38,39,40,41] [26,15,11] ?_ ?_
 .refine⟨?_,?_,?_,?_,?_,?_,?_,?_,?_,?_,?_,?_,?_,?_,?_,trivial⟩;all_goals
   intro a' G H J;have z5:=(H.block _ (by omega)).trans (d' bh);have Y:=(H.block _ aM).trans (d' ak);obtain⟨d0,d1,d2,d3⟩:=gX z5;have ad:=Bi 1 Y;simp[LC]at d0 d1 d2 d3 ad;clear H z5 Y;simp[J']at J;try (have ac:a'.tmps[34]? =some (.bool true):=JM (by first|exact J|exact J.1|exact J.2|exact J.2.2))
   try go_simp
   try exact z11 _ _
   try trivial
  all_goals first
   |exact⟨rfl,z11 _ _⟩
   |exact⟨_,rfl,z11 _ _,rfl⟩
   |(refine Cm (au _) ?_;rintro e F ⟨rfl,hb⟩;exact⟨rfl,hb⟩)
   |(refine Cm (au _) ?_;rintro e F ⟨rfl,hb⟩;exact⟨_,rfl,hb,rfl⟩)
   |skip
 intro f G H I;simp only[AJ]at I;have bO:=I.2.2.2.2.2.2.2.2.2.2.2.2.2.2.1;have Z:=y' ((d' aC).trans (H.mono (d' aC).size));clear I H;simp only[V',bO];go_wp2;go_ret2;first|exact .inl ⟨.inl (d' ao),rfl,d' Z⟩|exact⟨.inl (d' ao),rfl,d' Z⟩
structure Alv (op ct n:Nat) (st:Stv) (e:Nat) (Qc:Nat->List z10):Prop where
 dead:st.dk.dead=false
 arm:st.dk.Xr=n
 op:st.Qe=op
 ct:st.count<=ct
 dk:Zb st.dk.bytes st.Qe st.count st.head e Qc
structure Ded (op:Nat) (st:Stv) (e:Nat) (Qc:Nat->List z10):Prop where
 dead:st.dk.dead=true
 op:st.Qe=op
 dk:∃ct hd,Zb st.dk.bytes st.Qe ct hd e Qc
theorem qZ {op ct n:Nat} {st:Stv} {e:Nat} {Qc:Nat->List z10} (h:Alv op ct n st e Qc) (z:ct+1 < 18446744073709551616):st.next=st.count+1:=by
 have:=h.ct;unfold Stv.next
 omega
theorem Hl (h:Alv w a q H b F) (G:a+1 < 18446744073709551616) (hn:q≠1) (hs:Q < 3) (hb:z.size<=20) (I:Mq.cnt F < 120):
  (H.Qu (Mq.cnt F) Q ((F Q).length+1) z.data.toList).1=0/\Alv w (a+1) (q - 1) (H.Qu (Mq.cnt F) Q ((F Q).length+1) z.data.toList).2 b (Yo F Q z):=by
 have J:=qZ h G;have hd:=h.dk.commit (b:=z) hs hb I (by have:=h.ct;omega);have h1:=h.dead;have h2:=h.arm;have h3:=h.ct;unfold Stv.Qu Dk.put;rw[if_neg (by rw[h1];simp),if_neg (by rw[h2];exact hn),J];exact⟨rfl,rfl,by show H.dk.Xr - 1=q - 1;rw[h2],h.op,by show H.count+1<=a+1;omega,hd⟩
theorem Hm (h:Alv w a 1 H q F) (k s z:Nat) (b:List UInt8):
  (H.Qu k s z b).1=4/\Ded w (H.Qu k s z b).2 q F:=by
 have h1:=h.dead;have h2:=h.arm;unfold Stv.Qu Dk.put;rw[if_neg (by rw[h1];simp),if_pos h2];exact⟨rfl,rfl,h.op,_,_,h.dk⟩
theorem Ho (h:Alv w a q H b F) (z:a+1 < 18446744073709551616) (hn:q≠1) (G:Q<=2147483647):
  (H.Qp Q 0 0).1=0/\Alv w (a+1) (q - 1) (H.Qp Q 0 0).2 Q F:=by
 have I:=qZ h z;have hd:=h.dk.Qa G (by have:=h.ct;omega);have h1:=h.dead;have h2:=h.arm;have h3:=h.ct;unfold Stv.Qp Dk.put;rw[if_neg (by rw[h1];simp),if_neg (by rw[h2];exact hn),I];exact⟨rfl,rfl,by show H.dk.Xr - 1=q - 1;rw[h2],h.op,by show H.count+1<=a+1;omega,hd⟩
theorem Hp (h:Alv w a 1 H q F) (z b c:Nat):
  (H.Qp z b c).1=4/\Ded w (H.Qp z b c).2 q F:=by
 have h1:=h.dead;have h2:=h.arm;unfold Stv.Qp Dk.put;rw[if_neg (by rw[h1];simp),if_pos h2];exact⟨rfl,rfl,h.op,_,_,h.dk⟩
def Xj (op:Nat) (w x:World) (p e:Nat) (Qc:Nat->List z10) (c:Sv):Prop:=∃sh st,Xg w x p e Qc sh st c/\Ded op st e Qc
def CmG (op ct n:Nat) (w x:World) (p:Nat) (a:Mq.Sk) (i:Nat) (b:z10) (c:Sv) (out:List z10):Prop:=
 ∃sh st,tJ a i ((a.Qc i).length+1) b out sh/\(Alv op (ct+out.length) (n - out.length) st a.Qa (grown a i out).Qc/\(n=0\/out.length < n))/\Xg w x p a.Qa (grown a i out).Qc sh st c
theorem zG (a:Mq.Sk) (s:Nat) (out:List z10) (c:z10):Yo (grown a s out).Qc s c=(grown a s (out++[c])).Qc:=by
 have:=YP a s out c;exact this
theorem ZU (hi:Q < 3) (G:Jo p b x.Qa (grown x Q S).Qc L H D) (hs:Alv w (a+S.length) (q - S.length) H x.Qa (grown x Q S).Qc) (hn:q=0\/S.length < q) (z:z10) (hb:z.size<=20) (I:x.count+S.length < 120) (V:a+1000 < 18446744073709551616):
  Cp 203 #[C' b,Ej Q,.string z] p λr w'=>
   (r=.returned (Ej 0)/\(q=0\/S.length+1 < q)/\∃F,Alv w (a+(S++[z]).length) (q - (S++[z]).length) F x.Qa (grown x Q (S++[z])).Qc/\Xg p w' b x.Qa (grown x Q (S++[z])).Qc L F D)\/
   (r=.returned (Ej 4)/\q=S.length+1/\Xj w p w' b x.Qa (grown x Q S).Qc D):=by
 have J:Mq.cnt (grown x Q S).Qc < 120:=by have:=TY x Q hi S;unfold Mq.cnt;omega
 refine(tF G Q hi z hb (by rw[TY x Q hi];exact I)).mono ?_;rintro r w' ⟨rfl,h⟩;by_cases h1:q=S.length+1;right;have M:Alv w (a+S.length) 1 H x.Qa (grown x Q S).Qc:=by rw[show q - S.length=1 by omega]at hs;exact hs
 obtain⟨k1,k2⟩:=Hm M (((grown x Q S).Qc 0).length+((grown x Q S).Qc 1).length+((grown x Q S).Qc 2).length) Q (((grown x Q S).Qc Q).length+1) z.data.toList;rw[k1,if_neg (by omega)]at h;exact⟨by rw[k1],h1,L,_,h,k2⟩;left;obtain⟨k1,k2⟩:=Hl hs (by omega) (by omega) hi hb J;unfold Mq.cnt at k1 k2;rw[k1,if_pos rfl,YP]at h;rw[zG]at k2;refine⟨by rw[k1],by omega,_,?_,h⟩;rw[z29,z90,show a+(S.length+1)=a+S.length+1 by omega,show q - (S.length+1)=q - S.length - 1 by omega];exact k2
theorem jB {out:List z10} (hi:Q < 3) (G:Jo p b x.Qa (grown x Q out).Qc L H D) (hs:Alv w (a+out.length) (q - out.length) H x.Qa (grown x Q out).Qc) (hn:q=0\/out.length < q) (z:z10) (hb:z.size<=20) (I:x.count+out.length < 120) (J:a+1000 < 18446744073709551616) (h1:q≠out.length+1):
  Cp 203 #[C' b,Ej Q,.string z] p λr w'=>
   r=.returned (Ej 0)/\∃F,(Alv w (a+(out++[z]).length) (q - (out++[z]).length) F x.Qa (grown x Q (out++[z])).Qc/\(q=0\/(out++[z]).length < q))/\Xg p w' b x.Qa (grown x Q (out++[z])).Qc L F D:=by
 refine(ZU hi G hs hn z hb I J).mono ?_;rintro r w' (⟨h2,h3,F,h4,h5⟩|⟨_,h3,_⟩);exact⟨h2,F,⟨h4,by rw[z29,z90];exact h3⟩,h5⟩;exact absurd h3 h1
theorem ZV {out:List z10} (hi:Q < 3) (F:Jo p b x.Qa (grown x Q out).Qc L H D) (hs:Alv w (a+out.length) (q - out.length) H x.Qa (grown x Q out).Qc) (hn:q=0\/out.length < q) (z:z10) (hb:z.size<=20) (G:x.count+out.length < 120) (I:a+1000 < 18446744073709551616) (h1:q=out.length+1):
  Cp 203 #[C' b,Ej Q,.string z] p λr w'=>
   r=.returned (Ej 4)/\Xj w p w' b x.Qa (grown x Q out).Qc D:=by
 refine(ZU hi F hs hn z hb G I).mono ?_;rintro r w' (⟨_,h3,_⟩|⟨h2,_,h4⟩);omega;exact⟨h2,h4⟩
theorem OJ {a:Mq.Sk} {st q n:Nat}:∀ (f:Nat) (out:List z10),∃more,a.commitFrom st q n f out=out++more
 |0,out=>⟨[],by simp[Mq.Sk.commitFrom]⟩
 |f+1,out=>by
  unfold Mq.Sk.commitFrom;split
  .split
   .exact⟨[],by simp⟩
   .rename_i k _;obtain⟨m,h⟩:=OJ (a:=a) (st:=st) (q:=q) (n:=n) f (out++[(a.held.getD k (0,0,⟨#[]⟩)).2.2]);exact⟨(a.held.getD k (0,0,⟨#[]⟩)).2.2::m,by rw[h,z39];rfl⟩
  .exact⟨[],by simp⟩
def uO (op n:Nat) (w x:World) (p:Nat) (a:Mq.Sk) (i:Nat) (b:z10) (c:Sv):Prop:=
 1<=n/\n<=(a.commitFrom i ((a.Qc i).length+1) a.count 120 [b]).length/\Xj op w x p a.Qa (grown a i ((a.commitFrom i ((a.Qc i).length+1) a.count 120 [b]).take (n - 1))).Qc c
theorem rA (F:tJ x w a z S L):∃more,x.commitFrom w a x.count 120 [z]=S++more:=by
 rw[<-F.run];exact OJ _ _
theorem ZW (aq:Jo p b x.Qa x.Qc L H D) (br:Alv w a q H x.Qa x.Qc) (aK:a+1000 < 18446744073709551616) (bt:Jd x) (aW:CZ x) (O:IY x.held L) (i:Nat) (hi:i < 3) (F:z10) (hb:F.size<=20) (aX:x.count < 120):
  Cp 179 #[C' b,Ej i,.string F] p λr w'=>
   (r=.returned (Ej 0)/\∃out,CmG w a q p w' b x i F D out/\out=x.commitFrom i ((x.Qc i).length+1) x.count 120 [F])\/
   (r=.returned (Ej 4)/\uO w q p w' b x i F D):=by
 have aL:=tL bt aW O aq.ks.are i F hi hb aX;have aY:q=0\/([]:List z10).length < q:=by simp;omega
 have bu:=rA aL;have bw:∀out Q,q=out.length+1->(∃more,x.commitFrom i ((x.Qc i).length+1) x.count 120 [F]=out++more/\more≠ [])->Xj w p Q b x.Qa (grown x i out).Qc D->uO w q p Q b x i F D:=by rintro out Q hn ⟨more,aM,bR⟩ hd;have cu:0 < more.length:=List.length_pos_iff.2 bR;refine⟨by omega,by rw[aM,z29];omega,?_⟩;rw[aM,show q - 1=out.length by omega,List.take_left'];exact hd;rfl
 have aZ:=λout Q h1 h2 h3=>y' (bw out Q h1 h2 h3);clear bw;have cv:=z12 aq.ks.blk;have cw:(x.Qc i).length<=120:=aq.ks.Ve hi;have cx:(0:Int)<=(i:Int):=by omega
 have cy:(i:Int) < 3:=by omega
 have bS:=y' aL;have bT:∀y,(∃v:Int,(v=0/\∃out,CmG w a q p y b x i F D out)\/(v=4/\uO w q p y b x i F D))->Hid (∃v:Int,(v=0/\∃out,CmG w a q p y b x i F D out)\/(v=4/\uO w q p y b x i F D)):=λy h=>h;have aN:Cp 203 #[C' b,Ej i,.string F] p λr y=>∃v:Int,r=.returned (Ej v)/\((v=0/\∃out,CmG w a q p y b x i F D out)\/(v=4/\uO w q p y b x i F D)):=by by_cases h1:q=([]:List z10).length+1;refine(ZV (out:=[]) hi (by rw[IB];exact aq) (by rw[IB];exact br) aY F hb (by simpa using aX) aK h1).mono ?_;rintro r y ⟨rfl,hd⟩;obtain⟨m,aM⟩:=bu;exact⟨4,rfl,.inr ⟨rfl,d' (aZ [] y h1 ⟨_,by rw[aM];rfl,by simp⟩ hd)⟩⟩;refine(jB (out:=[]) hi (by rw[IB];exact aq) (by rw[IB];exact br) aY F hb (by simpa using aX) aK h1).mono ?_;rintro r y ⟨rfl,ba,h2,h3⟩;exact⟨0,rfl,.inl ⟨rfl,[F],L,ba,aL,by simpa using h2,by simpa using h3⟩⟩
 have aN:=y' aN;clear aq aL bT bu aY;unfold C' at *;go_enter func179,ntmps179;go_upto_region 3 with (go_at_call 203;refine Cm aN ?_;rintro r y ⟨v0,rfl,bz⟩);have bA:=y' bz;clear bz bS aN;go_loopw[8,9,10] (λv8 _ _ wr=>∃v:Int,v8=.int .i64 v/\((v=0/\∃out,CmG w a q p wr b x i F D out)\/(v=4/\uO w q p wr b x i F D))) (λv8 _ _ wr=>if intOf v8=0 then 200 - oT (wr.cell? ⟨b,2+i * 3,none⟩)else 0)
 case atStart=>exact⟨v0,rfl,d' bA⟩
 case round=>
  obtain⟨v,rfl,hrel⟩:=hrel;clear bA;rcases hrel with ⟨rfl,hrel⟩|⟨rfl,bB⟩
  .obtain⟨out,au,az,V,bb,aO⟩:=hrel;obtain⟨c1,I,bc,bd,ab,ac⟩:=id aO;have be:=YQ x i out;obtain⟨bU,cap,bf,aA⟩:=I.ks.logc hi;rw[be,z29]at bf aA;have ai:=y' (VK I.ks);rw[TY x i hi]at ai;have aB:=y' V;have bg:=y' aO;have bC:=y' I;have av:200 - oT (wr.cell? (Ea b (2+i * 3)))=200 - ((x.Qc i).length+out.length):=(by rw[aA];rfl);by_cases ax:x.count+out.length < 120
   .rw[z49 ax]at ai;obtain⟨Y,Z⟩:=exq ((x.Qc i).length+out.length+1);have cz:out.length<=120:=(by omega);have bD:=λy (aj:El wr y)=>y' (JN y b (2+i * 3) _ cap bU (Bc aj (z12 I.ks.blk) aA) (by omega));rw[<-Z]at bD;have bV:∃ (G:z10) (J:Bool) (ak:Nat->List (Nat×Value)),(∀y,El wr y->Cp 204 #[Er b (2+i * 3+1),Ej Y] y λr w'=>Rr r (.tuple #[.agg #[.string G],.bool J])/\xW wr w' b x.Qa (grown x i out).Qc ak az c1/\Far (λk=>k=b\/ShU (c1.nv i) (c1.mv i) k) y w')/\
      ((J=true/\AV (au i) (Y:Int)=some (PW G)/\ak=λt=>if t=i then PY (au i) Y else au t)\/(J=false/\AV (au i) (Y:Int)=none/\ak=au)):=by
     rcases OQ (I.ks.are i hi) (Y:Int)with ⟨G,hl⟩|hl
     .refine⟨G,true,_,?_,.inl ⟨rfl,hl,rfl⟩⟩;intro y aj;have aC:=I.far (fbF aj) Ih;refine(tH (aC.shAt hi) Y G hl).mono ?_;rintro r w' ⟨rfl,ad⟩;obtain⟨bW,h1,h2,h3,h4,h5⟩:=xX aC hi ad (λQ bX=>I.ks.are i hi Q ((OE _ _).subset bX));exact⟨rfl,⟨bW,h1,h2,(I' (E:=PkU b c1) aj).trans h3 Ih,h4,h5⟩,ad.far⟩
     .refine⟨⟨#[]⟩,false,_,?_,.inr ⟨rfl,hl,rfl⟩⟩;intro y aj;have aC:=I.far (fbF aj) Ih;refine(tG (aC.shAt hi) Y hl).mono ?_;rintro r w' ⟨rfl,ad⟩;exact⟨rfl,⟨c1,aC.far (fbF ad) Ih,λ_ h=>h,(I' (E:=PkU b c1) aj).trans (I' ad) Ih,rfl,rfl⟩,I' ad⟩
    have bE:∀k,(k=b\/ShU (c1.nv i) (c1.mv i) k)->k < wr.heap.size:=λk M=>I.ks.lt k (M.elim .inl (λh=>.inr (.inr ⟨i,hi,h⟩)));have bF:∀k,PkU b c1 k->k < wr.heap.size:=I.lt;have bG:=(I.ks.shs i hi).sorted;have aa:∀k,PkU b c1 k->PkU b D k\/p.heap.size<=k:=bd;have ao:=bc;obtain⟨G,J,ak,bH,bI⟩:=bV;have bh:=y' bH;have bi:=y' bI;have aP:=y' Z;have bY:=y' bG;have bZ:=y' av;have aD:=y' (z13 aa (z13 ao (z13 ab ac)));clear aO I bc bd V bf aA be av bH bI Z bG aa ao ab ac;unfold C' at ai;go_upto_region 4 with (go_at_call 178;refine Cm ai ?_;rintro r y ⟨rfl,rfl⟩);refine eN
     [Ep b (2+i * 3),Ep b (2+i * 3),Ep b (2+i * 3+1),Ep b (2+i * 3),Ei Y,λv z=>v=.tuple #[.agg #[.string G],.bool J]/\xW y z b x.Qa (grown x i out).Qc ak az c1,Ev (.tuple #[.agg #[.string G],.bool J]),Ev (.agg #[.string G]),Eb J,
     λv z=>∃g Q,v=Er g 0/\y.heap.size<=g/\Eh z g #[.string Q] 224,λv z=>∃g,v=Er g 0/\y.heap.size<=g/\Eh z g #[.string G] 224,Eb J]
     [[7],[1027],[2028],[7],[4030],[3029,5031],[6032],[7026],[7026],[],[10009,8033],[9034]] [28,29,30,31,32,33,27,34,35,10,10,11] [9,2,15,9,8]
     [(5,λk=>k=b\/ShU (c1.nv i) (c1.mv i) k),(10,λk=>y.heap.size<=k)]
     10 kO kP ?_ ?_ (hst:=by repeat' (first|exact Y' _|exact aa'|exact(λ_ u z h hb=>⟨h.1,h.2.far bF (fbF hb) (λ_ h=>h.elim)⟩)|exact(λ_ u z h hb=>h.imp λ_ h=>h.imp λ_ h=>⟨h.1,h.2.1,(hb.block _ (z12 h.2.2)).trans h.2.2⟩)|exact(λ_ u z h hb=>h.imp λ_ h=>⟨h.1,h.2.1,(hb.block _ (z12 h.2.2)).trans h.2.2⟩)|exact trivial|apply z13)) (hstF:=by
       refine⟨?_,?_,trivial⟩
       .repeat' (first|exact trivial|exact .inl rfl|exact .inr (.inr (GU (ab' _ _)))|exact .inr (.inr (GU (λ_ u z h hF=>h.imp λg h=>h.imp λ_ h=>⟨h.1,h.2.1,hF.blk h.2.2 (λe=>by have:=bE g e;omega)⟩)))|exact .inr (.inr (GU (λ_ u z h hF=>h.imp λg h=>⟨h.1,h.2.1,hF.blk h.2.2 (λe=>by have:=bE g e;omega)⟩)))|apply z13)
       repeat' (first|exact trivial|exact .inl rfl|exact .inr (.inr (GU (ab' _ _)))|exact .inr (.inr (GU (λ_ u z h hF=>⟨h.1,h.2.far bF hF (λ_ h=>h)⟩)))|exact .inr (.inr (λ_ u z h _ ca=>h.imp λg h=>by obtain⟨Q,h1,h2,h3⟩:=h;obtain⟨cb,h4⟩:=ca rfl g Q h3;exact⟨cb,h1,h2,h4⟩))|apply z13))
    .refine⟨?_,?_,?_,?_,?_,?_,?_,?_,?_,?_,?_,?_,trivial⟩;all_goals
      intro a' z hb aQ;simp[J']at aQ
     iterate 4
      .clear hb;go_simp;exact⟨_,rfl,Far.refl _ _,rfl⟩
     .have aE:El y z:=hb.below (z16 _) (by rintro k M ⟨cc,aF,g1,g2,aG⟩;simp at aF;rcases aF with rfl|rfl;exact absurd (show DM _ 5 4=false from g2) (by decide+kernel);have aG:y.heap.size<=k:=aG;omega);have bj:=y' (d' (bD z aE));clear hb aE;go_simp;refine Cm bj ?_;rintro r cd ⟨rfl,rfl⟩;exact⟨_,rfl,Far.refl _ _,rfl⟩
     .have aE:El y z:=hb.below (z16 _) (by rintro k M ⟨cc,aF,g1,g2,aG⟩;simp at aF;rcases aF with rfl|rfl;exact g1 rfl;have aG:y.heap.size<=k:=aG;omega);have bj:=y' ((d' bh) z aE);clear hb aE;go_simp;refine Cm bj ?_;rintro r cd ⟨rfl,h1,h2⟩;exact⟨_,rfl,AQ (.head _) h2,⟨rfl,h1⟩⟩
     .obtain⟨aQ,_⟩:=aQ;clear hb;go_simp;exact⟨_,rfl,Far.refl _ _,rfl⟩
     iterate 2
      .clear hb;go_simp;exact⟨_,rfl,Far.refl _ _,rfl⟩
     .have ce:=hb.size;clear hb;go_simp;exact⟨_,rfl,I' bna,⟨_,rfl,ce,⟨#[]⟩,z19 _ _⟩⟩
     .obtain⟨⟨g,bk,bl,cf,ah⟩,cA⟩:=aQ;clear hb;have cB:z.cell? (Ea g 0)=some (.string cf):=Bi 0 ah;have cC:z.frozen? ⟨g,0,none⟩=false:=H' (i:=0) ah;have cg:=y' (z13 bl ah);clear bl ah;have ch:=bk;go_simp;obtain⟨g1,g2⟩:=d' cg;refine⟨AQ (.tail _ (.head _)) ((T' z g 0 (.string G)).mono (λk _ e=>by rw[e];exact g1)),⟨undef,g,?_,g1,?_⟩,?_⟩;show a'.tmps.getD 9 undef= _;rw[z41];exact ch;have:=AA (j:=0) (v:=.string G) g2;simpa using this;exact oS z g G
     clear hb;go_simp;exact⟨_,rfl,Far.refl _ _,rfl⟩
    intro f z hF aR;obtain⟨_,ad⟩:=aR.2.2.2.2.2.1;obtain⟨g,bk,bl,ah⟩:=aR.2.2.2.2.2.2.2.2.2.2.1;have ci:=aR.2.2.2.2.2.2.2.2.2.2.2.1;clear aR hF;simp only[V',bk,ci];obtain⟨aa,ao,ab,ac⟩:=d' aD;obtain⟨c2,ay,aS,aT,t1,t2⟩:=ad;have bm:Xg p z b x.Qa (grown x i out).Qc ak az D:=⟨c2,ay,ao.trans aT (λk M hu=>(aa k hu).elim id (λh=>by omega)),λk M=>aa k (aS k M),t1.trans ab,t2.trans ac⟩;have aU:=y' bm;have cD:z.cell? (Ea g 0)=some (.string G):=Bi 0 ah;have bJ:=y' ay;have aH:∀k,PkU b c2 k->PkU b D k\/p.heap.size<=k:=λk M=>aa k (aS k M);have aI:=ao.trans aT (λk M hu=>(aa k hu).elim id (λh=>by omega));have bK:=y' (z13 aH (z13 aI (z13 (t1.trans ab) (t2.trans ac))));rcases d' bi with ⟨rfl,hl,aJ⟩|⟨rfl,hl,aJ⟩
    .have Z:=d' aP;have V:=d' aB;have bL:G.size<=20:=aW.bod _ ((V.on i hi Y G).1 hl).1;rw[Z]at hl aJ;have aV:=xV bt aW hi V ax (d' bY) hl;rw[<-aJ]at aV;obtain⟨bn,bo⟩:=bb;obtain⟨cj,bM⟩:=rA aV;have bp:∀Qc L H u,Xg z u b x.Qa Qc L H c2->Xg p u b x.Qa Qc L H D:=(by rintro Qc L H u ⟨c3,bq,ck,cl,s1,cm⟩;refine⟨c3,bq,aI.trans ck (λk M hu=>(aH k hu).elim id (λh=>by omega)),λk M=>?_,s1.trans (t1.trans ab),cm.trans (t2.trans ac)⟩;have cn:=aI.size;rcases cl k M with h|h;exact aH k h;exact .inr (z26 cn h));have bN:Cp 203 #[C' b,Ej i,.string G] z λr u=>∃v:Int,r=.returned (Ej v)/\((v=0/\CmG w a q p u b x i F D (out++[G]))\/(v=4/\uO w q p u b x i F D)):=(by by_cases h1:q=out.length+1;refine(ZV (out:=out) hi ay bn bo G bL ax aK h1).mono ?_;rintro r u ⟨rfl,bO,bP,hd1,cp⟩;exact⟨4,rfl,.inr ⟨rfl,d' (aZ out u h1 ⟨G::cj,by rw[bM];simp,by simp⟩ ⟨bO,bP,bp _ _ _ _ hd1,cp⟩)⟩⟩;refine(jB (out:=out) hi ay bn bo G bL ax aK h1).mono ?_;rintro r u ⟨rfl,ba,h2,h3⟩;exact⟨0,rfl,.inl ⟨rfl,ak,ba,aV,h2,bp _ _ _ _ h3⟩⟩);have bQ:=y' bN;unfold C' at bQ;clear hl aJ Z V aV bm ay aS aT aH aI aa ao ab ac t1 t2 ah bh bi aP aB bg bC aD aU bp bN bn bo bM bK bJ;go_wp2_with (go_at_call 203;refine Cm bQ ?_;rintro r u ⟨v,rfl,J⟩;replace J:=y' J);have av:=d' bZ;go_roundw
     case rel=>rcases d' J with ⟨rfl,h⟩|⟨rfl,h⟩;exact⟨0,rfl,.inl ⟨rfl,_,h⟩⟩;exact⟨4,rfl,.inr ⟨rfl,h⟩⟩
     case measure=>rcases d' J with ⟨rfl,bO,bP,_,_,c3,bq,_⟩|⟨rfl,h⟩;obtain⟨cE,cF,_,cq⟩:=bq.ks.logc hi;rw[av,cq];show(if(0:Int)=0 then 200 - ((grown x i (out++[G])).Qc i).length else 0) < (if(0:Int)=0 then _ else 0);rw[if_pos rfl,if_pos rfl,YQ,z29,z29,z90];have cr:=OO (a:=x) hi;omega;rw[av];show(if(4:Int)=0 then _ else 0) < (if(0:Int)=0 then _ else 0);rw[if_neg (by omega),if_pos rfl];have cr:=OO (a:=x) hi;omega
    have Z:=d' aP;have V:=d' aB;rw[Z]at hl;have cs:=y' (iK hi V (.inr hl));subst aJ;clear hl Z V bm ay aS aT aH aI aa ao ab ac t1 t2 ah bh bi aP bg bC aD bK bJ;go_wp2;go_ret;rw[<-d' cs];exact .inl ⟨rfl,_,az,d' aB,bb,d' aU⟩
   rw[z53 ax]at ai;have aU:=y' (iK hi V (.inl ax));clear aO I bc bd V bf aA be av;unfold C' at ai;go_wp2_with (go_at_call 178;refine Cm ai ?_;rintro r y ⟨rfl,rfl⟩);go_ret;exact .inl ⟨rfl,out,⟨au,az,d' aB,bb,d' bg⟩,d' aU⟩
  have aD:=y' bB;clear bB aZ;go_wp2;go_ret;exact .inr ⟨rfl,d' aD⟩
def Xs (op ct n:Nat) (w x:World) (p:Nat) (a:Mq.Sk) (c:Sv):Prop:=∃sh st,Xg w x p a.Qa a.Qc sh st c/\Alv op ct n st a.Qa a.Qc/\IY a.held sh
theorem Xs.behind {op ct n:Nat} {w x y:World} {p:Nat} {a:Mq.Sk} {c:Sv} (h:Xs op ct n x y p a c) (hb:El w x):Xs op ct n w y p a c:=by
 obtain⟨sh,st,⟨z,K,F,N,s1,G⟩,hs,O⟩:=h;exact⟨sh,st,⟨z,K,(I' (E:=PkU p c) hb).trans F Ih,λk H=>(N k H).imp id (λh=>z26 hb.size h),s1,G⟩,hs,O⟩
theorem Xs.below {op ct n:Nat} {w x y:World} {p:Nat} {a:Mq.Sk} {c:Sv} (h:Xs op ct n w x p a c) (hb:El x y):Xs op ct n w y p a c:=by
 obtain⟨sh,st,h,hs,O⟩:=h;exact⟨sh,st,h.below hb,hs,O⟩
theorem IE (z:Jo p b x.Qa x.Qc L H D) (hs:Alv w a q H x.Qa x.Qc) (O:IY x.held L):Xs w a q p p b x D:=⟨L,H,oR z,hs,O⟩
theorem Xj.behind {op:Nat} {w x y:World} {p e:Nat} {Qc:Nat->List z10} {c:Sv} (h:Xj op x y p e Qc c) (hb:El w x):Xj op w y p e Qc c:=by
 obtain⟨sh,st,⟨z,K,F,N,s1,G⟩,hs⟩:=h;exact⟨sh,st,⟨z,K,(I' (E:=PkU p c) hb).trans F Ih,λk H=>(N k H).imp id (λh=>z26 hb.size h),s1,G⟩,hs⟩
def ZX (op ct n:Nat) (w x:World) (p:Nat) (a a':Mq.Sk) (i:Nat) (z:List z10) (k:Nat) (c:Sv) (v:Int):Prop:=
 (v=0/\(n=0\/k < n)/\Xs op (ct+k) (n - k) w x p a' c)\/(v=4/\1<=n/\n<=k/\Xj op w x p a.Qa (grown a i (z.take (n - 1))).Qc c)
theorem IF (h:Xs w a q p f b cK D):ZX w a q p f b x cK Q S 0 D 0:=.inl ⟨rfl,by omega,h⟩
theorem ZX.behind {op ct n:Nat} {w x y:World} {p:Nat} {a a':Mq.Sk} {i:Nat} {z:List z10} {k:Nat} {c:Sv} {v:Int} (h:ZX op ct n x y p a a' i z k c v) (hb:El w x):ZX op ct n w y p a a' i z k c v:=by
 rcases h with ⟨h1,h2,h3⟩|⟨h1,h2,h3,h4⟩;exact .inl ⟨h1,h2,h3.behind hb⟩;exact .inr ⟨h1,h2,h3,h4.behind hb⟩
theorem rB (ac:Jo p b x.Qa x.Qc L H D) (hs:Alv w a q H x.Qa x.Qc) (bo:a+1000 < 18446744073709551616) (aS:Jd x) (bp:CZ x) (O:IY x.held L) (e:Int) (i z:Nat) (hi:i < 3) (bS:z<=2147483647) (F:z10) (hb:F.size<=20):
  Cp 135 #[C' b,.agg #[Ej 3,Ej e,Ej i,Ej z,.string F]] p λr w'=>∃v,r=.returned (Ej v)/\ZX w a q p w' b x (BC x 3 x.Qa i z F) i (x.Qg 3 x.Qa i z F) (x.Qg 3 x.Qa i z F).length D v:=by
 have bq:=z12 ac.ks.blk;obtain⟨br,cap,bt,aT⟩:=ac.ks.logc hi;have bu:=ac.ks.Ve hi;obtain⟨n1,aG⟩:=exq ((x.Qc i).length+1);obtain⟨d,hd⟩:=exq ((z:Int) - (n1:Int):Int);have bT:IntKind.i64.wrap ((z:Int) - (n1:Int))=d:=by rw[z28];omega
 have aH:=λy (Z:El p y)=>y' (JN y b (2+i * 3) _ cap br (Bc Z bq aT) (by omega));rw[<-aG]at aH;have aI:=λy (Z:El p y)=>y' (VK (ac.ks.far (fbF Z) Ih));have aU:=λy (Z:El p y)=>y' (ac.far (fbF Z) Ih);obtain⟨room,aJ⟩:=exq (decide ((x.Qc 0).length+(x.Qc 1).length+(x.Qc 2).length < 120));rw[<-aJ]at aI;have bU:(0:Int)<=(i:Int):=by omega
 have bV:(i:Int) < 3:=by omega
 have ad:=y' (z13 aG (z13 hd (z13 aJ bu)));have bW:=y' ac;have aV:=y' (JT p #[Ej 3,Ej e,Ej i,Ej z,.string F]);clear ac bt aT aG hd aJ;unfold C' at *;go_enter func135,ntmps135;go_upto_region 1 with fail;refine G' (Xz p #[Ej 3,Ej e,Ej i,Ej z,.string F]) (d' aV) ?_;clear aV;intro aW X;have au:=Bi 2 X.box;have V:=Bi 3 X.box;simp at au V;have bw:=X.bel;have I:=y' X;clear X;go_quiet (fail);go_upto_region 2 with fail;refine G' (Xz p #[Ej 3,Ej e,Ej i,Ej z,.string F]) ((d' I).drewN _) ?_;clear I au V bw;intro bz X;have V:=Bi 3 X.box;simp at V;have aX:=λq=>y' (d' (aH (bz.drewN q) (X.drewN q).bel));have I:=y' X;clear X aH;go_quiet (first|(go_at_call 130;exact z58 (d' (aX _))));go_upto_region 3 with fail;refine G' (Xz p #[Ej 3,Ej e,Ej i,Ej z,.string F]) (by first|exact d' I|exact(d' I).drewN _|exact(d' I).drew|exact(d' I).drew.drew) ?_;clear I V aX;intro ah X;have au:=Bi 2 X.box;have V:=Bi 3 X.box;have aA:=Bi 4 X.box;simp at au V aA;have aB:=y' (d' (aI ah X.bel));have G:=d' (aU ah X.bel);have I:=y' X;clear X aI aU;have aC:=y' ((IE G hs O).behind (d' I).bel);by_cases hd0:d=0
 .have aY:z=(x.Qc i).length+1:=by obtain⟨h1,h2,_⟩:=d' ad;omega
  have aZ:=y' aY;clear aY;subst hd0;cases ak:room
  .have ai:¬ (z=(x.Qc i).length+1/\x.count < 120):=(by have h:=(d' ad).2.2.1;rw[ak]at h;have h:=of_decide_eq_false h.symm;exactλbA=>h bA.2);have ao:=y' (LN (b:=F) ai);have ba:BC x 3 x.Qa i z F=x:=(by rw[MP ai,CS,if_neg (λh=>by have:=d' aZ;omega)]);rw[ak]at aB;have av:=y' ba;clear G ai ba ak;go_upto_region 5 with (go_at_call 178;refine Cm aB ?_;rintro r y ⟨rfl,rfl⟩);go_quiet (fail);go_wp2;go_ret;exact⟨0,rfl,by rw[d' av,d' ao];exact IF ((d' aC).below (z36 (z11 _ _) _))⟩
  have aK:x.count < 120:=by have h:=(d' ad).2.2.1;rw[ak]at h;exact rV h.symm
  have bb:=y' (ZW G hs bo aS bp O i hi F hb aK);rw[ak]at aB;have bc:=y' aK;have aD:Cp 179 #[C' b,Ej i,.string F] ah λr w'=>∃v:Int,r=.returned (Ej v)/\ZX w a q ah w' b x (EJ x i (x.commitFrom i ((x.Qc i).length+1) x.count 120 [F])) i (x.commitFrom i ((x.Qc i).length+1) x.count 120 [F]) (x.commitFrom i ((x.Qc i).length+1) x.count 120 [F]).length D v:=by refine Cm bb ?_;rintro r y (⟨rfl,out,⟨bB,bC,bD,bd,bE⟩,bF⟩|⟨rfl,h1,h2,h3⟩);rw[<-bF];exact⟨0,rfl,.inl ⟨rfl,bd.2,bB,bC,bE,bd.1,Gp bD⟩⟩;exact⟨4,rfl,.inr ⟨rfl,h1,h2,h3⟩⟩
  have aD:=y' aD;clear bb;unfold C' at aD;clear G ak aK;go_wp2_with (first|(go_at_call 178;refine Cm aB ?_;rintro r y ⟨rfl,rfl⟩)|(go_at_call 179;refine Cm aD ?_;rintro r y ⟨v,rfl,aL⟩;replace aL:=y' aL));go_ret;refine⟨v,rfl,?_⟩;rw[d' aZ,RU (d' bc),RT (d' bc)];exact(d' aL).behind (d' I).bel
 have bX:(d==0)=false:=by simpa using hd0
 have ai:¬ (z=(x.Qc i).length+1/\x.count < 120):=λh=>by obtain⟨h1,h2,_⟩:=d' ad;omega
 have ab:=MP (b:=F) ai;have ao:=y' (LN (b:=F) ai);clear ai;by_cases h1:1<=d
 .by_cases h3:d<=3
  .have aq:=y' (YN G.ks.blk (G.ks.am i hi) (G.ks.shs i hi) (G.ks.are i hi) (z:Int));have aM:=(G.ks.shs i hi).sorted;have Q:=vV O G.ks.are hi z;have be:=tM aS O G.ks.are hi aM;obtain⟨ax,aN⟩:=exq ((AV (L i) (z:Int)).isSome);have aq:=λy (Z:El ah y)=>y' (YN (G.far (fbF Z) Ih).ks.blk (G.ks.am i hi) ((G.far (fbF Z) Ih).ks.shs i hi) (G.ks.are i hi) (z:Int));rw[<-aN]at aq Q;have ay:=λaj (bG:El ah aj)=>y' (Cb ((G.far (fbF bG) Ih).shAt hi) be z F);have aE:=(d' I).lt;have bH:=y' G;have aO:=y' (z13 aM (z13 Q aN));have bf:=y' ab;clear G aN Q aM be ab;go_upto_region 5 with fail;refine AI
    [Ei d,Eb true,Eb true,Ei d,Eb true,Eb true,Eb true,
     Ep b (2+i * 3),Ep b (2+i * 3),Ep b (2+i * 3+1),Ep p.heap.size 3,Ei z,Eb ax,Eb (!ax),Eb (!ax),Eb (!ax)]
    [[6],[1032],[2033],[6,3034],[4035,3034],[3034,5036],[6037],[5,7038],[8039,7038],[9040,7038],[3,7038],[11042,7038],[10041,12043,7038],[13044,7038],[7038,14045],[15046]] [33,34,35,36,37,38,39,40,41,42,43,44,45,46,47,32] [31,16,9] ?_ ?_
   .refine⟨?_,?_,?_,?_,?_,?_,?_,?_,?_,?_,?_,?_,?_,?_,?_,?_,trivial⟩;all_goals
     intro a' aj J Y;have z3:=Bc J aE V;have bg:=y' (d' (aq aj J));clear J aq ay;simp[J']at Y;try (have bI:a'.tmps[34]? =some (.bool true):=JM (by first|exact Y|exact Y.1|exact Y.2|exact Y.2.2))
     try (have bJ:a'.tmps[38]? =some (.bool true):=JM (by first|exact Y|exact Y.1|exact Y.2|exact Y.2.2))
     try go_simp
     try simp only[bI,if_true]
     try simp only[bJ,if_true]
     try go_simp
     try exact z11 _ _
    all_goals first
     |exact⟨rfl,z11 _ _⟩
     |exact⟨_,rfl,z11 _ _,rfl⟩
     |(refine Cm bg ?_;rintro e bK ⟨rfl,hb⟩;exact⟨rfl,hb⟩)
     |(refine Cm bg ?_;rintro e bK ⟨rfl,hb⟩;exact⟨_,rfl,hb,rfl⟩)
     |skip
   intro f aj J aa;simp only[AJ]at aa;have bL:=aa.2.2.2.2.2.2.2.2.2.2.2.2.2.2.2.1;clear aa;simp only[V',bL];have z3:=Bc J aE V;have z4:=Bc J aE aA;have az:=y' J;have bh:=d' (ay aj J);cases ax
   .have M:CS x i z F={x with held:=x.held++[(i,z,F)]}:=(by obtain⟨bi,bj,_⟩:=d' ad;have Q:=(d' aO).2.1;rw[CS,if_pos ⟨by omega,by omega,by cases h:x.ix i z with|none=>rfl|some v=>rw[h]at Q;cases Q⟩]);have aF:x.ix i z=none:=(by have Q:=(d' aO).2.1;cases h:x.ix i z with|none=>rfl|some v=>rw[h]at Q;cases Q);have aP:=y' (z13 M aF);have bk:=λy (Z:El aj y)=>y' (d' (ay y (J.trans (Z.mono J.size))));simp only[PW]at bk;have bl:p.heap.size < aj.heap.size:=z21 aE J.size;clear J bh M aF aq ay au V aA;go_upto_region 6 with fail;refine Z'
     [Ep b (2+i * 3),Ep b (2+i * 3),Ep b (2+i * 3+1),Ep p.heap.size 3,Ei z,Ep p.heap.size 4,Ev (.string F),Ev (.agg #[.string F]),Et]
     [[5],[1047],[2048],[3],[4050],[3],[6052],[7053],[3049,5051,8054]] [48,49,50,51,52,53,54,55,56] [47,9]
     8 _ rfl rfl ?_ ?_
    .refine⟨?_,?_,?_,?_,?_,?_,?_,?_,trivial⟩;all_goals
      intro a' y hb Y;have V:=Bc hb bl z3;have aA:=Bc hb bl z4;clear hb;simp[J']at Y;go_simp;try exact⟨_,rfl,z11 _ _,rfl⟩
      try exact z11 _ _
    intro f2 y aQ aa;simp only[AJ,List.take]at aa;have g2:=aa.2.2.1;have bM:=aa.2.2.2.2.1;have bN:=aa.2.2.2.2.2.2.2.1;clear aa;have bO:=y' (d' (bk y aQ));have bm:=y' aQ;clear aQ;simp only[V',g2,bM,bN];go_simp;refine Cm bO ?_;rintro r u ⟨rfl,hst⟩;have bP:=y' hst;clear hst;go_wp2;go_ret;refine⟨0,rfl,?_⟩;obtain⟨M,aF⟩:=d' aP;rw[d' bf,M,d' ao];have bQ:El p y:=(d' I).bel.trans (((d' az).trans ((d' bm).mono (d' az).size)).mono (d' I).bel.size);have bR:El ah y:=(d' az).trans ((d' bm).mono (d' az).size);have bn:=(d' bH).far (fbF bR) Ih;refine IF (Xs.behind ⟨_,H,iL bn hi (d' bP) ?_,hs,yA O i z F hi aF⟩ bQ);intro aW aR;rcases RP aR with rfl|aR;exact⟨F,rfl⟩;exact bn.ks.are i hi aW aR
   have M:CS x i z F=x:=(by have Q:=(d' aO).2.1;rw[CS,if_neg (λh=>by rw[h.2.2]at Q;cases Q)]);have aP:=y' M;clear J bh M aq ay;go_wp2;go_ret;exact⟨0,rfl,by rw[d' bf,d' aP,d' ao];exact IF ((d' aC).below (d' az))⟩
  have M:CS x i z F=x:=by obtain⟨bi,bj,_⟩:=d' ad;rw[CS,if_neg (λh=>by omega)]
  rw[M]at ab;have av:=y' ab;clear G M ab;go_upto_region 5 with fail;go_quiet (fail);go_wp2;go_ret;exact⟨0,rfl,by rw[d' av,d' ao];exact IF ((d' aC).below (z36 (z11 _ _) _))⟩
 have M:CS x i z F=x:=by obtain⟨bi,bj,_⟩:=d' ad;rw[CS,if_neg (λh=>by omega)]
 rw[M]at ab;have av:=y' ab;clear G M ab;go_upto_region 5 with fail;go_quiet (fail);go_wp2;go_ret;exact⟨0,rfl,by rw[d' av,d' ao];exact IF ((d' aC).below (z36 (z11 _ _) _))⟩
def hiW (a:Mq.Sk) (e:Nat):Nat:=if a.Qa < e then 1 else 0
theorem jC (F:Jo p b x.Qa x.Qc L H D) (hs:Alv w a q H x.Qa x.Qc) (bl:a+1000 < 18446744073709551616) (O:IY x.held L) (e:Nat) (bm:x.Qa<=e) (az:e<=2147483647):
  Cp 132 #[C' b,Ej e] p λr w'=>∃v,r=.returned (Ej v)/\ZX w a q p w' b x (CE x e) 0 [] (hiW x e) D v:=by
 have c1:p.cell? (Ea b 1)=some (Ej x.Qa):=by rw[D' F.ks.blk,F.ks.a1]
 by_cases aP:e=x.Qa
 .subst aP;have aQ:=y' (IE F hs O);rw[kS,show hiW x x.Qa=0 by unfold hiW;rw[if_neg (by omega)]];have hb:((x.Qa:Int) == (x.Qa:Int))=true:=by simp
  clear F;unfold C';go_enter func132,ntmps132;go_wp2;go_ret;exact⟨0,rfl,IF (d' aQ)⟩
 rw[show hiW x e=1 by unfold hiW;rw[if_pos (by omega)]];obtain⟨aa,ab⟩:=exq ((H.Qp e 0 0).1);have aA:CE x e={x with Qa:=e,held:=[]}:=by unfold CE EX;rw[if_pos (by omega)]
 rw[aA];have aB:=λy (aR:Zp y D.s D.dp H D.dlv D.duv)=>y' (EY y D.s D.dp H D.dlv D.duv aR e 0 0 (by omega) (by omega) (by omega));obtain⟨G,hst⟩:=exq ((H.Qp e 0 0).2);rw[<-ab,<-hst]at aB;have aC:(q≠1/\aa=0/\Alv w (a+1) (q - 1) G e x.Qc)\/(q=1/\aa=4/\Ded w G x.Qa x.Qc):=by by_cases h1:q=1;subst h1;have:=Hp hs e 0 0;rw[<-ab,<-hst]at this;exact .inr ⟨rfl,this⟩;have:=Ho hs (by omega) h1 az;rw[<-ab,<-hst]at this;exact .inl ⟨h1,this⟩
 have aS:G.dk.bytes.length=7808:=by
  rw[hst];unfold Stv.Qp Dk.put;simp only
  split;exact F.len;split;exact F.len;simp only
  have:=F.stt.hd;rw[Xa (Jz _ _ (by rw[Ju];omega)) (by rw[F.len];omega)];exact F.len
 have aT:((e:Int) == (x.Qa:Int))=false:=by simp;omega
 have bn:=z12 F.ks.blk;have J:=y' F;have aU:=λy=>y' (PB e y);have ah:=y' aC;obtain⟨ep,ai⟩:=exq (x.Qa);have aD:=y' ai;rw[<-ai]at c1 aT J;clear F hst ab aC aA ai;unfold C' at *;go_enter func132,ntmps132;go_upto_region 3 with fail;refine AH
  [Ep b 0,Ep b 0,Ep b 0,Ep D.s 0,Ei e,Ev (.agg #[Ej e,Ej 0,Ej 0]),
   λv y=>v=Ej aa/\∃M,Zp y D.s D.dp G D.dlv M/\Loc p D.duv M,Ei aa]
  [[0],[1013],[2014],[3015],[1],[5017],[4016,6018],[7019]] [14,15,16,17,18,19,20,6] [5,1,7,7,18]
  [(6,StU D.s D.dp D.dlv D.duv)] ?_ ?_ (hst:=by repeat' (first|exact Y' _|exact(λ_ _ _ h hb=>⟨h.1,h.2.imp λ_ h=>⟨h.1.far (fbF hb) Ih,h.2⟩⟩)|exact trivial|apply z13))
 .refine⟨?_,?_,?_,?_,?_,?_,?_,?_,trivial⟩;all_goals
   intro a' I hb aj;simp[J']at aj
  iterate 3
   .clear hb;go_simp;exact⟨_,rfl,Far.refl _ _,rfl⟩
  .have z0:I.cell? (Ea b 0)=some (Er D.s 0):=(by have:=hb.blk (d' J).ks.blk (AS (by exactλh=>(d' J).sep b (.inl rfl) h));rw[D' this,(d' J).ks.a0];rfl);clear hb;go_simp;exact⟨_,rfl,Far.refl _ _,rfl⟩
  .clear hb;go_simp;exact⟨_,rfl,Far.refl _ _,rfl⟩
  .have ak:=y' (d' (aU I));clear hb;go_simp;refine Cm ak ?_;rintro r aV ⟨rfl,aW⟩;exact⟨_,rfl,I' aW,rfl⟩
  .have ao:El p I:=IQ hb;have ak:=y' (d' (aB I ((d' J).stt.far (fbF ao) Ih)));have aX:=ao.size;clear hb ao;go_simp;refine Cm ak ?_;rintro r aV ⟨rfl,M,k1,k2,k3⟩;exact⟨_,rfl,AQ (.head _) k3,rfl,M,k1,EG k2 aX⟩
  clear hb;obtain⟨aj,_⟩:=aj;go_simp;exact⟨_,rfl,Far.refl _ _,rfl⟩
 intro f I hF aq;obtain⟨_,M,k1,k2⟩:=aq.2.2.2.2.2.2.1;have aY:=aq.2.2.2.2.2.2.2.1;have hF:Far (StU D.s D.dp D.dlv D.duv) p I:=IH hF;have Q:Jo I b ep x.Qc L G {D with duv:=M}:=⟨(d' J).ks.far hF (λk z h=>(d' J).sep k z h),k1,(d' J).rl.far hF (λg au h=>((d' J).sepr g au).2 h),aS⟩;have aE:Xg p I b ep x.Qc L G D:=by refine⟨_,Q,hF.mono (λk _ h=>.inr (.inl h)),?_,rfl,rfl⟩;have bo:=hF.size;rintro k (z|(rfl|rfl|z|z)|z);exact .inl (.inl z);exact .inl (.inr (.inl (.inl rfl)));exact .inl (.inr (.inl (.inr (.inl rfl))));exact .inl (.inr (.inl (.inr (.inr (.inl z)))));rcases k2 with h|h|⟨g,h,au⟩;rw[h]at z;cases z;exact .inl (.inr (.inl (.inr (.inr (.inr (by rw[<-h];exact z))))));rw[h]at z;cases z;exact .inr au;exact .inl (.inr (.inr z))
 have av:=y' aE;have aF:I.frozen? ⟨b,1,none⟩=false:=H' (i:=1) Q.ks.blk;have aG:I.cell? (Ea b 1)=some (Ej ep):=by rw[D' Q.ks.blk];exact Q.ks.a1
 clear aq hF k1 k2 Q aE;simp only[V',aY];rcases d' ah with ⟨V,rfl,aH⟩|⟨V,rfl,aI⟩;rotate_left
 .have ax:=y' (z13 V aI);clear V aI ah aF aG;go_wp2;go_ret;refine⟨4,rfl,.inr ⟨rfl,by rw[(d' ax).1];omega,by rw[(d' ax).1];omega,?_⟩⟩;rw[Mj,IB,<-d' aD];exact⟨L,G,d' av,by rw[d' aD];exact(d' ax).2⟩
 have aJ:=y' (z13 V aH);have aK:=y' ((d' av).trans (λbp aZ=>yB aZ e az));clear V aH ah av;go_upto_region 7 with fail;refine G' (λy=>Xg p y b e x.Qc L G D) (d' aK) ?_;clear aK aF aG;intro y aL;have aM:=y' aL;clear aL;go_wp2;go_loopw[6,27] (λ_ i wr=>∃j:Nat,j<=3/\i=.int .i64 j/\Xg p wr b e x.Qc (λt=>if t < j then []else L t) G D) (λ_ i _=>3 - (intOf i).toNat)
 case atStart=>exact⟨0,by omega,rfl,by simpa using d' aM⟩
 case round=>
  obtain⟨j,hj,rfl,z⟩:=hrel;clear aM;by_cases aN:j < 3
  .obtain⟨bq,ay,Y,Z,ac,ad⟩:=id z;have ba:=y' (tE (ay.shAt aN));have br:(0:Int)<=(j:Int):=(by omega);have bt:(j:Int) < 3:=(by omega);have bu:=y' z;have bb:=y' ay;have bc:=y' (z13 Y (z13 Z (z13 ac ad)));clear z ay Y Z ac ad;go_wp2_with (go_at_call 177;refine Cm ba ?_;rintro r y ⟨rfl,hst⟩);have bd:=iL (d' bb) aN hst (by intro bw be;cases be);obtain⟨Y,Z,ac,ad⟩:=d' bc;have h2:Xg p y b e x.Qc (λt=>if t < j+1 then []else L t) G D:=by
    obtain⟨c2,aO,bf,bg,bh,bi⟩:=bd;have bj:=Y.size;have bk:(λt=>if t=j then([]:List (Nat×Value))else(λt=>if t < j then []else L t) t)=λt=>if t < j+1 then []else L t:=by funext t;by_cases h1:t=j;simp[h1];by_cases h2:t < j;simp[h1,h2,show t < j+1 by omega];simp[h1,h2,show ¬t < j+1 by omega]
    rw[bk]at aO;refine⟨c2,aO,Y.trans bf (λk z hu=>(Z k hu).elim id (λh=>by omega)),λk z=>?_,bh.trans ac,bi.trans ad⟩;rcases bg k z with h|h;exact Z k h;exact .inr (z26 bj h)
   exact⟨⟨j+1,by omega,by go_num,h2⟩,by simp[intOf];omega⟩
  obtain rfl:j=3:=by omega
  go_wp2;go_ret;exact⟨0,rfl,.inl ⟨rfl,by have:=(d' aJ).1;omega,_,G,z,(d' aJ).2,kT⟩⟩
section
variable {op ct n:Nat} {w:World} {p:Nat} {a:Mq.Sk} {sh:Nat->List (Nat×Value)} {st:Stv} {c:Sv}
theorem Hr (z:Jo w p a.Qa a.Qc sh st c) (hs:Alv op ct n st a.Qa a.Qc) (F:ct+1000 < 18446744073709551616) (G:Jd a) (H:CZ a) (O:IY a.held sh) (e:Int) (i q:Nat) (hi:i < 3) (I:q<=2147483647) (b:z10) (hb:b.size<=20) (hn:n=0\/(a.Qg 3 a.Qa i q b).length < n):
  Cp 135 #[C' p,.agg #[Ej 3,Ej e,Ej i,Ej q,.string b]] w λr w'=>Rr r (Ej 0)/\Xs op (ct+(a.Qg 3 a.Qa i q b).length) (n - (a.Qg 3 a.Qa i q b).length) w w' p (BC a 3 a.Qa i q b) c:=by
 refine(rB z hs F G H O e i q hi I b hb).mono ?_;rintro r w' ⟨v,rfl,⟨rfl,_,h⟩|⟨_,h1,h2,_⟩⟩;exact⟨rfl,h⟩;omega
theorem Dw (z:Jo w p a.Qa a.Qc sh st c) (hs:Alv op ct n st a.Qa a.Qc) (F:ct+1000 < 18446744073709551616) (G:Jd a) (H:CZ a) (O:IY a.held sh) (e:Int) (i q:Nat) (hi:i < 3) (I:q<=2147483647) (b:z10) (hb:b.size<=20) (hn:1<=n/\n<=(a.Qg 3 a.Qa i q b).length):
  Cp 135 #[C' p,.agg #[Ej 3,Ej e,Ej i,Ej q,.string b]] w λr w'=>Rr r (Ej 4)/\Xj op w w' p a.Qa (grown a i ((a.Qg 3 a.Qa i q b).take (n - 1))).Qc c:=by
 refine(rB z hs F G H O e i q hi I b hb).mono ?_;rintro r w' ⟨v,rfl,⟨rfl,h,_⟩|⟨rfl,_,_,h⟩⟩;omega;exact⟨rfl,h⟩
theorem Dx (z:Jo w p a.Qa a.Qc sh st c) (hs:Alv op ct n st a.Qa a.Qc) (F:ct+1000 < 18446744073709551616) (O:IY a.held sh) (e:Nat) (G:a.Qa<=e) (H:e<=2147483647) (hn:n=0\/hiW a e < n):
  Cp 132 #[C' p,Ej e] w λr w'=>Rr r (Ej 0)/\Xs op (ct+hiW a e) (n - hiW a e) w w' p (CE a e) c:=by
 refine(jC z hs F O e G H).mono ?_;rintro r w' ⟨v,rfl,⟨rfl,_,h⟩|⟨_,h1,h2,_⟩⟩;exact⟨rfl,h⟩;omega
theorem zH (z:Jo w p a.Qa a.Qc sh st c) (hs:Alv op ct n st a.Qa a.Qc) (F:ct+1000 < 18446744073709551616) (O:IY a.held sh) (e:Nat) (G:a.Qa<=e) (H:e<=2147483647) (hn:1<=n/\n<=hiW a e):
  Cp 132 #[C' p,Ej e] w λr w'=>Rr r (Ej 4)/\Xj op w w' p a.Qa a.Qc c:=by
 refine(jC z hs F O e G H).mono ?_;rintro r w' ⟨v,rfl,⟨rfl,h,_⟩|⟨rfl,_,_,h⟩⟩;omega;rw[Mj,IB]at h;exact⟨rfl,h⟩
end
theorem gJ (V:Jo p b x.Qa x.Qc L H D) (hs:Alv w a q H x.Qa x.Qc) (aG:a+1000 < 18446744073709551616) (bi:Jd x) (bj:CZ x) (O:IY x.held L) (i F:Nat) (hi:i < 3) (ao:F<=2147483647) (G:z10) (hb:G.size<=20) (aH:q=0\/(x.Qg 3 x.Qa i F G).length < q):
  Cp 88 #[C' b,.agg #[Ej 3,Ej x.Qa,Ej i,Ej F,.string G]] p λr z=>
   r=.returned (.tuple #[.agg #[Ej 4,Ej x.Qa,Ej i,Ej ((BC x 3 x.Qa i F G).Qc i).length,.string (Jn (BC x 3 x.Qa i F G) i ((BC x 3 x.Qa i F G).Qc i).length)],Ej 0])/\Xs w (a+(x.Qg 3 x.Qa i F G).length) (q - (x.Qg 3 x.Qa i F G).length) p z b (BC x 3 x.Qa i F G) D:=by
 obtain⟨bL,aI⟩:=exq (q - (x.Qg 3 x.Qa i F G).length);obtain⟨bM,aJ⟩:=exq (a+(x.Qg 3 x.Qa i F G).length);have c1:p.cell? (Ea b 1)=some (Ej x.Qa):=by rw[D' V.ks.blk,V.ks.a1]
 have bk:=z12 V.ks.blk;have ad:=λy (bl:El p y)=>y' (Hr (V.far (fbF bl) Ih) hs aG bi bj O x.Qa i F hi ao G hb aH);rw[<-aI,<-aJ]at ad ⊢;clear aI aJ aH;have aq:(BC x 3 x.Qa i F G).Qa=x.Qa:=by unfold BC;split;exact MJ _ _ _ _;rfl
 obtain⟨a2,aK⟩:=exq (BC x 3 x.Qa i F G);rw[<-aK]at ad aq ⊢;obtain⟨ep,aL⟩:=exq (x.Qa);rw[<-aL]at c1 ad aq ⊢;have bN:((ep:Int) != (ep:Int))=false:=by simp
 have bm:=y' V.lt;have aM:=y' (LZ p #[Ej 3,Ej ep,Ej i,Ej F,.string G] zFr);have bO:(0:Int)<=(i:Int):=by omega
 have bP:(i:Int) < 3:=by omega
 have bn:=y' aq;clear hs aG;obtain⟨q,hn⟩:=exq ((a2.Qc i).length);rw[<-hn];obtain⟨ah,Y⟩:=exq (Jn a2 i q);rw[<-Y];have bo:=y' (z13 hn Y);clear V aL aK aq hn Y;unfold C' at *;go_enter func88,ntmps88;go_upto_region 1 with fail;refine G' (Vw p #[Ej 3,Ej ep,Ej i,Ej F,.string G] zFr) (d' aM) ?_;clear aM;intro bQ X;have ai:=Bi 1 X.box;simp at ai;have aN:=Bc X.bel bk c1;have J:=y' X;clear X;go_quiet (fail);go_upto_region 3 with fail;refine G' (Vw p #[Ej 3,Ej ep,Ej i,Ej F,.string G] zFr) ((d' J).drewN _) ?_;clear J ai aN;intro aA X;obtain⟨aO,ai,Z,aP,aQ⟩:=GL X.box;simp at aO ai Z aP aQ;have aR:=y' (d' (ad aA X.bel));have J:=y' X;clear X ad;go_upto_region 6 with (go_at_call 135;refine Cm aR ?_;rintro r y ⟨rfl,M⟩);obtain⟨aB,aC,⟨c2,aS,au,av,t1,t2⟩,ax,ay⟩:=M;have aT:∀k,p.heap.size<=k->¬PkU b D k:=λk M h=>by have:=(d' bm) k h;omega
 have bR:=(d' J).lt;refine G' (λz=>Jo z b a2.Qa a2.Qc aB aC c2/\Far (PkU b D) aA z/\Eh z p.heap.size #[Ej 3,Ej ep,Ej i,Ej F,.string G] 63/\Eh z (p.heap.size+1) zFr 63) ⟨aS,au,au.blk (d' J).box (aT _ (z16 _)),au.blk (d' J).res (aT _ (by omega))⟩ ?_;clear aO ai Z aP aQ aS au aR;rintro bp ⟨aU,aV,Q,aj⟩;have Z:bp.cell? (Ea p.heap.size 2)=some (Ej i):=Bi 2 Q;have aW:=y' aU;have aX:=y' aV;have aa:=y' (z13 Q aj);have aY:=y' (z13 av (z13 t1 (z13 t2 (z13 ax ay))));clear aU aV Q aj av t1 t2 ax ay;go_quiet (fail);go_upto_region 7 with fail;refine G' (λz=>Jo z b a2.Qa a2.Qc aB aC c2/\Far (PkU b D) aA z/\Eh z p.heap.size #[Ej 3,Ej ep,Ej i,Ej F,.string G] 63/\Eh z (p.heap.size+1) zFr 63) ⟨(d' aW).far (BK (λ_=>False) _ _) Ih,(d' aX).trans (BK (λ_=>False) _ _) (λ_ _ h=>h.elim),(d' aa).1,(d' aa).2⟩ ?_;clear Z aW aX aa;rintro ab ⟨I,aZ,Q,aj⟩;obtain⟨bq,cap,_,ba⟩:=I.ks.logc hi;have br:=I.ks.Ve hi;obtain⟨hn,Y⟩:=d' bo;rw[<-hn]at ba br;have bb:=(d' aY).2.2.2.2;have aD:=λz (aE:El ab z)=>y' (oP ((I.far (fbF aE) Ih).shAt hi) (I.ks.are i hi) q (by omega));rw[fS bb I.ks.are hi q,<-Y]at aD;have bc:=λz (aE:El ab z)=>y' (DJ z b (2+i * 3) q cap bq (Bc aE (z12 I.ks.blk) ba));have bt:=z12 I.ks.blk;have bu:ab.cell? (Ea b 1)=some (Ej ep):=by rw[D' I.ks.blk,I.ks.a1,d' bn]
 have Z:ab.cell? (Ea p.heap.size 2)=some (Ej i):=Bi 2 Q;have bw:=z12 Q;have bd:=y' I;have bz:=y' aZ;have aa:=y' aj;clear I aZ Q aj hn Y bb;have bS:b≠p.heap.size+1:=by omega
 refine AH
  [Ep b 0,Ep b 0,Ep b 1,Ei ep,Ep p.heap.size 2,Ei i,
   Ep b (2+i * 3),Ei q,Ep b (2+i * 3),Ei q,Ep b (2+i * 3),Ep b (2+i * 3),Ep b (2+i * 3+1),
   Ev (.func (.func 137) #[Er b (2+i * 3+1)] #[]),Ev (.string ah),Ev (.agg #[Ej 4,Ej ep,Ej i,Ej q,.string ah]),
   λ_ z=>Eh z (p.heap.size+1) #[Ej 4,Ej ep,Ej i,Ej q,.string ah] 63,Ei 0]
  [[0],[1036],[2037],[3038],[3],[5040],[7],[7042],[7],[9044],[7],[11046],[12047],[13048],[10045,14049],[4039,6041,8043,15050],[4,16051],[]] [37,38,39,40,41,42,43,44,45,46,47,48,49,50,51,52,0,6] [5,1,30,16]
  [(16,λk=>k=p.heap.size+1)] ?_ ?_ (hst:=by repeat' (first|exact Y' _|exact ac' _ _|exact trivial|apply z13))
 .refine⟨?_,?_,?_,?_,?_,?_,?_,?_,?_,?_,?_,?_,?_,?_,?_,?_,?_,?_,trivial⟩
  case refine_17=>intro a' z hb ac;simp[J']at ac;have az:=hb.blk (d' aa) DG;clear hb;rw[if_pos (by rfl)];refine RH 63 (.tmp 4) (.tmp 51) rfl (p.heap.size+1) #[Ej 4,Ej ep,Ej i,Ej q,.string ah] (by simp[Act.eval,ac]) (by simp[Act.eval,ac]) 63 _ az (by rw[PZ];rfl) rfl (by rw[z43];intro u hu;simp at hu;rcases hu with rfl|rfl|rfl|rfl|rfl <;> rfl) ?_;exact⟨_,rfl,AQ (.head _) (CN _ _ _),z91 _ _ _ _ _ _ az⟩
  case refine_18=>intro a' z hb ac;clear hb;go_simp;exact⟨_,rfl,Far.refl _ _,rfl⟩
  all_goals
   intro a' z hb ac;have ak:El ab z:=MF hb (by intro F ao;simp at ao;subst ao;show DM _ 16 _=true;decide+kernel);have be:=Bc ak bw Z;have aN:=Bc ak bt bu;have bA:=y' (d' (aD z ak));have bB:=y' (d' (bc z ak));clear hb ak aD bc;simp[J']at ac;go_simp;first
    |exact⟨_,rfl,Far.refl _ _,rfl⟩
    |(refine Cm bB ?_;rintro r be ⟨rfl,rfl⟩;exact⟨_,rfl,Far.refl _ _,rfl⟩)
    |(refine Cm bA ?_;rintro r be ⟨rfl,bC⟩;exact⟨_,rfl,I' bC,rfl⟩)
    |skip
 intro f z hF aF;have bf:=aF.2.2.2.2.2.2.2.2.2.2.2.2.2.2.2.2.1;have bD:=aF.2.2.2.2.2.2.2.2.2.2.2.2.2.2.2.2.2.1;obtain⟨az,bE,bF,bG,bH⟩:=GW bf;have hF:Far (λk=>k=p.heap.size+1) ab z:=IH hF;have bI:=y' hF;clear aF hF bf;simp only[V',bD];go_simp;go_wp2;refine z47 (v:=.tuple #[.agg #[Ej 4,Ej ep,Ej i,Ej q,.string ah],Ej 0]) (by simp[results,results88,go_sem,az,bE,bF,bG,bH]) rfl ⟨rfl,?_⟩;obtain⟨av,t1,t2,ax,ay⟩:=d' aY;have bg:=(d' J).bel;have bh:=d' bI;have bJ:¬PkU b c2 (p.heap.size+1):=by have bK:=d' aa;exact FA (d' bd) bK (by decide) (by decide) (by decide) (by decide) (by decide) (by decide) (by decide) (by decide)
 refine⟨aB,aC,⟨c2,(d' bd).far bh (λk M e=>bJ (by rw[<-e];exact M)),?_,λk M=>(av k M).imp id (λh=>z26 bg.size h),t1,t2⟩,ax,ay⟩;exact((I' (E:=PkU b D) bg).trans (d' bz) Ih).trans bh (λk M e=>by omega)
theorem ZY (J:Jo p b x.Qa x.Qc L H D) (hs:Alv w a q H x.Qa x.Qc) (aY:a+1000 < 18446744073709551616) (O:IY x.held L) (e:Nat) (s ad:Int) (ay:z10) (aZ:x.Qa<=e) (bB:e<=2147483647) (ba:q=0\/hiW x e < q):
  Cp 87 #[C' b,.agg #[Ej 1,Ej e,Ej s,Ej ad,.string ay]] p λr z=>
   r=.returned (.tuple #[.agg #[Ej 2,Ej e,Ej 0,Ej 0,.string (Aw x)],Ej 0])/\Xs w (a+hiW x e) (q - hiW x e) p z b (CE x e) D:=by
 obtain⟨ce,bb⟩:=exq (q - hiW x e);obtain⟨cf,bc⟩:=exq (a+hiW x e);have c1:p.cell? (Ea b 1)=some (Ej x.Qa):=by rw[D' J.ks.blk,J.ks.a1]
 have bC:=z12 J.ks.blk;have az:=λy (bD:El p y)=>y' (Dx (J.far (fbF bD) Ih) hs aY O e aZ bB ba);rw[<-bb,<-bc]at az ⊢;clear bb bc ba hs aY;have aP:(CE x e).Qc=x.Qc:=rfl;have aQ:(CE x e).Qa=e:=rfl;obtain⟨a2,bd⟩:=exq (CE x e);rw[<-bd]at az aP aQ ⊢;have aA:=yJ (x.Qc 0).length (x.Qc 1).length (x.Qc 2).length;have bE:=J.ks.Ve (i:=0) (by omega);have bF:=J.ks.Ve (i:=1) (by omega);have bG:=J.ks.Ve (i:=2) (by omega);obtain⟨n0,aB⟩:=exq ((x.Qc 0).length);obtain⟨n1,aC⟩:=exq ((x.Qc 1).length);obtain⟨n2,aD⟩:=exq ((x.Qc 2).length);obtain⟨V,aR⟩:=exq (Aw x);have aS:V=CH (x.Qc 0).length++CH (x.Qc 1).length++CH (x.Qc 2).length:=aR;rw[<-aR];rw[<-aB,<-aC,<-aD]at aS aA;rw[<-aS]at aA;rw[<-aB]at bE;rw[<-aC]at bF;rw[<-aD]at bG;have be:=λy=>y' (WH n0 n1 n2 (by omega) (by omega) (by omega) y);rw[aA]at be;have bH:=y' (z13 aB (z13 aC (z13 aD (z13 aP aQ))));obtain⟨ep,bf⟩:=exq (x.Qa);rw[<-bf]at c1 aZ;have cg:¬ (e:Int) < (ep:Int):=by omega
 have bI:=y' J.lt;have bg:=y' (LZ p #[Ej 1,Ej e,Ej s,Ej ad,.string ay] zFr);clear J bf bd aP aQ aB aC aD aR aS aA;unfold C' at *;go_enter func87,ntmps87;go_upto_region 1 with fail;refine G' (Vw p #[Ej 1,Ej e,Ej s,Ej ad,.string ay] zFr) (d' bg) ?_;clear bg;intro ch X;have ah:=Bi 1 X.box;simp at ah;have bh:=Bc X.bel bC c1;have Y:=y' X;clear X;go_quiet (fail);go_upto_region 3 with fail;refine G' (Vw p #[Ej 1,Ej e,Ej s,Ej ad,.string ay] zFr) ((d' Y).drewN _) ?_;clear Y ah bh;intro ai X;have ah:=Bi 1 X.box;simp at ah;have bi:=y' (d' (az ai X.bel));have Y:=y' X;clear X az;go_upto_region 6 with (go_at_call 132;refine Cm bi ?_;rintro r y ⟨rfl,G⟩);obtain⟨aE,aF,⟨c2,bj,aG,aH,t1,t2⟩,aI,aJ⟩:=G;have bJ:∀k,p.heap.size<=k->¬PkU b D k:=λk G h=>by have:=(d' bI) k h;omega
 have ci:=(d' Y).lt;have bK:=aG.size;obtain⟨M,aT⟩:=exq (y.heap.size);have bk:=y' (aG.blk (d' Y).res (bJ _ (by omega)));have bl:=y' bj;have bm:=y' aG;have bL:=y' (z13 aH (z13 t1 (z13 t2 (z13 aI aJ))));clear bi bj aG aH t1 t2 aI aJ ah;go_upto_region 7 with fail;rw[<-aT];refine G' (λz=>Jo z b a2.Qa a2.Qc aE aF c2/\Far (PkU b D) ai z/\Eh z (p.heap.size+1) zFr 63/\Eh z M #[Ej 0,Ej 0,Ej 0] 35) ?_ ?_;have hb:∀o,El y (y.alloc o):=λo=>(z11 _ _).alloc (z16 _) o;refine⟨(d' bl).far (fbF (hb _)) Ih,(d' bm).trans (fbF (hb _)) (λ_ _ h=>h.elim),((hb _).block _ (by omega)).trans (d' bk),by rw[aT];exact z19 _ _⟩;have cj:p.heap.size+1 < M:=by omega
 have ck:ai.heap.size<=M:=by omega
 clear bk bl bm aT bK;rintro cl ⟨aK,aL,aM,aN⟩;have bn:=y' (z13 aK (z13 aL (z13 aM aN)));clear aK aL aM aN;go_wp2;go_loopw[8,29] (λ_ i wr=>∃j:Nat,j<=3/\i=.int .i64 j/\Jo wr b a2.Qa a2.Qc aE aF c2/\Far (PkU b D) ai wr/\wr.heap[p.heap.size+1]? =some (.cells zFr 63 (0,0))/\wr.heap[M]? =some (.cells #[.int .i64 (if 0 < j then n0 else 0:Nat),.int .i64 (if 1 < j then n1 else 0:Nat),.int .i64 (if 2 < j then n2 else 0:Nat)] 35 (0,0))) (λ_ i _=>3 - (intOf i).toNat)
 case atStart=>obtain⟨aK,aL,aM,aN⟩:=d' bn;exact⟨0,by omega,rfl,aK,aL,aM,by simpa using aN⟩
 case round=>
  obtain⟨j,hj,rfl,K,Z,aa,F⟩:=hrel;clear bn;have bM:¬PkU b c2 M:=FA K F (by decide) (by decide) (by decide) (by decide) (by decide) (by decide) (by decide) (by decide);obtain⟨aj,ak,ao,Q,aq⟩:=d' bH;obtain⟨bN,bO,_,c0⟩:=K.ks.logc (i:=0) (by omega);obtain⟨bP,bQ,_,ab⟩:=K.ks.logc (i:=1) (by omega);obtain⟨bR,bS,_,ac⟩:=K.ks.logc (i:=2) (by omega);rw[Q,<-aj]at c0;rw[Q,<-ak]at ab;rw[Q,<-ao]at ac;have bo:=y' (DJ wr b 2 n0 bO bN c0);have bp:=y' (DJ wr b 5 n1 bQ bP ab);have bq:=y' (DJ wr b 8 n2 bS bR ac);have au:∀ (k:Nat) (v:Value),Jo (wr.setCell ⟨M,k,none⟩ v) b a2.Qa a2.Qc aE aF c2/\Far (PkU b D) ai (wr.setCell ⟨M,k,none⟩ v)/\(wr.setCell ⟨M,k,none⟩ v).heap[p.heap.size+1]? =some (.cells zFr 63 (0,0)):=λk v=>by have I:=T' wr M k v;exact⟨K.far I (λk G e=>bM (by rw[<-e];exact G)),Z.trans I (λk G e=>by omega),I.blk aa (by omega)⟩
  have aU:=y' au;have av:=λk v=>AA (j:=k) (v:=v) F;obtain⟨g0,g1,g2⟩:=DQ F;have f0:=H' (i:=0) F;have f1:=H' (i:=1) F;have f2:=H' (i:=2) F;have aV:=y' av;have br:=y' K;have bT:=y' Z;have bt:=y' aa;have cm:=y' F;rcases(show j=0\/j=1\/j=2\/j=3 by omega)with rfl|rfl|rfl|rfl
  .simp at g0;clear K Z aa F au av c0 ab ac aj ak ao Q aq g1 g2;go_wp2_with (go_at_call 133;refine Cm bo ?_;rintro r y ⟨rfl,rfl⟩);refine⟨⟨1,by omega,by go_num,?_⟩,by simp[intOf]⟩;obtain⟨h1,h2,h3⟩:=(d' aU) 0 (Ej n0);exact⟨h1,h2,h3,by simpa using (d' aV) 0 (Ej n0)⟩
  .simp at g1;clear K Z aa F au av c0 ab ac aj ak ao Q aq g0 g2;go_wp2_with (go_at_call 133;refine Cm bp ?_;rintro r y ⟨rfl,rfl⟩);refine⟨⟨2,by omega,by go_num,?_⟩,by simp[intOf]⟩;obtain⟨h1,h2,h3⟩:=(d' aU) 1 (Ej n1);exact⟨h1,h2,h3,by simpa using (d' aV) 1 (Ej n1)⟩
  .simp at g2;clear K Z aa F au av c0 ab ac aj ak ao Q aq g0 g1;go_wp2_with (go_at_call 133;refine Cm bq ?_;rintro r y ⟨rfl,rfl⟩);refine⟨⟨3,by omega,by go_num,?_⟩,by simp[intOf]⟩;obtain⟨h1,h2,h3⟩:=(d' aU) 2 (Ej n2);exact⟨h1,h2,h3,by simpa using (d' aV) 2 (Ej n2)⟩
  simp at g0 g1 g2;have bU:wr.cell? (Ea b 1)=some (Ej e):=by rw[D' K.ks.blk,K.ks.a1,aq]
  have bV:=z12 K.ks.blk;have aW:=z12 F;clear K Z aa F au av c0 ab ac aj ak ao Q aq bo bp bq;go_upto_region 12 with fail;refine AH
   [Ep b 0,Ep b 0,Ep b 1,Ei e,Ev (.agg #[Ej n0,Ej n1,Ej n2]),Ev (.string V),Ev (.agg #[Ej 2,Ej e,Ej 0,Ej 0,.string V]),
    λ_ z=>Eh z (p.heap.size+1) #[Ej 2,Ej e,Ej 0,Ej 0,.string V] 63,Ei 0]
   [[0],[1041],[2042],[3043],[7],[5045],[4044,6046],[4,7047],[]] [42,43,44,45,46,47,48,0,6] [5,1,35,7]
   [(7,λk=>k=p.heap.size+1)] ?_ ?_ (hst:=by repeat' (first|exact Y' _|exact ac' _ _|exact trivial|apply z13))
  .refine⟨?_,?_,?_,?_,?_,?_,?_,?_,?_,trivial⟩
   case refine_8=>intro a' z hb I;simp[J']at I;have aO:=hb.blk (d' bt) DG;clear hb;rw[if_pos (by rfl)];refine RH 63 (.tmp 4) (.tmp 47) rfl (p.heap.size+1) #[Ej 2,Ej e,Ej 0,Ej 0,.string V] (by simp[Act.eval,I]) (by simp[Act.eval,I]) 63 _ aO (by rw[PZ];rfl) rfl (by rw[z43];intro u hu;simp at hu;rcases hu with rfl|rfl|rfl|rfl|rfl <;> rfl) ?_;exact⟨_,rfl,AQ (.head _) (CN _ _ _),z91 _ _ _ _ _ _ aO⟩
   case refine_9=>intro a' z hb I;clear hb;go_simp;exact⟨_,rfl,Far.refl _ _,rfl⟩
   all_goals
    intro a' z hb I;have ax:El wr z:=MF hb (by intro ad bu;simp at bu;subst bu;show DM _ 7 _=true;decide+kernel);have bh:=Bc ax bV bU;have cn:=Bc ax aW g0;have cp:=Bc ax aW g1;have cq:=Bc ax aW g2;clear hb ax;simp[J']at I;go_simp;first
     |exact⟨_,rfl,Far.refl _ _,rfl⟩
     |(refine Cm (be z) ?_;rintro r cr ⟨rfl,bW⟩;exact⟨_,rfl,I' bW,rfl⟩)
     |skip
  intro f z hF aX;have bw:=aX.2.2.2.2.2.2.2.1;have bX:=aX.2.2.2.2.2.2.2.2.1;obtain⟨aO,bY,bZ,ca,cb⟩:=GW bw;have hF:Far (λk=>k=p.heap.size+1) wr z:=IH hF;have cc:=y' hF;clear aX hF bw;simp only[V',bX];go_simp;go_wp2;refine z47 (v:=.tuple #[.agg #[Ej 2,Ej e,Ej 0,Ej 0,.string V],Ej 0]) (by simp[results,results87,go_sem,aO,bY,bZ,ca,cb]) rfl ⟨rfl,?_⟩;obtain⟨aH,t1,t2,aI,aJ⟩:=d' bL;have bz:=(d' Y).bel;have bA:=d' cc;have cd:¬PkU b c2 (p.heap.size+1):=FA (d' br) (d' bt) (by decide) (by decide) (by decide) (by decide) (by decide) (by decide) (by decide) (by decide);refine⟨aE,aF,⟨c2,(d' br).far bA (λk G e=>cd (by rw[<-e];exact G)),?_,λk G=>(aH k G).imp id (λh=>z26 bz.size h),t1,t2⟩,aI,aJ⟩;exact((I' (E:=PkU b D) bz).trans (d' bT) Ih).trans bA (λk G e=>by omega)
theorem ZZ (M:Jo p b x.Qa x.Qc L H D) (hs:Alv w a q H x.Qa x.Qc) (ac:a+1000 < 18446744073709551616) (aE:Jd x) (aF:CZ x) (O:IY x.held L) (i F:Nat) (hi:i < 3) (aG:F<=2147483647) (G:z10) (hb:G.size<=20) (ad:1<=q/\q<=(x.Qg 3 x.Qa i F G).length):
  Cp 88 #[C' b,.agg #[Ej 3,Ej x.Qa,Ej i,Ej F,.string G]] p λr Y=>
   r=.returned (.tuple #[.agg zFr,Ej 4])/\Xj w p Y b x.Qa (grown x i ((x.Qg 3 x.Qa i F G).take (q - 1))).Qc D:=by
 have c1:p.cell? (Ea b 1)=some (Ej x.Qa):=by rw[D' M.ks.blk,M.ks.a1]
 have aH:=z12 M.ks.blk;have Z:=λy (aI:El p y)=>y' (Dw (M.far (fbF aI) Ih) hs ac aE aF O x.Qa i F hi aG G hb ad);clear ad;obtain⟨aJ,ah⟩:=exq ((grown x i ((x.Qg 3 x.Qa i F G).take (q - 1))).Qc);rw[<-ah]at Z ⊢;obtain⟨ep,ai⟩:=exq (x.Qa);rw[<-ai]at c1 Z ⊢;have aV:((ep:Int) != (ep:Int))=false:=by simp
 have aK:=y' M.lt;have aj:=y' (LZ p #[Ej 3,Ej ep,Ej i,Ej F,.string G] zFr);have aW:(0:Int)<=(i:Int):=by omega
 have aX:(i:Int) < 3:=by omega
 clear hs ac ah M ai;unfold C' at *;go_enter func88,ntmps88;go_upto_region 1 with fail;refine G' (Vw p #[Ej 3,Ej ep,Ej i,Ej F,.string G] zFr) (d' aj) ?_;clear aj;intro ak X;have Q:=Bi 1 X.box;simp at Q;have aL:=Bc X.bel aH c1;have I:=y' X;clear X;go_quiet (fail);go_upto_region 3 with fail;refine G' (Vw p #[Ej 3,Ej ep,Ej i,Ej F,.string G] zFr) ((d' I).drewN _) ?_;clear I Q aL;intro aM X;obtain⟨ao,Q,aq,au,av⟩:=GL X.box;simp at ao Q aq au av;have ax:=y' (d' (Z aM X.bel));have I:=y' X;clear X Z;go_wp2_with (go_at_call 135;refine Cm ax ?_;rintro r y ⟨rfl,J⟩;obtain⟨aN,aO,⟨c2,aa,ab,ay,t1,t2⟩,az⟩:=J;have aA:∀k,p.heap.size<=k->¬PkU b D k:=λk J h=>(by have:=(d' aK) k h;omega);have aY:=(d' I).lt;have z:=ab.blk (d' I).res (aA _ (by omega));have aB:¬PkU b c2 (p.heap.size+1):=FA aa z (by decide) (by decide) (by decide) (by decide) (by decide) (by decide) (by decide) (by decide);have aC:=(d' I).bel;have aP:=λY (aD:Far (λk=>k=p.heap.size+1) y Y)=>y' (show Xj w p Y b ep aJ D from⟨aN,aO,⟨c2,aa.far aD (λk J e=>aB (by rw[<-e];exact J)),((I' (E:=PkU b D) aC).trans ab Ih).trans aD (λk J e=>by omega),λk J=>(ay k J).imp id (λh=>z26 aC.size h),t1,t2⟩,az⟩);have aQ:y.cell? (Ea (p.heap.size+1) 0)=some (Ej 0):=Bi 0 z;have aR:y.cell? (Ea (p.heap.size+1) 1)=some (Ej 0):=Bi 1 z;have aS:y.cell? (Ea (p.heap.size+1) 2)=some (Ej 0):=Bi 2 z;have aT:y.cell? (Ea (p.heap.size+1) 3)=some (Ej 0):=Bi 3 z;have aU:y.cell? (Ea (p.heap.size+1) 4)=some (.string ⟨#[]⟩):=Bi 4 z;have aZ:=H' (i:=0) z;have ba:=H' (i:=1) z;have bb:=H' (i:=2) z;have bc:=H' (i:=3) z;have bd:=H' (i:=4) z;have be:=y' z;clear z aB;clear aa ab ay t1 t2 az ax I aA ao Q aq au av);refine z47 (v:=.tuple #[.agg zFr,Ej 4]) (by simp[results,results88,go_sem,zFr,aQ,aR,aS,aT,aU]) rfl ⟨rfl,?_⟩;have V:=λak i v=>T' ak (p.heap.size+1) i v;exact d' (aP _ (((((V _ _ _).trans (V _ _ _) Ih).trans (V _ _ _) Ih).trans (V _ _ _) Ih).trans (V _ _ _) Ih))
theorem WM (I:Jo p b x.Qa x.Qc L H D) (hs:Alv w a q H x.Qa x.Qc) (ac:a+1000 < 18446744073709551616) (O:IY x.held L) (e:Nat) (s Q:Int) (V:z10) (ad:x.Qa<=e) (aB:e<=2147483647) (ah:1<=q/\q<=hiW x e):
  Cp 87 #[C' b,.agg #[Ej 1,Ej e,Ej s,Ej Q,.string V]] p λr Y=>
   r=.returned (.tuple #[.agg zFr,Ej 4])/\Xj w p Y b x.Qa x.Qc D:=by
 have c1:p.cell? (Ea b 1)=some (Ej x.Qa):=by rw[D' I.ks.blk,I.ks.a1]
 have aC:=z12 I.ks.blk;have Z:=λy (aD:El p y)=>y' (zH (I.far (fbF aD) Ih) hs ac O e ad aB ah);clear ah hs ac;obtain⟨aE,ai⟩:=exq (x.Qc);rw[<-ai]at Z ⊢;obtain⟨ep,aj⟩:=exq (x.Qa);rw[<-aj]at c1 ad Z ⊢;have aQ:¬ (e:Int) < (ep:Int):=by omega
 have aF:=y' I.lt;have ak:=y' (LZ p #[Ej 1,Ej e,Ej s,Ej Q,.string V] zFr);clear I aj ai;unfold C' at *;go_enter func87,ntmps87;go_upto_region 1 with fail;refine G' (Vw p #[Ej 1,Ej e,Ej s,Ej Q,.string V] zFr) (d' ak) ?_;clear ak;intro ao X;have J:=Bi 1 X.box;simp at J;have aG:=Bc X.bel aC c1;have F:=y' X;clear X;go_quiet (fail);go_upto_region 3 with fail;refine G' (Vw p #[Ej 1,Ej e,Ej s,Ej Q,.string V] zFr) ((d' F).drewN _) ?_;clear F J aG;intro aH X;have J:=Bi 1 X.box;simp at J;have aq:=y' (d' (Z aH X.bel));have F:=y' X;clear X Z;go_wp2_with (go_at_call 132;refine Cm aq ?_;rintro r y ⟨rfl,G⟩;obtain⟨aI,aJ,⟨c2,aa,ab,au,t1,t2⟩,av⟩:=G;have ax:∀k,p.heap.size<=k->¬PkU b D k:=λk G h=>(by have:=(d' aF) k h;omega);have aR:=(d' F).lt;have z:=ab.blk (d' F).res (ax _ (by omega));have ay:¬PkU b c2 (p.heap.size+1):=FA aa z (by decide) (by decide) (by decide) (by decide) (by decide) (by decide) (by decide) (by decide);have az:=(d' F).bel;have aK:=λY (aA:Far (λk=>k=p.heap.size+1) y Y)=>y' (show Xj w p Y b ep aE D from⟨aI,aJ,⟨c2,aa.far aA (λk G e=>ay (by rw[<-e];exact G)),((I' (E:=PkU b D) az).trans ab Ih).trans aA (λk G e=>by omega),λk G=>(au k G).imp id (λh=>z26 az.size h),t1,t2⟩,av⟩);have aL:y.cell? (Ea (p.heap.size+1) 0)=some (Ej 0):=Bi 0 z;have aM:y.cell? (Ea (p.heap.size+1) 1)=some (Ej 0):=Bi 1 z;have aN:y.cell? (Ea (p.heap.size+1) 2)=some (Ej 0):=Bi 2 z;have aO:y.cell? (Ea (p.heap.size+1) 3)=some (Ej 0):=Bi 3 z;have aP:y.cell? (Ea (p.heap.size+1) 4)=some (.string ⟨#[]⟩):=Bi 4 z;have aS:=H' (i:=0) z;have aT:=H' (i:=1) z;have aU:=H' (i:=2) z;have aV:=H' (i:=3) z;have aW:=H' (i:=4) z;have aX:=y' z;clear z ay;clear aa ab au t1 t2 av aq F ax J);refine z47 (v:=.tuple #[.agg zFr,Ej 4]) (by simp[results,results87,go_sem,zFr,aL,aM,aN,aO,aP]) rfl ⟨rfl,?_⟩;have M:=λao i v=>T' ao (p.heap.size+1) i v;exact d' (aK _ (((((M _ _ _).trans (M _ _ _) Ih).trans (M _ _ _) Ih).trans (M _ _ _) Ih).trans (M _ _ _) Ih))
theorem JR {F:Nat} {w:World} {p:Nat} {R:World->World->Prop} (hF:F=87\/F=88) (ay:∀ {u v z:World},R v z->El u v->R u z) (Z k e s q:Int) (b:z10) (G H I J:Int) (M:z10) (ai:Qb.proper G H I J M=true)
  (aj:∀y,El w y->Cp F #[C' p,.agg #[Ej k,Ej e,Ej s,Ej q,.string b]] y λr z=>Rr r (.tuple #[.agg #[Ej G,Ej H,Ej I,Ej J,.string M],Ej 0])/\R y z):
  Cp 70 #[.agg #[Ej Z,.func (.func F) #[C' p] #[]],.agg #[Ej k,Ej e,Ej s,Ej q,.string b]] w λr z=>
   ∃lv az x,r=.returned (.tuple #[lv,Ej 0])/\R w x/\El x z/\Qj x.heap.size z lv az [⟨(Qb.bytes G H I J M.data.toList).toArray⟩] (λ_=>False):=by
 have aA:=λy=>y' (JY G H I J M y ai);have ak:=λy aB=>y' (aj y aB);have ao:=y' (FD w (.cells #[Ej Z,.func (.func F) #[C' p] #[]] 130) (.cells #[Ej k,Ej e,Ej s,Ej q,.string b] 63));clear aj ai;unfold C' at *;go_enter func70,ntmps70;go_upto_region 1 with fail;refine G' (λx=>Eh x w.heap.size #[Ej Z,.func (.func F) #[Er p 0] #[]] 130/\Eh x (w.heap.size+1) #[Ej k,Ej e,Ej s,Ej q,.string b] 63/\El w x) (d' ao) ?_;clear ao;rintro x ⟨h0,h1,hb⟩;have aq:=Bi 1 h0;obtain⟨z0,Q,V,z3,z4⟩:=GL h1;simp at aq z0 Q V z3 z4;have aa:=y' (d' (ak x hb));have aC:=y' hb;clear h0 h1 hb ak;rcases hF with rfl|rfl;all_goals
  go_upto_region 2 with (first|(go_at_call 87;refine Cm aa ?_;rintro r y ⟨rfl,ab⟩)|(go_at_call 88;refine Cm aa ?_;rintro r y ⟨rfl,ab⟩))
  obtain⟨aD,ac⟩:=exq (y.heap.size);have aE:=y' ac;rw[<-ac];have aF:=y' (ay ab (d' aC));clear ab ac;refine G' (λu=>Eh u aD #[Ej G,Ej H,Ej I,Ej J,.string M] 63/\El y u) ?_ ?_;rw[d' aE];exact⟨z19 _ _,bna⟩;clear aq z0 Q V z3 z4 aa;rintro u ⟨au,av⟩;obtain⟨z0,Q,V,z3,z4⟩:=GL au;simp at z0 Q V z3 z4;have ax:=y' av;clear au av;go_wp2_with (go_at_call 67;refine Cm (aA _) ?_;rintro r v ⟨aJ,rfl,Y,ad⟩;obtain⟨aK,cap,rfl,_⟩:=Y.shape;replace Y:=y' Y;replace ad:=y' ad);go_ret2;have aG:=(d' ad);have aH:=d' Y;have aI:=(d' ax).size;have ah:El y v:=(d' ax).trans (aG.mono aI);refine⟨_,_,y,rfl,d' aF,ah.alloc ah.size _,PD (z52 (aH.mono (by omega)) _) ah.size (z19 _ _)⟩
theorem PH {F:Nat} {w:World} {p:Nat} {R:World->World->Prop} (hF:F=87\/F=88) (J:∀ {u v z:World},R v z->El u v->R u z) (H k e s q:Int) (b:z10)
  (M:∀y,El w y->Cp F #[C' p,.agg #[Ej k,Ej e,Ej s,Ej q,.string b]] y λr z=>Rr r (.tuple #[.agg zFr,Ej 4])/\R y z):
  Cp 70 #[.agg #[Ej H,.func (.func F) #[C' p] #[]],.agg #[Ej k,Ej e,Ej s,Ej q,.string b]] w λr z=>
   ∃lv aa x,r=.returned (.tuple #[lv,Ej 4])/\R w x/\El x z/\Qj x.heap.size z lv aa [] (λ_=>False):=by
 have I:=λy ab=>y' (M y ab);have Q:=y' (FD w (.cells #[Ej H,.func (.func F) #[C' p] #[]] 130) (.cells #[Ej k,Ej e,Ej s,Ej q,.string b] 63));clear M;unfold zFr at I;unfold C' at *;go_enter func70,ntmps70;go_upto_region 1 with fail;refine G' (λx=>Eh x w.heap.size #[Ej H,.func (.func F) #[Er p 0] #[]] 130/\Eh x (w.heap.size+1) #[Ej k,Ej e,Ej s,Ej q,.string b] 63/\El w x) (d' Q) ?_;clear Q;rintro x ⟨h0,h1,hb⟩;have ac:=Bi 1 h0;obtain⟨z0,ad,ah,z3,z4⟩:=GL h1;simp at ac z0 ad ah z3 z4;have V:=y' (d' (I x hb));have Y:=y' hb;clear h0 h1 hb I;rcases hF with rfl|rfl;all_goals
  go_wp2_with (first|(go_at_call 87;refine Cm V ?_;rintro r y ⟨rfl,G⟩;have Z:=y' (J G (d' Y));clear G)|(go_at_call 88;refine Cm V ?_;rintro r y ⟨rfl,G⟩;have Z:=y' (J G (d' Y));clear G))
  go_ret2
  exact⟨_,_,y,rfl,d' Z,bna,EU _ _⟩
def DlR (R:World->World->Prop) (w z:World) (F:Int) (r:Ending) (G:List z10):Prop:=
 ∃lv H x,r=.returned (.tuple #[lv,Ej F])/\R w x/\El x z/\Qj x.heap.size z lv H G (λ_=>False)
theorem EE {R:World->World->Prop} (G:Jo p w x.Qa x.Qc L H D) (hs:H.dk.dead=false) (bs:Value) (az:∀ {u v z:World},R v z->El u v->R u z) (k e s q:Int) (b:z10)
  (aA:∀y,El p y->Cp 69 #[bs] y λr z=>Rr r (.tuple #[.agg #[Ej k,Ej e,Ej s,Ej q,.string b],Ej 0])/\El y z)
  (aB:k=1->∀y,El p y->Cp 70 #[.agg #[Ej 1,.func (.func 87) #[C' w] #[]],.agg #[Ej k,Ej e,Ej s,Ej q,.string b]] y λr z=>DlR R y z o r S)
  (aC:k=3->∀y,El p y->Cp 70 #[.agg #[Ej 3,.func (.func 88) #[C' w] #[]],.agg #[Ej k,Ej e,Ej s,Ej q,.string b]] y λr z=>DlR R y z o r S)
  (aD:k≠1->k≠3->o=0/\S=[]/\R p p):
  Cp 44 #[C' w,bs] p λr z=>DlR R p z o r S:=by
 have c0:p.cell? (Ea w 0)=some (C' D.s):=by rw[D' G.ks.blk,G.ks.a0]
 have ah:=AN G.stt;rw[hs]at ah;have aE:=y' ah;have aF:=y' (aA p (z11 _ _));have Z:=λh y ai=>y' (aB h y ai);have aa:=λh y ai=>y' (aC h y ai);have ab:=y' aD;obtain⟨I,cap,aG,bb,bc,aH⟩:=G.rl.shape;obtain⟨g,Q,rfl,V⟩:=aH (by omega);have r0:p.cell? (Ea g Q)=some (Ej 1):=by have:=V 0 (by omega);simpa[FJ]using this
 have aI:p.cell? (Ea g (Q+1))=some (.func (.func 87) #[C' w] #[]):=by have:=V 1 (by omega);simpa[FJ]using this
 have aJ:p.cell? (Ea g (Q+2))=some (Ej 3):=by have:=V 2 (by omega);simpa[FJ]using this
 have aK:p.cell? (Ea g (Q+2+1))=some (.func (.func 88) #[C' w] #[]):=by have:=V 3 (by omega);simpa[FJ]using this
 have aR:p.cell? (Ea w 11)=some (Es g Q 2 cap):=by rw[D' G.ks.blk,G.ks.ar,aG]
 have ac:g < p.heap.size:=z69 _ _ r0;have aS:=z12 G.ks.blk;clear G ah aA V aH aG hs aB aC aD;unfold C' at *;go_enter func44,ntmps44;go_upto_region 4 with (first|(go_at_call 66;refine Cm aE ?_;rintro r y ⟨rfl,aT⟩;obtain rfl:p=y:=aT.symm)|(go_at_call 69;refine Cm aF ?_;rintro r y ⟨rfl,hb⟩));obtain⟨ad,aj⟩:=exq (y.heap.size);have bd:p.heap.size<=ad:=by have:=hb.size;omega
 have aL:=y' aj;have ak:=y' hb;rw[<-aj];clear aj hb;refine G' (λu=>Eh u ad #[Ej k,Ej e,Ej s,Ej q,.string b] 63/\El p u) ?_ ?_;rw[d' aL];exact⟨z19 _ _,(d' ak).alloc (d' ak).size _⟩;clear aL ak c0 aF aE;rintro u ⟨J,ao⟩;have d11:=Bc ao aS aR;have aM:=y' J;have aN:=y' ao;clear J ao;go_wp2;go_loopw[9,28] (λ_ i wr=>∃j:Nat,(j=0\/j=1/\k≠1\/j=2/\k≠1/\k≠3)/\i=.int .i64 j/\wr.heap[ad]? =some (.cells #[.int .i64 k,.int .i64 e,.int .i64 s,.int .i64 q,.string b] 63 (0,0))/\Below p.heap.size p wr) (λ_ i _=>3 - (intOf i).toNat)
 case atStart=>exact⟨0,by omega,rfl,d' aM,d' aN⟩
 case round=>
  obtain⟨j,hj,rfl,J,hb⟩:=hrel;clear aM aN d11;have s0:=Bc hb ac r0;have s1:=Bc hb ac aI;have be:=Bc hb ac aJ;have s3:=Bc hb ac aK;obtain⟨aU,aV,aW,aX,aY⟩:=GL J;simp at aU aV aW aX aY;have aZ:=z12 J;have bf:=y' J;have Y:=y' hb;have aO:∀aq,(wr.alloc aq).heap[ad]? =some (.cells #[Ej k,Ej e,Ej s,Ej q,.string b] 63 (0,0))/\El p (wr.alloc aq):=λaq=>⟨(hao _ _ aZ).trans J,hb.alloc hb.size _⟩;have M:=y' aO;clear J hb aO r0 aI aJ aK;have bg:∀ (I:Addr) (m:Mode) (z:World),(store I (.func (.func 87) #[Er w 0] #[]) m).run prog z=stored prog z I (.func (.func 87) #[Er w 0] #[]) m:=λI m z=>run_store _ _ _ _ _ rfl;have bh:∀ (I:Addr) (m:Mode) (z:World),(store I (.func (.func 88) #[Er w 0] #[]) m).run prog z=stored prog z I (.func (.func 88) #[Er w 0] #[]) m:=λI m z=>run_store _ _ _ _ _ rfl;rcases hj with rfl|⟨rfl,n1⟩|⟨rfl,n1,aP⟩
  .by_cases F:k=1
   .have au:((1:Int) ==k)=true:=(by simp[F]);have av:=Z F;clear F Z aa ab;go_wp2_with (go_at_call 70;refine(d' (av _ (by first|exact((d' M) _).2|exact(d' Y)))).mono ?_;rintro r z ⟨lv,ax,ay,rfl,k1,k2,k3⟩;replace k1:=y' k1;replace k2:=y' k2;replace k3:=y' k3);go_ret2;exact⟨lv,ax,ay,rfl,az (d' k1) (by first|exact((d' M) _).2|exact(d' Y)),d' k2,d' k3⟩
   have au:((1:Int) ==k)=false:=(by simp;omega);go_wp2;exact⟨⟨1,by simp[F],by go_num,(d' M) _⟩,by simp[intOf]⟩
  .by_cases F:k=3
   .have au:((3:Int) ==k)=true:=(by simp[F]);have av:=aa F;clear F Z aa ab n1;go_wp2_with (go_at_call 70;refine(d' (av _ (by first|exact((d' M) _).2|exact(d' Y)))).mono ?_;rintro r z ⟨lv,ax,ay,rfl,k1,k2,k3⟩;replace k1:=y' k1;replace k2:=y' k2;replace k3:=y' k3);go_ret2;exact⟨lv,ax,ay,rfl,az (d' k1) (by first|exact((d' M) _).2|exact(d' Y)),d' k2,d' k3⟩
   have au:((3:Int) ==k)=false:=(by simp;omega);go_wp2;exact⟨⟨2,by simp[n1,F],by go_num,(d' M) _⟩,by simp[intOf]⟩
  obtain⟨rfl,rfl,aQ⟩:=(d' ab) n1 aP;have ba:=y' aQ;clear Z aa ab n1 aP aQ;go_wp2;go_ret2;exact⟨_,_,p,rfl,d' ba,d' Y,EU _ _⟩
def rC (a:Mq.Sk) (k e:Int) (s q:Nat) (b:z10):Nat:=
 if k=1 then(if e < a.Qa then 0 else hiW a e.toNat)else if k=3 then(if e=a.Qa then(a.Qg 3 a.Qa s q b).length else 0)else 0
def skW (a:Mq.Sk) (l:List UInt8):Nat:=if Qb.reads l=true then rC a (Jk l) (Jf l) (Qs l).toNat (Xh l).toNat (Jp l)else 0
def lU (a:Mq.Sk) (k:Int) (s q:Nat) (b:z10) (n:Nat):Nat->List z10:=if k=3 then(grown a s ((a.Qg 3 a.Qa s q b).take (n - 1))).Qc else a.Qc
def OK (a:Mq.Sk) (l:List UInt8) (n:Nat):Nat->List z10:=lU a (Jk l) (Qs l).toNat (Xh l).toNat (Jp l) n
theorem SN {a:Mq.Sk} {l:List UInt8} (z:Qb.reads l=true) {k:Int} {e s q:Nat} {b:z10} (h1:Jk l=k) (h2:Jf l=e) (h3:Qs l=s) (h4:Xh l=q) (h5:Jp l=b):
  skW a l=rC a k e s q b/\∀n,OK a l n=lU a k s q b n:=by
 unfold skW OK;rw[z,h1,h2,h3,h4,h5];exact⟨rfl,λ_=>rfl⟩
theorem uP (z:Qb.reads r=false):skW x r=0:=by
 unfold skW;rw[z];rfl
theorem Ms (z:Qb.reads r=false) (hn:1<=w/\w<=skW x r):False:=by
 rw[uP z]at hn;omega
theorem eA (M:Jo p b x.Qa x.Qc L H D) (hs:Alv w a q H x.Qa x.Qc) (ai:a+1000 < 18446744073709551616) (aj:Jd x) (ax:CZ x) (O:IY x.held L) (bs:Value) (l:List UInt8) (ak:Qk p bs l) (hn:q=0\/skW x l < q):
  Cp 44 #[C' b,bs] p λr G=>DlR (λu I=>Xs w (a+skW x l) (q - skW x l) u I b (BN x l).2.1 D) p G (BN x l).1 r (BN x l).2.2:=by
 cases Y:Qb.reads l;rw[iO Y,uP Y];refine(UH M hs.dead bs l ak Y).mono ?_;rintro r G ⟨rfl,hb⟩;exact⟨_,[],p,rfl,IE M hs O,hb,EU _ _⟩;obtain⟨k,e,s,z,F,h1,h2,h3,h4,h5,g1,g2,ay,az⟩:=LB Y;rw[ZD Y h1 h2 h3 h4 h5];rw[(SN Y h1 h2 h3 h4 h5).1]at hn ⊢;have aa:∀y,El p y->Cp 69 #[bs] y λr G=>Rr r (.tuple #[.agg #[Ej k,Ej e,Ej s,Ej z,.string F],Ej 0])/\El y G:=λy J=>by have:=GS bs l y (ak.below J);rw[Y]at this;simp only[if_true,LR,h1,h2,h3,h4,h5]at this;exact this
 have ab:=λy (J:El p y)=>M.far (fbF J) Ih;have n0:=M.ks.Ve (i:=0) (by omega);have n1:=M.ks.Ve (i:=1) (by omega);have n2:=M.ks.Ve (i:=2) (by omega);have aA:=M.ks.ep;have Q:∀ {ao aq:Nat} {a2:Mq.Sk} {u v G:World},Xs w ao aq v G b a2 D->El u v->Xs w ao aq u G b a2 D:=λh hb=>Xs.behind h hb;unfold CK;unfold rC at hn ⊢;by_cases k1:k=1;simp only[if_pos k1]at hn ⊢;by_cases au:(e:Int) < x.Qa;simp only[if_pos au]at hn ⊢;refine EE (R:=(λu I=>Xs w (a+0) (q - 0) u I b x D)) M hs.dead bs (λh hb=>Q h hb) k e s z F aa (λ_ y J=>?_) (λh=>by omega) (λh=>absurd k1 h);subst k1;refine JR (w:=y) (R:=(λu I=>Xs w (a+0) (q - 0) u I b x D)) (.inl rfl) (λh hb=>Q h hb) 1 1 e s z F 5 x.Qa 0 0 ⟨#[]⟩ (SD _ aA) (λG Z=>?_);have V:El p G:=J.trans (Z.mono J.size);refine(WI (ab G V) e s z F (by omega)).mono ?_;rintro r u ⟨rfl,hb⟩;exact⟨rfl,(IE (ab G V) hs O).below hb⟩;simp only[if_neg au]at hn ⊢;have ac:(e:Int).toNat=e:=by omega
 rw[ac]at hn ⊢;refine EE (R:=(λu I=>Xs w (a+hiW x e) (q - hiW x e) u I b (CE x e) D)) M hs.dead bs (λh hb=>Q h hb) k e s z F aa (λ_ y J=>?_) (λh=>by omega) (λh=>absurd k1 h);subst k1;refine JR (w:=y) (R:=(λu I=>Xs w (a+hiW x e) (q - hiW x e) u I b (CE x e) D)) (.inl rfl) (λh hb=>Q h hb) 1 1 e s z F 2 e 0 0 (Aw x) (XT g1 n0 n1 n2) (λG Z=>?_);have V:El p G:=J.trans (Z.mono J.size);exact ZY (ab G V) hs ai O e s z F (by omega) g1 hn;simp only[if_neg k1]at hn ⊢;by_cases k3:k=3;simp only[if_pos k3]at hn ⊢;by_cases ad:(e:Int)=x.Qa;simp only[if_pos ad]at hn ⊢;have aC:e=x.Qa:=by omega
 subst k3;rw[ad]at aa ⊢;refine EE (R:=(λu I=>Xs w (a+(x.Qg 3 x.Qa s z F).length) (q - (x.Qg 3 x.Qa s z F).length) u I b (BC x 3 x.Qa s z F) D)) M hs.dead bs (λh hb=>Q h hb) 3 x.Qa s z F aa (λh=>by omega) (λ_ y J=>?_) (λ_ h=>absurd rfl h);have ah:=RB aj 3 x.Qa s z F g2 (by omega);refine JR (w:=y) (R:=(λu I=>Xs w (a+(x.Qg 3 x.Qa s z F).length) (q - (x.Qg 3 x.Qa s z F).length) u I b (BC x 3 x.Qa s z F) D)) (.inr rfl) (λh hb=>Q h hb) 3 3 x.Qa s z F 4 x.Qa s _ _ ?_ (λG Z=>?_);have aB:(BC x 3 x.Qa s z F).Qa=x.Qa:=by unfold BC;split;exact MJ _ _ _ _;rfl
 have av:Jd (BC x 3 x.Qa s z F):=by unfold CK at ah;rw[if_neg (by omega),if_pos rfl,if_pos rfl]at ah;exact ah
 have aD:=OO (a:=BC x 3 x.Qa s z F) g2;have aE:=av.room;have:=XO (a:=BC x 3 x.Qa s z F) (s:=s) (up:=((BC x 3 x.Qa s z F).Qc s).length) av.ep g2 (by omega);rw[aB]at this;exact this;have V:El p G:=J.trans (Z.mono J.size);exact gJ (ab G V) hs ai aj ax O s z g2 ay F az hn;simp only[if_neg ad]at hn ⊢;have ac:max (e:Int).toNat x.Qa=max e x.Qa:=rfl;rw[ac];subst k3;refine EE (R:=(λu I=>Xs w (a+0) (q - 0) u I b x D)) M hs.dead bs (λh hb=>Q h hb) 3 e s z F aa (λh=>by omega) (λ_ y J=>?_) (λ_ h=>absurd rfl h);refine JR (w:=y) (R:=(λu I=>Xs w (a+0) (q - 0) u I b x D)) (.inr rfl) (λh hb=>Q h hb) 3 3 e s z F 5 (max e x.Qa:Nat) 0 0 ⟨#[]⟩ (SD _ (by omega)) (λG Z=>?_);have V:El p G:=J.trans (Z.mono J.size);refine(TZ (ab G V) e s z F (by omega)).mono ?_;rintro r u ⟨rfl,hb⟩;exact⟨rfl,(IE (ab G V) hs O).below hb⟩;simp only[if_neg k3]at hn ⊢;exact EE (R:=λu I=>Xs w (a+0) (q - 0) u I b x D) M hs.dead bs (λh hb=>Q h hb) k e s z F aa (λh=>absurd h k1) (λh=>absurd h k3) (λ_ _=>⟨rfl,rfl,IE M hs O⟩)
theorem WN (V:Jo p b x.Qa x.Qc L H D) (hs:Alv w a q H x.Qa x.Qc) (ac:a+1000 < 18446744073709551616) (ak:Jd x) (ao:CZ x) (O:IY x.held L) (bs:Value) (l:List UInt8) (aq:Qk p bs l) (hn:1<=q/\q<=skW x l):
  Cp 44 #[C' b,bs] p λr z=>DlR (λu F=>Xj w u F b x.Qa (OK x l q) D) p z 4 r []:=by
 cases M:Qb.reads l;exact(Ms M hn).elim;obtain⟨k,e,s,G,I,h1,h2,h3,h4,h5,g1,g2,au,av⟩:=LB M;rw[(SN M h1 h2 h3 h4 h5).1]at hn;rw[(SN M h1 h2 h3 h4 h5).2];have Y:∀y,El p y->Cp 69 #[bs] y λr z=>Rr r (.tuple #[.agg #[Ej k,Ej e,Ej s,Ej G,.string I],Ej 0])/\El y z:=λy J=>by have:=GS bs l y (aq.below J);rw[M]at this;simp only[if_true,LR,h1,h2,h3,h4,h5]at this;exact this
 have ad:=λy (J:El p y)=>V.far (fbF J) Ih;have Q:∀ {ah:Nat} {ai:Nat->List z10} {u v z:World},Xj w v z b ah ai D->El u v->Xj w u z b ah ai D:=λh hb=>Xj.behind h hb;unfold lU;unfold rC at hn;by_cases k1:k=1;rw[if_neg (by omega)];rw[if_pos k1]at hn;by_cases aj:(e:Int) < x.Qa;rw[if_pos aj]at hn;omega;rw[if_neg aj]at hn;have ax:(e:Int).toNat=e:=by omega
 rw[ax]at hn;refine EE (R:=(λu F=>Xj w u F b x.Qa x.Qc D)) V hs.dead bs (λh hb=>Q h hb) k e s G I Y (λ_ y J=>?_) (λh=>by omega) (λh=>absurd k1 h);subst k1;refine PH (w:=y) (R:=(λu F=>Xj w u F b x.Qa x.Qc D)) (.inl rfl) (λh hb=>Q h hb) 1 1 e s G I (λz Z=>?_);have aa:El p z:=J.trans (Z.mono J.size);exact WM (ad z aa) hs ac O e s G I (by omega) g1 hn;rw[if_neg k1]at hn;by_cases k3:k=3;rw[if_pos k3]at hn ⊢;by_cases ab:(e:Int)=x.Qa;rw[if_pos ab]at hn;subst k3;rw[ab]at Y;refine EE (R:=(λu F=>Xj w u F b x.Qa (grown x s ((x.Qg 3 x.Qa s G I).take (q - 1))).Qc D)) V hs.dead bs (λh hb=>Q h hb) 3 x.Qa s G I Y (λh=>by omega) (λ_ y J=>?_) (λ_ h=>absurd rfl h);refine PH (w:=y) (R:=(λu F=>Xj w u F b x.Qa (grown x s ((x.Qg 3 x.Qa s G I).take (q - 1))).Qc D)) (.inr rfl) (λh hb=>Q h hb) 3 3 x.Qa s G I (λz Z=>?_);have aa:El p z:=J.trans (Z.mono J.size);exact ZZ (ad z aa) hs ac ak ao O s G g2 au I av hn;rw[if_neg ab]at hn;omega;rw[if_neg k3]at hn;omega
theorem lV (z:Jo p w a F L H D) (hs:H.dk.dead=false) (i:Int):
  Cp 46 #[C' w,Ej i] p λr w'=>
   ∃lv,r=.returned lv/\w'.ownsRow p.heap.size 9 1 lv (if 0<=i/\i < 3 then F i.toNat else []).length (AF (if 0<=i/\i < 3 then F i.toNat else []))/\El p w':=by
 have c0:p.cell? (Ea w 0)=some (C' D.s):=by rw[D' z.ks.blk,z.ks.a0]
 have J:=AN z.stt;rw[hs]at J;have ah:=y' J;by_cases h:0<=i/\i < 3
 .rw[if_pos h];obtain⟨n,rfl⟩:=z62 h.1;obtain⟨h0,h3⟩:=h;have M:n < 3:=by omega
  obtain⟨ak,cap,aa,ai⟩:=z.ks.logc M;have Q:=z.ks.lgs n M;rw[aa]at Q;have ab:=y' (fW Q (by have:=z.ks.Ve M;omega));have hst:Qb.isStr (n:Int)=true:=by simp[Qb.isStr];omega
  have G:=CD (n:Int) p;rw[hst]at G;have V:=y' G;have ac:((n:Int)).toNat=n:=by omega
  rw[ac];obtain⟨m,Y⟩:=exq ((F n).length);obtain⟨xs,ad⟩:=exq (AF (F n));rw[<-Y,<-ad]at ab ⊢;rw[<-Y]at ai;clear z J Q aa G hst ac Y ad;unfold C' at *;go_enter func46,ntmps46;go_wp2_with (first|(go_at_call 71;refine Cm V ?_;rintro r y ⟨rfl,I⟩;obtain rfl:p=y:=I.symm)|(go_at_call 66;refine Cm ah ?_;rintro r y ⟨rfl,I⟩;obtain rfl:p=y:=I.symm)|(go_at_call 72;refine Cm ab ?_;rintro r y ⟨v',rfl,Z,hb⟩;replace Z:=y' Z;replace hb:=y' hb));go_ret;exact⟨v',rfl,d' Z,d' hb⟩
 rw[if_neg h];have hst:Qb.isStr i=false:=by cases aj:Qb.isStr i;rfl;simp[Qb.isStr]at aj;omega
 have G:=CD i p;rw[hst]at G;have V:=y' G;clear z J G hst h;unfold C' at *;go_enter func46,ntmps46;go_wp2_with (go_at_call 71;refine Cm V ?_;rintro r y ⟨rfl,I⟩;obtain rfl:p=y:=I.symm);go_ret;exact⟨_,rfl,z20 _ _ _ _,z11 _ _⟩
theorem lW (G:Jo p w a F L H D) (hs:H.dk.dead=true) (i:Int):
  Cp 46 #[C' w,Ej i] p λr w'=>Rr r En/\w'=p:=by
 have c0:p.cell? (Ea w 0)=some (C' D.s):=by rw[D' G.ks.blk,G.ks.a0]
 have J:=AN G.stt;rw[hs]at J;have Q:=y' J;have z:=CD i p;cases hst:Qb.isStr i with
 |true=>rw[hst]at z;have M:=y' z;clear G J z hst;unfold C' at *;go_enter func46,ntmps46;go_wp2_with (first|(go_at_call 71;refine Cm M ?_;rintro r y ⟨rfl,I⟩;obtain rfl:p=y:=I.symm)|(go_at_call 66;refine Cm Q ?_;rintro r y ⟨rfl,I⟩;obtain rfl:p=y:=I.symm));go_ret;exact⟨rfl,rfl⟩
 |false=>rw[hst]at z;have M:=y' z;clear G J z hst;unfold C' at *;go_enter func46,ntmps46;go_wp2_with (go_at_call 71;refine Cm M ?_;rintro r y ⟨rfl,I⟩;obtain rfl:p=y:=I.symm);go_ret;exact⟨rfl,rfl⟩
theorem UL (z:Jo p w a F L H D) (hs:H.dk.dead=true) (bs:Value):
  Cp 44 #[C' w,bs] p λr w'=>Rr r (.tuple #[En,Ej 3])/\w'=p:=by
 have c0:p.cell? (Ea w 0)=some (C' D.s):=by rw[D' z.ks.blk,z.ks.a0]
 have G:=AN z.stt;rw[hs]at G;have I:=y' G;clear z G;unfold C' at *;go_enter func44,ntmps44;go_wp2_with (go_at_call 66;refine Cm I ?_;rintro r y ⟨rfl,J⟩;obtain rfl:p=y:=J.symm);go_ret2;exact⟨rfl,rfl⟩
theorem rD (z:Jo p w a F L H D) (n:Int) (hn:n<=9223372036854775807):
  Cp 42 #[C' w,Ej n] p λr w'=>Rr r (.tuple #[])/\Jo w' w a F L {H with dk:={H.dk with Xr:=n.toNat}} D/\Far (λk=>k=D.dp) p w':=by
 have c0:p.cell? (Ea w 0)=some (C' D.s):=by rw[D' z.ks.blk,z.ks.a0]
 have G:=y' (SI z.stt n hn);have I:=y' z;clear z;unfold C' at *;go_enter func42,ntmps42;go_wp2_with (go_at_call 65;refine Cm G ?_;rintro r y ⟨rfl,k1,k2⟩;replace k1:=y' k1;replace k2:=y' k2);have z:=d' I;exact z74 (z64 rfl _ _ _) rfl ⟨rfl,⟨z.ks.far (d' k2) (λk J a=>z.sep k J (by rw[a];exact .inr (.inl rfl))),d' k1,z.rl.far (d' k2) (λg M a=>(z.sepr g M).2 (by rw[a];exact .inr (.inl rfl))),z.len⟩,d' k2⟩
