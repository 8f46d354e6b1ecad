/- Part 13. -/
import Derived.Test.YtamafdcnbcoegaaGreatOj12
set_option maxRecDepth 100000
set_option maxHeartbeats 40000000
namespace Go.Proofs.YtamafdcnbcoegaaGreat
attribute [local simp, local go_sem] Ev Ep Ei Eb Et
open Go.RowKit Go.Proofs.Tryz
variable{F:Mq.Hd}{w:Nat}{aA:List Mq.Rc}
theorem mV' (J:World) (v:Value) (L:List UInt8) (aV:Qn J v L) (Q:L.length=7808) (aE:Mq.openSt L=some (F,w,aA)):
  Calls prog 65 #[v] J fun r w'=>(¬ (F.b=0/\F.d=0)\/Mq.skLd aA 0 (fun _=>[])=none)/\r= .returned (.tuple #[.pointer none, .int .i64 2])/\Below J.heap.size J w'\/
   F.b=0/\F.d=0/\∃Qc p c,Mq.skLd aA 0 (fun _=>[])=some Qc/\r= .returned (.tuple #[D' p, .int .i64 0])/\Jt w' p F.a Qc (fun _=>[]) (cO' L F w) c/\Below J.heap.size J w'/\∀k,PkU p c k->J.heap.size<=k:=by
 have ah:=gE' J v L 122 aV (by omega) (by omega) (by omega) aE;rw[nF']at ah;obtain⟨aF,aG⟩:=Mq.Vg aE;have aW:=tP' aG;have aX:aA.length=120:=by have:=(Mq.Xk _ _ aG).1;rw[this,Q]
 obtain⟨_,aY,aZ,_⟩:=Mq.Vs aF;have ba:=Mq.Vo aY;rw[<-aZ]at ba;have bb:(cO' L F w).dk.bytes.length=7808:=by have:=(Mq.Yr aF (m:=122) (by omega) (by omega)).len;exact this
 obtain⟨bO,cap,rfl,br,bt,_⟩:=aV;obtain⟨n,hn⟩:=exq (L.length);rw[<-hn]at Q br bt ah ⊢;subst Q;generalize cO' L F w=st at *;obtain⟨ep,aH⟩:=exq (F.a);obtain⟨V,aI⟩:=exq (F.b);obtain⟨nd,aJ⟩:=exq (F.d);rw[<-aH,<-aI,<-aJ]at ah;rw[<-aH,<-aI,<-aJ];have bc:ep<=2147483647:=by omega
 have bu:=m' ah;have ao:=m' (z12 aW (z12 aX (z12 bb bc)));have ap:=fun y=>m' (gB' ep y);clear hn aE aF aG aY aZ ba ah aW aX bb aH aI aJ bc;obtain⟨res,aq⟩:=exq (Mq.skLd aA 0 (fun _=>[]));rw[<-aq];unfold D' at *;go_enter func65,ntmps65;go_upto_region 7 with (go_at_call 102;refine(d' bu).mono ?_;rintro r y ⟨s,dp,lv,bw,rv,rfl,bd,be,ai,hb⟩;obtain⟨bP,au,rfl,_,_,bf⟩:=(Qi.Qv (ak' ai (z54 _))).shape);obtain⟨av,bz,rfl,_⟩:=bf (by omega);have bA:bz=0:=by
  rcases ai with ⟨_,⟨F,_⟩|⟨g',bQ,bR,F,_⟩⟩
  ·cases F
  ·injection F with F;injection F with F;injection F
 subst bA;clear bf;obtain⟨z,aK⟩:=exq (y.heap.size);have ax:=m' aK;rw[<-aK];have bB:J.heap.size<=z:=by have:=hb.size;omega
 clear aK;refine G' (fun x=>x.heap[z]? =some (.cells #[.int .i64 ep, .int .i64 V, .int .i64 nd, .slice (some ⟨av,0,none⟩) 120 au] 187 (0,0))/\x.heap[z+1]? =some (.cells (eD' s ep (.slice none 0 0)) 176 (0,0))/\Below z y x) ?_ ?_
 ·rw[d' ax];exact cL' _ _ _
 rintro x ⟨h5,ay,az⟩;have aL:=z14 ay;have aM:=aC' (ak' ai (z54 _)) (fun g ac=>by have:=(z15 ai g ac).2;exact az.block g (by rw[d' ax];exact this));have bS:(Value.slice (some ⟨av,0,none⟩) 120 au).ownBlock≠some (z+1):=fun e=>(Qi.Qv aM).ne ay (by decide) e;have aN:=m' (bd.far (C' (E:=fun _=>False) (by rw[<-d' ax];exact az)) (fun _ _ F=>F));have bC:=m' be;have aB:=m' (hb.trans (az.mono bB));have bg:=m' h5;have aj:=m' ay;have aO:=m' aM;clear bd be ai aM hb az h5 ay ax;have bh:¬StU s dp lv bw (z+1):=by
  rintro(F|F)
  ·have h1:=(d' aN).blk;rw[<-F,d' aj]at h1;injection h1 with h1;injection h1 with _ h1 _;exact absurd h1 (by decide)
  ·exact ey' (d' aN).dk (d' aj) (by decide) (by decide) (by decide) F
 by_cases aa:V=0/\nd=0
 ·have bD:∀H:World,(Op.equalIn 10000 136 (.agg #[.int .i64 ep, .int .i64 V, .int .i64 nd]) (.agg #[.int .i64 ep, .int .i64 0, .int .i64 0])).run prog H= .ok true H:=fun H=>by rw[kj'];simp[aa.1,aa.2]
  have ak:=m' aa;clear aa;have aC:=fun(H:World) (h1:H.heap[z+1]? = _) (h2:H.ownsRow 0 155 3 (.slice (some ⟨av,0,none⟩) 120 au) 120 (df' aA))=>m' (oX' (p:=z+1) (e:=ep) (s:=s) h1 h2 (d' ao).2.1 (by omega) (d' ao).1 (d' ao).2.2.2);rw[<-aq]at aC;have bT:=m' aq;clear aq;unfold D' at aC;refine bK'
   [Ep z 0,Ev (.agg #[.int .i64 ep, .int .i64 V, .int .i64 nd]),Ep (z+1) 0,Ep (z+1) 0,Ep (z+1) 1,Ei ep,Ev (.agg #[.int .i64 ep, .int .i64 0, .int .i64 0]),Eb false,Eb false,
    Ep (z+1) 0,Ep z 3,Ev (.slice (some ⟨av,0,none⟩) 120 au),Et,Et,Et]
   [[5],[1026],[7],[3028],[4029],[5030],[6031],[2027,7032],[8033],[7,9034],[5,9034],[11036,9034],[10035,12037,9034],[13038,9034],[9034,14039]] [27,28,29,30,31,32,33,34,35,36,37,38,39,40,41] [26,15,11]
   12 _ rfl ?_ ?_ ?_
  ·refine⟨?_,?_,?_,?_,?_,?_,?_,?_,?_,?_,?_,?_,trivial⟩;all_goals
    intro a' H I O;have z5:=(I.block _ (by omega)).trans (d' bg);have Y:=(I.block _ aL).trans (d' aj);obtain⟨d0,d1,d2,d3⟩:=ni' z5;have ad:=y' (i:=1) Y;simp[eD']at d0 d1 d2 d3 ad;clear I z5 Y;simp[I']at O;try (have ac:a'.tmps[34]? =some (.bool false):=dR' (by first|exact O|exact O.1|exact O.2|exact O.2.2))
    try go_simp
    try simp only[ac,if_true]
    try go_simp
    try exact z11 _ _
   all_goals first
    |exact⟨rfl,z11 _ _⟩
    |exact⟨_,rfl,z11 _ _,rfl⟩
    |(refine(d' (ap _)).mono ?_;rintro e G ⟨rfl,hb⟩;exact⟨rfl,hb⟩)
    |(refine(d' (ap _)).mono ?_;rintro e G ⟨rfl,hb⟩;exact⟨_,rfl,hb,rfl⟩)
    |skip
  ·intro f H M;simp only[ag',List.take]at M;have aP:=M.2.2.2.2.2.2.2.2.1;clear M;simp only[O',aP];rfl
  ·intro f H I M;simp only[ag',List.take]at M;have aP:=M.2.2.2.2.2.2.2.2.1;have bE:=M.2.2.2.2.2.2.2.2.2.1;have bF:=M.2.2.2.2.2.2.2.2.2.2.2.1;have Y:=(I.block _ aL).trans (d' aj);have bi:=aC' (d' aO) (fun g ac=>I.block g (z15 (d' aO) g ac).2);have aQ:=m' (d' (aC H Y bi));have Z:=m' I;clear M Y bi I aC;simp only[O',aP,bE,bF];go_simp;refine(d' aQ).mono ?_;rintro e G ⟨rfl,hF,hl⟩;have aD:=m' hF;have aR:=m' hl;clear hF hl;intro bj bU;obtain⟨m,rfl⟩:∃m,bj=m+2:=⟨bj - 2,by omega⟩;refine aY' (i:=13) (by kernel_rfl) rfl rfl ?_;go_simp;refine aY' (i:=14) (by kernel_rfl) rfl rfl ?_;go_simp;refine cu' (by kernel_rfl) ?_;have aS:Far (fun k=>k=z+1) J G:=(C' (E:=fun k=>k=z+1) (d' aB)).trans ((C' (E:=fun k=>k=z+1) (d' Z)).trans (d' aD) (fun _ _ F=>F)) (fun _ _ F=>F);have ab:Below J.heap.size J G:=aS.below (z13 _) (fun k hk F=>by omega);cases res with
   |none=>have aT:=m' ab;clear ab aS aQ aR aD Z;go_wp2;go_ret2;first|exact .inl ⟨.inr rfl,rfl,d' aT⟩|exact⟨rfl,d' aT⟩|exact .inl ⟨rfl,d' aT⟩
   |some Qc=>
    have Q:=(d' aR) Qc rfl;have bk:=Q.behind (d' Z);have bl:Far (fun k=>k=z+1) x G:=(C' (E:=fun k=>k=z+1) (d' Z)).trans (d' aD) (fun _ _ F=>F);have bm:=(d' aN).far bl (fun k hk e=>bh (by rw[<-e];exact hk));obtain⟨arr,bV,K,_,_⟩:=Q;have bn:=z14 K.blk;have bo:G.cell? ⟨z+1,11,none⟩=some (.slice none 0 0):=(by rw[y' K.blk];exact K.ar);have bW:∀o,(G.alloc o).cell? ⟨z+1,11,none⟩=some (.slice none 0 0):=fun o=>(z85 G _ ⟨z+1,11,none⟩ bn).trans bo;have bX:∀o,(G.alloc o).frozen? ⟨z+1,11,none⟩=false:=fun o=>H' (i:=11) ((hao _ _ bn).trans K.blk);have bY:¬z+1=G.heap.size:=(by omega);have bG:=m' (z12 bk (z12 bm ab));clear bo bk bm K bl aS aR aD Z aQ;go_wp2;go_ret2;obtain⟨Q,bH,ab⟩:=d' bG;obtain⟨R,bp⟩:=exq (Obj.cells (cI' (z+1)).toArray 179 (0,0));obtain⟨bq,aU⟩:=exq (G.setCell ⟨z+1,11,none⟩ (.slice (some ⟨G.heap.size,0,none⟩) 2 2));have bI:bq.heap.size=G.heap.size:=(by rw[aU,z79]);have bJ:Qi (bq.alloc R) 179 2 (.slice (some ⟨G.heap.size,0,none⟩) 2 2) 2 (cI' (z+1)):=(by refine⟨by simp[cI'], .inr ⟨G.heap.size,0,2,(cI' (z+1)).toArray,rfl,?_,by omega,by unfold maxLen;omega,by simp[cI'],by simp[cI']⟩⟩;rw[<-bI,z19,bp]);obtain⟨c,bK,bL⟩:=yu' Q bH (d' ao).2.2.1 (fun k hk e=>bh (by rw[<-e];exact hk)) aU bJ;have bM:R=Obj.cells #[.int .i64 1, .func (.func 109) #[.pointer (some ⟨z+1,0,none⟩)] #[], .int .i64 3, .func (.func 110) #[.pointer (some ⟨z+1,0,none⟩)] #[]] 179 (0,0):=(by rw[bp];rfl);subst bM;subst aU;have bZ:=(d' aB).size;refine .inr ⟨(d' ak).1,(d' ak).2,Qc,z+1,c,rfl,rfl,bK,?_,fun k hk=>?_⟩
    ·exact(ab.setCell (p:=⟨z+1,11,none⟩) (by show J.heap.size<=z+1;omega) _).alloc (by rw[z79];exact ab.size) _
    ·rcases bL k hk with F|F|F|F
     ·omega
     ·omega
     ·exact(d' bC) k F
     ·have h2:some G.heap.size=some k:=F;injection h2 with h2;have:=ab.size;omega
 ·have bD:∀H:World,(Op.equalIn 10000 136 (.agg #[.int .i64 ep, .int .i64 V, .int .i64 nd]) (.agg #[.int .i64 ep, .int .i64 0, .int .i64 0])).run prog H= .ok false H:=fun H=>by
   rw[kj'];congr 1;by_cases ad:V=0
   ·have ca:¬nd=0:=fun e=>aa ⟨ad,e⟩;have:((nd:Int) ==0)=false:=(by simp;omega);simp[ad,this]
   ·have:((V:Int) ==0)=false:=(by simp;omega);simp[this]
  have ak:=m' aa;clear aa aO;refine ae'
   [Ep z 0,Ev (.agg #[.int .i64 ep, .int .i64 V, .int .i64 nd]),Ep (z+1) 0,Ep (z+1) 0,Ep (z+1) 1,Ei ep,Ev (.agg #[.int .i64 ep, .int .i64 0, .int .i64 0]),Eb true,Eb true,
    Et,Et,Et,Et,Et,Eb true]
   [[5],[1026],[7],[3028],[4029],[5030],[6031],[2027,7032],[8033],[7,9034],[5,9034],[11036,9034],[10035,12037,9034],[13038,9034],[9034,14039]] [27,28,29,30,31,32,33,34,35,36,37,38,39,40,41] [26,15,11] ?_ ?_
  ·refine⟨?_,?_,?_,?_,?_,?_,?_,?_,?_,?_,?_,?_,?_,?_,?_,trivial⟩;all_goals
    intro a' H I O;have z5:=(I.block _ (by omega)).trans (d' bg);have Y:=(I.block _ aL).trans (d' aj);obtain⟨d0,d1,d2,d3⟩:=ni' z5;have ad:=y' (i:=1) Y;simp[eD']at d0 d1 d2 d3 ad;clear I z5 Y;simp[I']at O;try (have ac:a'.tmps[34]? =some (.bool true):=dR' (by first|exact O|exact O.1|exact O.2|exact O.2.2))
    try go_simp
    try exact z11 _ _
    try trivial
   all_goals first
    |exact⟨rfl,z11 _ _⟩
    |exact⟨_,rfl,z11 _ _,rfl⟩
    |(refine(d' (ap _)).mono ?_;rintro e G ⟨rfl,hb⟩;exact⟨rfl,hb⟩)
    |(refine(d' (ap _)).mono ?_;rintro e G ⟨rfl,hb⟩;exact⟨_,rfl,hb,rfl⟩)
    |skip
  ·intro f H I M;simp only[ag']at M;have bN:=M.2.2.2.2.2.2.2.2.2.2.2.2.2.2.1;have Z:=m' ((d' aB).trans (I.mono (d' aB).size));clear M I;simp only[O',bN];go_wp2;go_ret2;first|exact .inl ⟨.inl (d' ak),rfl,d' Z⟩|exact⟨.inl (d' ak),rfl,d' Z⟩
structure Alv (op ct n:Nat) (st:Mq.Stv) (e:Nat) (Qc:Nat->List z10):Prop where
 dead:st.dk.dead=false
 arm:st.dk.Zo=n
 op:st.Qe=op
 ct:st.count<=ct
 dk:Mq.Zu st.dk.bytes st.Qe st.count st.head e Qc
structure Ded (op:Nat) (st:Mq.Stv) (e:Nat) (Qc:Nat->List z10):Prop where
 dead:st.dk.dead=true
 op:st.Qe=op
 dk:∃ct hd,Mq.Zu st.dk.bytes st.Qe ct hd e Qc
variable{a q r:Nat}{P:Mq.Stv}{S:Nat -> List z10}
theorem rF' (h:Alv w a q P r S) (z:a+1 < 18446744073709551616):P.next=P.count+1:=by
 have:=h.ct;unfold Mq.Stv.next
 omega
variable{C:Nat}{o:z10}
theorem yB' (h:Alv w a q P r S) (z:a+1 < 18446744073709551616) (hn:q≠1) (hs:C < 3) (hb:o.size<=20) (F:Mq.cnt S < 120):
  (P.Qz (Mq.cnt S) C ((S C).length+1) o.data.toList).1=0/\Alv w (a+1) (q - 1) (P.Qz (Mq.cnt S) C ((S C).length+1) o.data.toList).2 r (Mq.Yo S C o):=by
 have G:=rF' h z;have hd:=h.dk.commit (b:=o) hs hb F (by have:=h.ct;omega);have h1:=h.dead;have h2:=h.arm;have h3:=h.ct;unfold Mq.Stv.Qz Mq.Dk.put;rw[if_neg (by rw[h1];simp),if_neg (by rw[h2];exact hn),G];exact⟨rfl,rfl,by show P.dk.Zo - 1=q - 1;rw[h2],h.op,by show P.count+1<=a+1;omega,hd⟩
theorem yC' (h:Alv w a 1 P q S) (k s z:Nat) (b:List UInt8):
  (P.Qz k s z b).1=4/\Ded w (P.Qz k s z b).2 q S:=by
 have h1:=h.dead;have h2:=h.arm;unfold Mq.Stv.Qz Mq.Dk.put;rw[if_neg (by rw[h1];simp),if_pos h2];exact⟨rfl,rfl,h.op,_,_,h.dk⟩
theorem yD' (h:Alv w a q P r S) (z:a+1 < 18446744073709551616) (hn:q≠1) (F:C<=2147483647):
  (P.Qr C 0 0).1=0/\Alv w (a+1) (q - 1) (P.Qr C 0 0).2 C S:=by
 have G:=rF' h z;have hd:=h.dk.Qa F (by have:=h.ct;omega);have h1:=h.dead;have h2:=h.arm;have h3:=h.ct;unfold Mq.Stv.Qr Mq.Dk.put;rw[if_neg (by rw[h1];simp),if_neg (by rw[h2];exact hn),G];exact⟨rfl,rfl,by show P.dk.Zo - 1=q - 1;rw[h2],h.op,by show P.count+1<=a+1;omega,hd⟩
theorem yE' (h:Alv w a 1 P q S) (z b c:Nat):
  (P.Qr z b c).1=4/\Ded w (P.Qr z b c).2 q S:=by
 have h1:=h.dead;have h2:=h.arm;unfold Mq.Stv.Qr Mq.Dk.put;rw[if_neg (by rw[h1];simp),if_pos h2];exact⟨rfl,rfl,h.op,_,_,h.dk⟩
def Yk (op:Nat) (w x:World) (p e:Nat) (Qc:Nat->List z10) (c:Sv):Prop:=∃sh st,Xf w x p e Qc sh st c/\Ded op st e Qc
def CmG (op ct n:Nat) (w x:World) (p:Nat) (a:Mq.Sk) (i:Nat) (b:z10) (c:Sv) (out:List z10):Prop:=
 ∃sh st,sK' a i ((a.Qc i).length+1) b out sh/\(Alv op (ct+out.length) (n - out.length) st a.Qa (grown a i out).Qc/\(n=0\/out.length < n))/\Xf w x p a.Qa (grown a i out).Qc sh st c
theorem vo' (a:Mq.Sk) (s:Nat) (out:List z10) (c:z10):Mq.Yo (grown a s out).Qc s c=(grown a s (out++[c])).Qc:=by
 have:=lg' a s out c;exact this
variable{p:World}{x:Mq.Sk}{R:Nat -> List (Nat×Value)}{L:Sv}{T:List z10}
theorem lP' (hi:C < 3) (G:Jt p r x.Qa (grown x C T).Qc R P L) (hs:Alv w (a+T.length) (q - T.length) P x.Qa (grown x C T).Qc) (hn:q=0\/T.length < q) (b:z10) (hb:b.size<=20) (H:x.count+T.length < 120) (M:a+1000 < 18446744073709551616):
  Calls prog 222 #[D' r, .int .i64 C, .string b] p fun z w'=>
   (z= .returned (.int .i64 0)/\(q=0\/T.length+1 < q)/\∃F,Alv w (a+(T++[b]).length) (q - (T++[b]).length) F x.Qa (grown x C (T++[b])).Qc/\Xf p w' r x.Qa (grown x C (T++[b])).Qc R F L)\/
   (z= .returned (.int .i64 4)/\q=T.length+1/\Yk w p w' r x.Qa (grown x C T).Qc L):=by
 have I:Mq.cnt (grown x C T).Qc < 120:=by have:=iO' x C hi T;unfold Mq.cnt;omega
 refine(sH' G C hi b hb (by rw[iO' x C hi];exact H)).mono ?_;rintro z w' ⟨rfl,h⟩;by_cases h1:q=T.length+1
 ·right;have J:Alv w (a+T.length) 1 P x.Qa (grown x C T).Qc:=by rw[show q - T.length=1 by omega]at hs;exact hs
  obtain⟨k1,k2⟩:=yC' J (((grown x C T).Qc 0).length+((grown x C T).Qc 1).length+((grown x C T).Qc 2).length) C (((grown x C T).Qc C).length+1) b.data.toList;rw[k1,if_neg (by omega)]at h;exact⟨by rw[k1],h1,R,_,h,k2⟩
 ·left;obtain⟨k1,k2⟩:=yB' hs (by omega) (by omega) hi hb I;unfold Mq.cnt at k1 k2;rw[k1,if_pos rfl,lg']at h;rw[vo']at k2;refine⟨by rw[k1],by omega,_,?_,h⟩;rw[z35,z90,show a+(T.length+1)=a+T.length+1 by omega,show q - (T.length+1)=q - T.length - 1 by omega];exact k2
theorem nK' {out:List z10} (hi:C < 3) (G:Jt p r x.Qa (grown x C out).Qc R P L) (hs:Alv w (a+out.length) (q - out.length) P x.Qa (grown x C out).Qc) (hn:q=0\/out.length < q) (b:z10) (hb:b.size<=20) (H:x.count+out.length < 120) (I:a+1000 < 18446744073709551616) (h1:q≠out.length+1):
  Calls prog 222 #[D' r, .int .i64 C, .string b] p fun F w'=>
   F= .returned (.int .i64 0)/\∃z,(Alv w (a+(out++[b]).length) (q - (out++[b]).length) z x.Qa (grown x C (out++[b])).Qc/\(q=0\/(out++[b]).length < q))/\Xf p w' r x.Qa (grown x C (out++[b])).Qc R z L:=by
 refine(lP' hi G hs hn b hb H I).mono ?_;rintro F w' (⟨h2,h3,z,h4,h5⟩|⟨_,h3,_⟩)
 ·exact⟨h2,z,⟨h4,by rw[z35,z90];exact h3⟩,h5⟩
 ·exact absurd h3 h1
theorem lQ' {out:List z10} (hi:C < 3) (F:Jt p r x.Qa (grown x C out).Qc R P L) (hs:Alv w (a+out.length) (q - out.length) P x.Qa (grown x C out).Qc) (hn:q=0\/out.length < q) (b:z10) (hb:b.size<=20) (G:x.count+out.length < 120) (H:a+1000 < 18446744073709551616) (h1:q=out.length+1):
  Calls prog 222 #[D' r, .int .i64 C, .string b] p fun z w'=>
   z= .returned (.int .i64 4)/\Yk w p w' r x.Qa (grown x C out).Qc L:=by
 refine(lP' hi F hs hn b hb G H).mono ?_;rintro z w' (⟨_,h3,_⟩|⟨h2,_,h4⟩)
 ·omega
 ·exact⟨h2,h4⟩
theorem gb' {a:Mq.Sk} {st q n:Nat}:∀ (f:Nat) (out:List z10),∃more,a.commitFrom st q n f out=out++more
 |0,out=>⟨[],by simp[Mq.Sk.commitFrom]⟩
 |f+1,out=>by
  unfold Mq.Sk.commitFrom;split
  ·split
   ·exact⟨[],by simp⟩
   ·rename_i k _;obtain⟨m,h⟩:=gb' (a:=a) (st:=st) (q:=q) (n:=n) f (out++[(a.held.getD k (0,0,⟨#[]⟩)).2.2]);exact⟨(a.held.getD k (0,0,⟨#[]⟩)).2.2::m,by rw[h,z38];rfl⟩
  ·exact⟨[],by simp⟩
def to' (op n:Nat) (w x:World) (p:Nat) (a:Mq.Sk) (i:Nat) (b:z10) (c:Sv):Prop:=
 1<=n/\n<=(a.commitFrom i ((a.Qc i).length+1) a.count 120 [b]).length/\Yk op w x p a.Qa (grown a i ((a.commitFrom i ((a.Qc i).length+1) a.count 120 [b]).take (n - 1))).Qc c
theorem rG' (z:sK' x w a o T R):∃more,x.commitFrom w a x.count 120 [o]=T++more:=by
 rw[<-z.run];exact gb' _ _
theorem lR' (aj:Jt p r x.Qa x.Qc R P L) (bn:Alv w a q P x.Qa x.Qc) (aG:a+1000 < 18446744073709551616) (bo:Jh x) (aS:bN' x) (bN:eL' x.held R) (i:Nat) (hi:i < 3) (b:z10) (hb:b.size<=20) (aT:x.count < 120):
  Calls prog 205 #[D' r, .int .i64 i, .string b] p fun G w'=>
   (G= .returned (.int .i64 0)/\∃out,CmG w a q p w' r x i b L out/\out=x.commitFrom i ((x.Qc i).length+1) x.count 120 [b])\/
   (G= .returned (.int .i64 4)/\to' w q p w' r x i b L):=by
 have aH:=sL' bo aS bN aj.ks.are i b hi hb aT;have aU:q=0\/([]:List z10).length < q:=by simp;omega
 have bp:=rG' aH;have bq:∀out J,q=out.length+1->(∃more,x.commitFrom i ((x.Qc i).length+1) x.count 120 [b]=out++more/\more≠ [])->Yk w p J r x.Qa (grown x i out).Qc L->to' w q p J r x i b L:=by
  rintro out J hn ⟨more,aI,bO⟩ hd;have cq:0 < more.length:=List.length_pos_iff.2 bO;refine⟨by omega,by rw[aI,z35];omega,?_⟩;rw[aI,show q - 1=out.length by omega,List.take_left']
  ·exact hd
  ·rfl
 have aV:=fun out J h1 h2 h3=>m' (bq out J h1 h2 h3);clear bq;have cr:=z14 aj.ks.blk;have cs:(x.Qc i).length<=120:=aj.ks.Vb hi;have cu:(0:Int)<=(i:Int):=by omega
 have cv:(i:Int) < 3:=by omega
 have bP:=m' aH;have bQ:∀y,(∃v:Int,(v=0/\∃out,CmG w a q p y r x i b L out)\/(v=4/\to' w q p y r x i b L))->Hid (∃v:Int,(v=0/\∃out,CmG w a q p y r x i b L out)\/(v=4/\to' w q p y r x i b L)):=fun y h=>h;have aJ:Calls prog 222 #[D' r, .int .i64 i, .string b] p fun G y=>∃v:Int,G= .returned (.int .i64 v)/\((v=0/\∃out,CmG w a q p y r x i b L out)\/(v=4/\to' w q p y r x i b L)):=by
  by_cases h1:q=([]:List z10).length+1
  ·refine(lQ' (out:=[]) hi (by rw[en'];exact aj) (by rw[en'];exact bn) aU b hb (by simpa using aT) aG h1).mono ?_;rintro G y ⟨rfl,hd⟩;obtain⟨m,aI⟩:=bp;exact⟨4,rfl, .inr ⟨rfl,d' (aV [] y h1 ⟨_,by rw[aI];rfl,by simp⟩ hd)⟩⟩
  ·refine(nK' (out:=[]) hi (by rw[en'];exact aj) (by rw[en'];exact bn) aU b hb (by simpa using aT) aG h1).mono ?_;rintro G y ⟨rfl,aW,h2,h3⟩;exact⟨0,rfl, .inl ⟨rfl,[b],R,aW,aH,by simpa using h2,by simpa using h3⟩⟩
 have aJ:=m' aJ;clear aj aH bQ bp aU;unfold D' at *;go_enter func205,ntmps205;go_upto_region 3 with (go_at_call 222;refine(d' aJ).mono ?_;rintro G y ⟨v0,rfl,br⟩);have bt:=m' br;clear br bP aJ;go_loopw[8,9,10] (fun v8 _ _ wr=>∃v:Int,v8= .int .i64 v/\((v=0/\∃out,CmG w a q p wr r x i b L out)\/(v=4/\to' w q p wr r x i b L))) (fun v8 _ _ wr=>if intOf v8=0 then 200 - qu' (wr.cell? ⟨r,2+i * 3,none⟩)else 0)
 case atStart=>exact⟨v0,rfl,d' bt⟩
 case round=>
  obtain⟨v,rfl,hrel⟩:=hrel;clear bt;rcases hrel with ⟨rfl,hrel⟩|⟨rfl,bu⟩
  ·obtain⟨out,ak,au,M,aX,aK⟩:=hrel;obtain⟨c1,H,aY,aZ,Y,Z⟩:=id aK;have ba:=lh' x i out;obtain⟨bR,cap,bb,av⟩:=H.ks.logc hi;rw[ba,z35]at bb av;have ac:=m' (jF' H.ks);rw[iO' x i hi]at ac;have ax:=m' M;have bc:=m' aK;have bw:=m' H;have ao:200 - qu' (wr.cell? ⟨r,2+i * 3,none⟩)=200 - ((x.Qc i).length+out.length):=(by rw[av];rfl);by_cases ap:x.count+out.length < 120
   ·rw[z47 ap]at ac;obtain⟨O,Q⟩:=exq ((x.Qc i).length+out.length+1);have cw:out.length<=120:=(by omega);have bz:=fun y (ad:Below wr.heap.size wr y)=>m' (dS' y r (2+i * 3) _ cap bR ((ad.cell (p:=⟨r,2+i * 3,none⟩) (z14 H.ks.blk)).trans av) (by omega));rw[<-Q]at bz;have bS:∃ (F:z10) (I:Bool) (ah:Nat->List (Nat×Value)),(∀y,Below wr.heap.size wr y->Calls prog 223 #[.pointer (some ⟨r,2+i * 3+1,none⟩), .int .i64 O] y fun G w'=>G= .returned (.tuple #[.agg #[.string F], .bool I])/\uN' wr w' r x.Qa (grown x i out).Qc ah au c1/\Far (fun k=>k=r\/ShU (c1.nv i) (c1.mv i) k) y w')/\
      ((I=true/\al' (ak i) (O:Int)=some (eJ' F)/\ah=fun t=>if t=i then gP' (ak i) O else ak t)\/(I=false/\al' (ak i) (O:Int)=none/\ah=ak)):=by
     rcases gm' (H.ks.are i hi) (O:Int)with ⟨F,hl⟩|hl
     ·refine⟨F,true,_,?_, .inl ⟨rfl,hl,rfl⟩⟩;intro y ad;have ay:=H.far (C' (E:=fun _=>False) ad) (fun _ _ h=>h);refine(sJ' (ay.shAt hi) O F hl).mono ?_;rintro G w' ⟨rfl,aa⟩;obtain⟨bT,h1,h2,h3,h4,h5⟩:=uO' ay hi aa (fun J bU=>H.ks.are i hi J ((fV' _ _).subset bU));exact⟨rfl,⟨bT,h1,h2,(C' (E:=PkU r c1) ad).trans h3 (fun _ _ h=>h),h4,h5⟩,aa.far⟩
     ·refine⟨⟨#[]⟩,false,_,?_, .inr ⟨rfl,hl,rfl⟩⟩;intro y ad;have ay:=H.far (C' (E:=fun _=>False) ad) (fun _ _ h=>h);refine(sI' (ay.shAt hi) O hl).mono ?_;rintro G w' ⟨rfl,aa⟩;exact⟨rfl,⟨c1,ay.far (C' (E:=fun _=>False) aa) (fun _ _ h=>h),fun _ h=>h,(C' (E:=PkU r c1) ad).trans (C' aa) (fun _ _ h=>h),rfl,rfl⟩,C' aa⟩
    have bA:∀k,(k=r\/ShU (c1.nv i) (c1.mv i) k)->k < wr.heap.size:=fun k hk=>H.ks.lt k (hk.elim .inl (fun h=> .inr (.inr ⟨i,hi,h⟩)));have bB:∀k,PkU r c1 k->k < wr.heap.size:=H.lt;have bC:=(H.ks.shs i hi).sorted;have V:∀k,PkU r c1 k->PkU r L k\/p.heap.size<=k:=aZ;have ai:=aY;obtain⟨F,I,ah,bD,bE⟩:=bS;have bd:=m' bD;have be:=m' bE;have aL:=m' Q;have bV:=m' bC;have bW:=m' ao;have az:=m' (z12 V (z12 ai (z12 Y Z)));clear aK H aY aZ M bb av ba ao bD bE Q bC V ai Y Z;unfold D' at ac;go_upto_region 4 with (go_at_call 204;refine(d' ac).mono ?_;rintro G y ⟨rfl,rfl⟩);refine me'
     [Ep r (2+i * 3),Ep r (2+i * 3),Ep r (2+i * 3+1),Ep r (2+i * 3),Ei O,fun v z=>v= .tuple #[.agg #[.string F], .bool I]/\uN' y z r x.Qa (grown x i out).Qc ah au c1,Ev (.tuple #[.agg #[.string F], .bool I]),Ev (.agg #[.string F]),Eb I,
     fun v z=>∃g J,v= .pointer (some ⟨g,0,none⟩)/\y.heap.size<=g/\z.heap[g]? =some (.cells #[.string J] 235 (0,0)),fun v z=>∃g,v= .pointer (some ⟨g,0,none⟩)/\y.heap.size<=g/\z.heap[g]? =some (.cells #[.string F] 235 (0,0)),Eb I]
     [[7],[1027],[2028],[7],[4030],[3029,5031],[6032],[7026],[7026],[],[10009,8033],[9034]] [28,29,30,31,32,33,27,34,35,10,10,11] [9,2,15,9,8]
     [(5,fun k=>k=r\/ShU (c1.nv i) (c1.mv i) k),(10,fun k=>y.heap.size<=k)]
     10 ow' ox' ?_ ?_ (hst:=by repeat' (first|exact V' _|exact aj'|exact(fun _ u z h hb=>⟨h.1,h.2.far bB (C' (E:=fun _=>False) hb) (fun _ h=>h.elim)⟩)|exact(fun _ u z h hb=>h.imp fun _ h=>h.imp fun _ h=>⟨h.1,h.2.1,(hb.block _ (z14 h.2.2)).trans h.2.2⟩)|exact(fun _ u z h hb=>h.imp fun _ h=>⟨h.1,h.2.1,(hb.block _ (z14 h.2.2)).trans h.2.2⟩)|exact trivial|apply z12)) (hstF:=by
       refine⟨?_,?_,trivial⟩
       ·repeat' (first|exact trivial|exact .inl rfl|exact .inr (.inr (dk' (bj' _ _)))|exact .inr (.inr (dk' (fun _ u z h hF=>h.imp fun g h=>h.imp fun _ h=>⟨h.1,h.2.1,hF.blk h.2.2 (fun e=>by have:=bA g e;omega)⟩)))|exact .inr (.inr (dk' (fun _ u z h hF=>h.imp fun g h=>⟨h.1,h.2.1,hF.blk h.2.2 (fun e=>by have:=bA g e;omega)⟩)))|apply z12)
       ·repeat' (first|exact trivial|exact .inl rfl|exact .inr (.inr (dk' (bj' _ _)))|exact .inr (.inr (dk' (fun _ u z h hF=>⟨h.1,h.2.far bB hF (fun _ h=>h)⟩)))|exact .inr (.inr (fun _ u z h _ bX=>h.imp fun g h=>by obtain⟨J,h1,h2,h3⟩:=h;obtain⟨bY,h4⟩:=bX rfl g J h3;exact⟨bY,h1,h2,h4⟩))|apply z12))
    ·refine⟨?_,?_,?_,?_,?_,?_,?_,?_,?_,?_,?_,?_,trivial⟩;all_goals
      intro a' z hb aM;simp[I']at aM
     iterate 4
      ·clear hb;go_simp;exact⟨_,rfl,Far.refl _ _,rfl⟩
     ·have aA:Below y.heap.size y z:=hb.below (z13 _) (by
       rintro k hk ⟨bZ,aB,g1,g2,aC⟩;simp at aB;rcases aB with rfl|rfl
       ·exact absurd (show bJ' _ 5 4=false from g2) (by decide+kernel)
       ·have aC:y.heap.size<=k:=aC;omega)
      have bf:=m' (d' (bz z aA));clear hb aA;go_simp;refine(d' bf).mono ?_;rintro G ca ⟨rfl,rfl⟩;exact⟨_,rfl,Far.refl _ _,rfl⟩
     ·have aA:Below y.heap.size y z:=hb.below (z13 _) (by
       rintro k hk ⟨bZ,aB,g1,g2,aC⟩;simp at aB;rcases aB with rfl|rfl
       ·exact g1 rfl
       ·have aC:y.heap.size<=k:=aC;omega)
      have bf:=m' ((d' bd) z aA);clear hb aA;go_simp;refine(d' bf).mono ?_;rintro G ca ⟨rfl,h1,h2⟩;exact⟨_,rfl,an' (.head _) h2,⟨rfl,h1⟩⟩
     ·obtain⟨aM,_⟩:=aM;clear hb;go_simp;exact⟨_,rfl,Far.refl _ _,rfl⟩
     iterate 2
      ·clear hb;go_simp;exact⟨_,rfl,Far.refl _ _,rfl⟩
     ·have cb:=hb.size;clear hb;go_simp;exact⟨_,rfl,C' ((z11 _ _).alloc (z13 _) _),⟨_,rfl,cb,⟨#[]⟩,z19 _ _⟩⟩
     ·obtain⟨⟨g,bg,bh,cc,ab⟩,cx⟩:=aM;clear hb;have cy:z.cell? ⟨g,0,none⟩=some (.string cc):=y' (i:=0) ab;have cz:z.frozen? ⟨g,0,none⟩=false:=H' (i:=0) ab;have cd:=m' (z12 bh ab);clear bh ab;have ce:=bg;go_simp;obtain⟨g1,g2⟩:=d' cd;refine⟨an' (.tail _ (.head _)) ((Q' z g 0 (.string F)).mono (fun k _ e=>by rw[e];exact g1)),⟨undef,g,?_,g1,?_⟩,?_⟩
      ·show a'.tmps.getD 9 undef= _;rw[z42];exact ce
      ·have:=aa' (j:=0) (v:= .string F) g2;simpa using this
      ·exact qt' z g F
     ·clear hb;go_simp;exact⟨_,rfl,Far.refl _ _,rfl⟩
    ·intro f z hF aN;obtain⟨_,aa⟩:=aN.2.2.2.2.2.1;obtain⟨g,bg,bh,ab⟩:=aN.2.2.2.2.2.2.2.2.2.2.1;have cf:=aN.2.2.2.2.2.2.2.2.2.2.2.1;clear aN hF;simp only[O',bg,cf];obtain⟨V,ai,Y,Z⟩:=d' az;obtain⟨c2,aq,aO,aP,t1,t2⟩:=aa;have bi:Xf p z r x.Qa (grown x i out).Qc ah au L:=⟨c2,aq,ai.trans aP (fun k hk hu=>(V k hu).elim id (fun h=>by omega)),fun k hk=>V k (aO k hk),t1.trans Y,t2.trans Z⟩;have aQ:=m' bi;have cA:z.cell? ⟨g,0,none⟩=some (.string F):=y' (i:=0) ab;have bF:=m' aq;have aD:∀k,PkU r c2 k->PkU r L k\/p.heap.size<=k:=fun k hk=>V k (aO k hk);have aE:=ai.trans aP (fun k hk hu=>(V k hu).elim id (fun h=>by omega));have bG:=m' (z12 aD (z12 aE (z12 (t1.trans Y) (t2.trans Z))));rcases d' be with ⟨rfl,hl,aF⟩|⟨rfl,hl,aF⟩
     ·have Q:=d' aL;have M:=d' ax;have bH:F.size<=20:=aS.bod _ ((M.on i hi O F).1 hl).1;rw[Q]at hl aF;have aR:=uM' bo aS hi M ap (d' bV) hl;rw[<-aF]at aR;obtain⟨bj,bk⟩:=aX;obtain⟨cg,bI⟩:=rG' aR;have bl:∀Qc R P u,Xf z u r x.Qa Qc R P c2->Xf p u r x.Qa Qc R P L:=by
       rintro Qc R P u ⟨c3,bm,ch,ci,s1,cj⟩;refine⟨c3,bm,aE.trans ch (fun k hk hu=>(aD k hu).elim id (fun h=>by omega)),fun k hk=>?_,s1.trans (t1.trans Y),cj.trans (t2.trans Z)⟩;have ck:=aE.size;rcases ci k hk with h|h
       ·exact aD k h
       ·exact .inr (z26 ck h)
      have bJ:Calls prog 222 #[D' r, .int .i64 i, .string F] z fun G u=>∃v:Int,G= .returned (.int .i64 v)/\((v=0/\CmG w a q p u r x i b L (out++[F]))\/(v=4/\to' w q p u r x i b L)):=by
       by_cases h1:q=out.length+1
       ·refine(lQ' (out:=out) hi aq bj bk F bH ap aG h1).mono ?_;rintro G u ⟨rfl,bK,bL,hd1,cl⟩;exact⟨4,rfl, .inr ⟨rfl,d' (aV out u h1 ⟨F::cg,by rw[bI];simp,by simp⟩ ⟨bK,bL,bl _ _ _ _ hd1,cl⟩)⟩⟩
       ·refine(nK' (out:=out) hi aq bj bk F bH ap aG h1).mono ?_;rintro G u ⟨rfl,aW,h2,h3⟩;exact⟨0,rfl, .inl ⟨rfl,ah,aW,aR,h2,bl _ _ _ _ h3⟩⟩
      have bM:=m' bJ;unfold D' at bM;clear hl aF Q M aR bi aq aO aP aD aE V ai Y Z t1 t2 ab bd be aL ax bc bw az aQ bl bJ bj bk bI bG bF;go_wp2_with (go_at_call 222;refine(d' bM).mono ?_;rintro G u ⟨v,rfl,I⟩;replace I:=m' I);have ao:=d' bW;go_roundw
      case rel=>
       rcases d' I with ⟨rfl,h⟩|⟨rfl,h⟩
       ·exact⟨0,rfl, .inl ⟨rfl,_,h⟩⟩
       ·exact⟨4,rfl, .inr ⟨rfl,h⟩⟩
      case measure=>
       rcases d' I with ⟨rfl,bK,bL,_,_,c3,bm,_⟩|⟨rfl,h⟩
       ·obtain⟨cB,cC,_,cm⟩:=bm.ks.logc hi;rw[ao,cm];show(if(0:Int)=0 then 200 - ((grown x i (out++[F])).Qc i).length else 0) < (if(0:Int)=0 then _ else 0);rw[if_pos rfl,if_pos rfl,lh',z35,z35,z90];have cn:=gh' (a:=x) hi;omega
       ·rw[ao];show(if(4:Int)=0 then _ else 0) < (if(0:Int)=0 then _ else 0);rw[if_neg (by omega),if_pos rfl];have cn:=gh' (a:=x) hi;omega
     ·have Q:=d' aL;have M:=d' ax;rw[Q]at hl;have cp:=m' (nw' hi M (.inr hl));subst aF;clear hl Q M bi aq aO aP aD aE V ai Y Z t1 t2 ab bd be aL bc bw az bG bF;go_wp2;go_ret;rw[<-d' cp];exact .inl ⟨rfl,_,au,d' ax,aX,d' aQ⟩
   ·rw[z52 ap]at ac;have aQ:=m' (nw' hi M (.inl ap));clear aK H aY aZ M bb av ba ao;unfold D' at ac;go_wp2_with (go_at_call 204;refine(d' ac).mono ?_;rintro G y ⟨rfl,rfl⟩);go_ret;exact .inl ⟨rfl,out,⟨ak,au,d' ax,aX,d' bc⟩,d' aQ⟩
  ·have az:=m' bu;clear bu aV;go_wp2;go_ret;exact .inr ⟨rfl,d' az⟩
def Xo (op ct n:Nat) (w x:World) (p:Nat) (a:Mq.Sk) (c:Sv):Prop:=∃sh st,Xf w x p a.Qa a.Qc sh st c/\Alv op ct n st a.Qa a.Qc/\eL' a.held sh
theorem Xo.behind {op ct n:Nat} {w x y:World} {p:Nat} {a:Mq.Sk} {c:Sv} (h:Xo op ct n x y p a c) (hb:Below w.heap.size w x):Xo op ct n w y p a c:=by
 obtain⟨sh,st,⟨z,K,F,N,s1,G⟩,hs,H⟩:=h;exact⟨sh,st,⟨z,K,(C' (E:=PkU p c) hb).trans F (fun _ _ h=>h),fun k hk=>(N k hk).imp id (fun h=>z26 hb.size h),s1,G⟩,hs,H⟩
theorem Xo.below {op ct n:Nat} {w x y:World} {p:Nat} {a:Mq.Sk} {c:Sv} (h:Xo op ct n w x p a c) (hb:Below x.heap.size x y):Xo op ct n w y p a c:=by
 obtain⟨sh,st,h,hs,z⟩:=h;exact⟨sh,st,h.below hb,hs,z⟩
theorem du' {op ct n:Nat} {w:World} {p:Nat} {a:Mq.Sk} {sh:Nat->List (Nat×Value)} {st:Mq.Stv} {c:Sv} (z:Jt w p a.Qa a.Qc sh st c) (hs:Alv op ct n st a.Qa a.Qc) (F:eL' a.held sh):Xo op ct n w w p a c:=⟨sh,st,qs' z,hs,F⟩
theorem Yk.behind {op:Nat} {w x y:World} {p e:Nat} {Qc:Nat->List z10} {c:Sv} (h:Yk op x y p e Qc c) (hb:Below w.heap.size w x):Yk op w y p e Qc c:=by
 obtain⟨sh,st,⟨z,K,F,N,s1,G⟩,hs⟩:=h;exact⟨sh,st,⟨z,K,(C' (E:=PkU p c) hb).trans F (fun _ _ h=>h),fun k hk=>(N k hk).imp id (fun h=>z26 hb.size h),s1,G⟩,hs⟩
def lS' (op ct n:Nat) (w x:World) (p:Nat) (a a':Mq.Sk) (i:Nat) (z:List z10) (k:Nat) (c:Sv) (v:Int):Prop:=
 (v=0/\(n=0\/k < n)/\Xo op (ct+k) (n - k) w x p a' c)\/(v=4/\1<=n/\n<=k/\Yk op w x p a.Qa (grown a i (z.take (n - 1))).Qc c)
variable{u:World}{bH:Mq.Sk}
theorem dv' (h:Xo w a q p u r bH L):lS' w a q p u r x bH C T 0 L 0:= .inl ⟨rfl,by omega,h⟩
theorem lS'.behind {op ct n:Nat} {w x y:World} {p:Nat} {a a':Mq.Sk} {i:Nat} {z:List z10} {k:Nat} {c:Sv} {v:Int} (h:lS' op ct n x y p a a' i z k c v) (hb:Below w.heap.size w x):lS' op ct n w y p a a' i z k c v:=by
 rcases h with ⟨h1,h2,h3⟩|⟨h1,h2,h3,h4⟩
 ·exact .inl ⟨h1,h2,h3.behind hb⟩
 ·exact .inr ⟨h1,h2,h3,h4.behind hb⟩
theorem xt' (ac:Jt p r x.Qa x.Qc R P L) (hs:Alv w a q P x.Qa x.Qc) (bm:a+1000 < 18446744073709551616) (aQ:Jh x) (bn:bN' x) (ao:eL' x.held R) (e:Int) (i z:Nat) (hi:i < 3) (bQ:z<=2147483647) (b:z10) (hb:b.size<=20):
  Calls prog 163 #[D' r, .agg #[.int .i64 3, .int .i64 e, .int .i64 i, .int .i64 z, .string b]] p fun Z w'=>∃v,Z= .returned (.int .i64 v)/\lS' w a q p w' r x (as' x 3 x.Qa i z b) i (x.Qp 3 x.Qa i z b) (x.Qp 3 x.Qa i z b).length L v:=by
 have bo:=z14 ac.ks.blk;obtain⟨bp,cap,bq,aR⟩:=ac.ks.logc hi;have br:=ac.ks.Vb hi;obtain⟨n1,aE⟩:=exq ((x.Qc i).length+1);obtain⟨d,hd⟩:=exq ((z:Int) - (n1:Int):Int);have bR:IntKind.i64.wrap ((z:Int) - (n1:Int))=d:=by rw[z36];omega
 have aF:=fun y (Q:Below p.heap.size p y)=>m' (dS' y r (2+i * 3) _ cap bp ((Q.cell (p:=⟨r,2+i * 3,none⟩) bo).trans aR) (by omega));rw[<-aE]at aF;have aG:=fun y (Q:Below p.heap.size p y)=>m' (jF' (ac.ks.far (C' (E:=fun _=>False) Q) (fun _ _ h=>h)));have aS:=fun y (Q:Below p.heap.size p y)=>m' (ac.far (C' (E:=fun _=>False) Q) (fun _ _ h=>h));obtain⟨room,aH⟩:=exq (decide ((x.Qc 0).length+(x.Qc 1).length+(x.Qc 2).length < 120));rw[<-aH]at aG;have bS:(0:Int)<=(i:Int):=by omega
 have bT:(i:Int) < 3:=by omega
 have ad:=m' (z12 aE (z12 hd (z12 aH br)));have bU:=m' ac;have aT:=m' (dY' p #[.int .i64 3, .int .i64 e, .int .i64 i, .int .i64 z, .string b]);clear ac bq aR aE hd aH;unfold D' at *;go_enter func163,ntmps163;go_upto_region 1 with fail;refine G' (Xv p #[.int .i64 3, .int .i64 e, .int .i64 i, .int .i64 z, .string b]) (d' aT) ?_;clear aT;intro aU X;have ap:=y' (i:=2) X.box;have M:=y' (i:=3) X.box;simp at ap M;have bt:=X.bel;have G:=m' X;clear X;go_quiet (fail);go_upto_region 2 with fail;refine G' (Xv p #[.int .i64 3, .int .i64 e, .int .i64 i, .int .i64 z, .string b]) ((d' G).drewN _) ?_;clear G ap M bt;intro bu X;have M:=y' (i:=3) X.box;simp at M;have aV:=fun q=>m' (d' (aF (bu.drewN q) (X.drewN q).bel));have G:=m' X;clear X aF;go_quiet (first|(go_at_call 158;exact z57 (d' (aV _))));go_upto_region 3 with fail;refine G' (Xv p #[.int .i64 3, .int .i64 e, .int .i64 i, .int .i64 z, .string b]) (by first|exact d' G|exact(d' G).drewN _|exact(d' G).drew|exact(d' G).drew.drew) ?_;clear G M aV;intro V X;have ap:=y' (i:=2) X.box;have M:=y' (i:=3) X.box;have ay:=y' (i:=4) X.box;simp at ap M ay;have az:=m' (d' (aG V X.bel));have F:=d' (aS V X.bel);have G:=m' X;clear X aG aS;have aA:=m' ((du' F hs ao).behind (d' G).bel);by_cases hd0:d=0
 ·have aW:z=(x.Qc i).length+1:=by obtain⟨h1,h2,_⟩:=d' ad;omega
  have aX:=m' aW;clear aW;subst hd0;cases ai:room
  ·have ah:¬ (z=(x.Qc i).length+1/\x.count < 120):=(by have h:=(d' ad).2.2.1;rw[ai]at h;have h:=of_decide_eq_false h.symm;exact fun bw=>h bw.2);have aj:=m' (eM' (b:=b) ah);have aY:as' x 3 x.Qa i z b=x:=(by rw[ff' ah,bn',if_neg (fun h=>by have:=d' aX;omega)]);rw[ai]at az;have aq:=m' aY;clear F ah aY ai;go_upto_region 5 with (go_at_call 204;refine(d' az).mono ?_;rintro Z y ⟨rfl,rfl⟩);go_quiet (fail);go_wp2;go_ret;exact⟨0,rfl,by rw[d' aq,d' aj];exact dv' ((d' aA).below (z41 (z11 _ _) _))⟩
  ·have aI:x.count < 120:=(by have h:=(d' ad).2.2.1;rw[ai]at h;exact tX' h.symm);have aZ:=m' (lR' F hs bm aQ bn ao i hi b hb aI);rw[ai]at az;have ba:=m' aI;have aB:Calls prog 205 #[D' r, .int .i64 i, .string b] V fun Z w'=>∃v:Int,Z= .returned (.int .i64 v)/\lS' w a q V w' r x (bL' x i (x.commitFrom i ((x.Qc i).length+1) x.count 120 [b])) i (x.commitFrom i ((x.Qc i).length+1) x.count 120 [b]) (x.commitFrom i ((x.Qc i).length+1) x.count 120 [b]).length L v:=by
    refine(d' aZ).mono ?_;rintro Z y (⟨rfl,out,⟨bz,bA,bB,bb,bC⟩,bD⟩|⟨rfl,h1,h2,h3⟩)
    ·rw[<-bD];exact⟨0,rfl, .inl ⟨rfl,bb.2,bz,bA,bC,bb.1,yk' bB⟩⟩
    ·exact⟨4,rfl, .inr ⟨rfl,h1,h2,h3⟩⟩
   have aB:=m' aB;clear aZ;unfold D' at aB;clear F ai aI;go_wp2_with (first|(go_at_call 204;refine(d' az).mono ?_;rintro Z y ⟨rfl,rfl⟩)|(go_at_call 205;refine(d' aB).mono ?_;rintro Z y ⟨v,rfl,aJ⟩;replace aJ:=m' aJ));go_ret;refine⟨v,rfl,?_⟩;rw[d' aX,ie' (d' ba),id' (d' ba)];exact(d' aJ).behind (d' G).bel
 ·have bV:(d==0)=false:=by simpa using hd0
  have ah:¬ (z=(x.Qc i).length+1/\x.count < 120):=fun h=>by obtain⟨h1,h2,_⟩:=d' ad;omega
  have aa:=ff' (b:=b) ah;have aj:=m' (eM' (b:=b) ah);clear ah;by_cases h1:1<=d
  ·by_cases h3:d<=3
   ·have ak:=m' (le' F.ks.blk (F.ks.am i hi) (F.ks.shs i hi) (F.ks.are i hi) (z:Int));have aK:=(F.ks.shs i hi).sorted;have J:=tM' ao F.ks.are hi z;have bc:=sM' aQ ao F.ks.are hi aK;obtain⟨au,aL⟩:=exq ((al' (R i) (z:Int)).isSome);have ak:=fun y (Q:Below V.heap.size V y)=>m' (le' (F.far (C' (E:=fun _=>False) Q) (fun _ _ h=>h)).ks.blk (F.ks.am i hi) ((F.far (C' (E:=fun _=>False) Q) (fun _ _ h=>h)).ks.shs i hi) (F.ks.are i hi) (z:Int));rw[<-aL]at ak J;have av:=fun ab (bE:Below V.heap.size V ab)=>m' (wD' ((F.far (C' (E:=fun _=>False) bE) (fun _ _ h=>h)).shAt hi) bc z b);have aC:=(d' G).lt;have bF:=m' F;have aM:=m' (z12 aK (z12 J aL));have bd:=m' aa;clear F aL J aK bc aa;go_upto_region 5 with fail;refine ae'
     [Ei d,Eb true,Eb true,Ei d,Eb true,Eb true,Eb true,
      Ep r (2+i * 3),Ep r (2+i * 3),Ep r (2+i * 3+1),Ep p.heap.size 3,Ei z,Eb au,Eb (!au),Eb (!au),Eb (!au)]
     [[6],[1032],[2033],[6,3034],[4035,3034],[3034,5036],[6037],[5,7038],[8039,7038],[9040,7038],[3,7038],[11042,7038],[10041,12043,7038],[13044,7038],[7038,14045],[15046]] [33,34,35,36,37,38,39,40,41,42,43,44,45,46,47,32] [31,16,9] ?_ ?_
    ·refine⟨?_,?_,?_,?_,?_,?_,?_,?_,?_,?_,?_,?_,?_,?_,?_,?_,trivial⟩;all_goals
      intro a' ab H O;have z3:=(H.cell (p:=⟨p.heap.size,3,none⟩) aC).trans M;have be:=m' (d' (ak ab H));clear H ak av;simp[I']at O;try (have bG:a'.tmps[34]? =some (.bool true):=dR' (by first|exact O|exact O.1|exact O.2|exact O.2.2))
      try (have bH:a'.tmps[38]? =some (.bool true):=dR' (by first|exact O|exact O.1|exact O.2|exact O.2.2))
      try go_simp
      try simp only[bG,if_true]
      try simp only[bH,if_true]
      try go_simp
      try exact z11 _ _
     all_goals first
      |exact⟨rfl,z11 _ _⟩
      |exact⟨_,rfl,z11 _ _,rfl⟩
      |(refine(d' be).mono ?_;rintro e bI ⟨rfl,hb⟩;exact⟨rfl,hb⟩)
      |(refine(d' be).mono ?_;rintro e bI ⟨rfl,hb⟩;exact⟨_,rfl,hb,rfl⟩)
      |skip
    ·intro f ab H Y;simp only[ag']at Y;have bJ:=Y.2.2.2.2.2.2.2.2.2.2.2.2.2.2.2.1;clear Y;simp only[O',bJ];have z3:=(H.cell (p:=⟨p.heap.size,3,none⟩) aC).trans M;have z4:=(H.cell (p:=⟨p.heap.size,4,none⟩) aC).trans ay;have ax:=m' H;have bf:=d' (av ab H);cases au
     ·have I:bn' x i z b={x with held:=x.held++[(i,z,b)]}:=(by obtain⟨bg,bh,_⟩:=d' ad;have J:=(d' aM).2.1;rw[bn',if_pos ⟨by omega,by omega,by cases h:x.ix i z with|none=>rfl|some v=>rw[h]at J;cases J⟩]);have aD:x.ix i z=none:=(by have J:=(d' aM).2.1;cases h:x.ix i z with|none=>rfl|some v=>rw[h]at J;cases J);have aN:=m' (z12 I aD);have bi:=fun y (Q:Below ab.heap.size ab y)=>m' (d' (av y (H.trans (Q.mono H.size))));simp only[eJ']at bi;have bj:p.heap.size < ab.heap.size:=z20 aC H.size;clear H bf I aD ak av ap M ay;go_upto_region 6 with fail;refine ab'
       [Ep r (2+i * 3),Ep r (2+i * 3),Ep r (2+i * 3+1),Ep p.heap.size 3,Ei z,Ep p.heap.size 4,Ev (.string b),Ev (.agg #[.string b]),Et]
       [[5],[1047],[2048],[3],[4050],[3],[6052],[7053],[3049,5051,8054]] [48,49,50,51,52,53,54,55,56] [47,9]
       8 _ rfl rfl ?_ ?_
      ·refine⟨?_,?_,?_,?_,?_,?_,?_,?_,trivial⟩;all_goals
        intro a' y hb O;have M:=(hb.cell (p:=⟨p.heap.size,3,none⟩) bj).trans z3;have ay:=(hb.cell (p:=⟨p.heap.size,4,none⟩) bj).trans z4;clear hb;simp[I']at O;go_simp;try exact⟨_,rfl,z11 _ _,rfl⟩
        try exact z11 _ _
      ·intro f2 y aO Y;simp only[ag',List.take]at Y;have g2:=Y.2.2.1;have bK:=Y.2.2.2.2.1;have bL:=Y.2.2.2.2.2.2.2.1;clear Y;have bM:=m' (d' (bi y aO));have bk:=m' aO;clear aO;simp only[O',g2,bK,bL];go_simp;refine(d' bM).mono ?_;rintro Z u ⟨rfl,hst⟩;have bN:=m' hst;clear hst;go_wp2;go_ret;refine⟨0,rfl,?_⟩;obtain⟨I,aD⟩:=d' aN;rw[d' bd,I,d' aj];have bO:Below p.heap.size p y:=(d' G).bel.trans (((d' ax).trans ((d' bk).mono (d' ax).size)).mono (d' G).bel.size);have bP:Below V.heap.size V y:=(d' ax).trans ((d' bk).mono (d' ax).size);have bl:=(d' bF).far (C' (E:=fun _=>False) bP) (fun _ _ h=>h);refine dv' (Xo.behind ⟨_,P,nx' bl hi (d' bN) ?_,hs,uP' ao i z b hi aD⟩ bO);intro aU aP;rcases hY' aP with rfl|aP
       ·exact⟨b,rfl⟩
       ·exact bl.ks.are i hi aU aP
     ·have I:bn' x i z b=x:=(by have J:=(d' aM).2.1;rw[bn',if_neg (fun h=>by rw[h.2.2]at J;cases J)]);have aN:=m' I;clear H bf I ak av;go_wp2;go_ret;exact⟨0,rfl,by rw[d' bd,d' aN,d' aj];exact dv' ((d' aA).below (d' ax))⟩
   ·have I:bn' x i z b=x:=(by obtain⟨bg,bh,_⟩:=d' ad;rw[bn',if_neg (fun h=>by omega)]);rw[I]at aa;have aq:=m' aa;clear F I aa;go_upto_region 5 with fail;go_quiet (fail);go_wp2;go_ret;exact⟨0,rfl,by rw[d' aq,d' aj];exact dv' ((d' aA).below (z41 (z11 _ _) _))⟩
  ·have I:bn' x i z b=x:=(by obtain⟨bg,bh,_⟩:=d' ad;rw[bn',if_neg (fun h=>by omega)]);rw[I]at aa;have aq:=m' aa;clear F I aa;go_upto_region 5 with fail;go_quiet (fail);go_wp2;go_ret;exact⟨0,rfl,by rw[d' aq,d' aj];exact dv' ((d' aA).below (z41 (z11 _ _) _))⟩
def hiW (a:Mq.Sk) (e:Nat):Nat:=if a.Qa < e then 1 else 0
theorem vp' (z:Jt p r x.Qa x.Qc R P L) (hs:Alv w a q P x.Qa x.Qc) (bj:a+1000 < 18446744073709551616) (aM:eL' x.held R) (e:Nat) (bk:x.Qa<=e) (av:e<=2147483647):
  Calls prog 160 #[D' r, .int .i64 e] p fun V w'=>∃v,V= .returned (.int .i64 v)/\lS' w a q p w' r x (aV' x e) 0 [] (hiW x e) L v:=by
 have c1:p.cell? ⟨r,1,none⟩=some (.int .i64 x.Qa):=by rw[y' z.ks.blk,z.ks.a1]
 by_cases aN:e=x.Qa
 ·subst aN;have aO:=m' (du' z hs aM);rw[oA',show hiW x x.Qa=0 by unfold hiW;rw[if_neg (by omega)]];have hb:((x.Qa:Int) == (x.Qa:Int))=true:=by simp
  clear z;unfold D';go_enter func160,ntmps160;go_wp2;go_ret;exact⟨0,rfl,dv' (d' aO)⟩
 rw[show hiW x e=1 by unfold hiW;rw[if_pos (by omega)]];obtain⟨Y,Z⟩:=exq ((P.Qr e 0 0).1);have ax:aV' x e={x with Qa:=e,held:=[]}:=by unfold aV' cy';rw[if_pos (by omega)]
 rw[ax];have ay:=fun y (aP:Vf y L.s L.dp P L.dlv L.duv)=>m' (dr' y L.s L.dp P L.dlv L.duv aP e 0 0 (by omega) (by omega) (by omega));obtain⟨F,hst⟩:=exq ((P.Qr e 0 0).2);rw[<-Z,<-hst]at ay;have az:(q≠1/\Y=0/\Alv w (a+1) (q - 1) F e x.Qc)\/(q=1/\Y=4/\Ded w F x.Qa x.Qc):=by
  by_cases h1:q=1
  ·subst h1;have:=yE' hs e 0 0;rw[<-Z,<-hst]at this;exact .inr ⟨rfl,this⟩
  ·have:=yD' hs (by omega) h1 av;rw[<-Z,<-hst]at this;exact .inl ⟨h1,this⟩
 have aQ:F.dk.bytes.length=7808:=by
  rw[hst];unfold Mq.Stv.Qr Mq.Dk.put;simp only
  split
  ·exact z.len
  ·split
   ·exact z.len
   ·simp only
    have:=z.stt.hd;rw[Mq.Jv (Mq.Jw _ _ (by rw[Mq.Jo];omega)) (by rw[z.len];omega)];exact z.len
 have aR:((e:Int) == (x.Qa:Int))=false:=by simp;omega
 have bl:=z14 z.ks.blk;have H:=m' z;have aS:=fun y=>m' (gB' e y);have ac:=m' az;obtain⟨ep,ad⟩:=exq (x.Qa);have aA:=m' ad;rw[<-ad]at c1 aR H;clear z hst Z az ax ad;unfold D' at *;go_enter func160,ntmps160;go_upto_region 3 with fail;refine af'
  [Ep r 0,Ep r 0,Ep r 0,Ep L.s 0,Ei e,Ev (.agg #[.int .i64 e, .int .i64 0, .int .i64 0]),
   fun v y=>v= .int .i64 Y/\∃I,Vf y L.s L.dp F L.dlv I/\Loc p L.duv I,Ei Y]
  [[0],[1013],[2014],[3015],[1],[5017],[4016,6018],[7019]] [14,15,16,17,18,19,20,6] [5,1,7,7,18]
  [(6,StU L.s L.dp L.dlv L.duv)] ?_ ?_ (hst:=by repeat' (first|exact V' _|exact(fun _ _ _ h hb=>⟨h.1,h.2.imp fun _ h=>⟨h.1.far (C' (E:=fun _=>False) hb) (fun _ _ h=>h),h.2⟩⟩)|exact trivial|apply z12))
 ·refine⟨?_,?_,?_,?_,?_,?_,?_,?_,trivial⟩;all_goals
   intro a' G hb ah;simp[I']at ah
  iterate 3
   ·clear hb;go_simp;exact⟨_,rfl,Far.refl _ _,rfl⟩
  ·have z0:G.cell? ⟨r,0,none⟩=some (.pointer (some ⟨L.s,0,none⟩)):=(by have:=hb.blk (d' H).ks.blk (ay' (by exact fun h=>(d' H).sep r (.inl rfl) h));rw[y' this,(d' H).ks.a0];rfl);clear hb;go_simp;exact⟨_,rfl,Far.refl _ _,rfl⟩
  ·clear hb;go_simp;exact⟨_,rfl,Far.refl _ _,rfl⟩
  ·have ai:=m' (d' (aS G));clear hb;go_simp;refine(d' ai).mono ?_;rintro V aT ⟨rfl,aU⟩;exact⟨_,rfl,C' aU,rfl⟩
  ·have aj:Below p.heap.size p G:=es' hb;have ai:=m' (d' (ay G ((d' H).stt.far (C' (E:=fun _=>False) aj) (fun _ _ h=>h))));have aV:=aj.size;clear hb aj;go_simp;refine(d' ai).mono ?_;rintro V aT ⟨rfl,I,k1,k2,k3⟩;exact⟨_,rfl,an' (.head _) k3,rfl,I,k1,bT' k2 aV⟩
  ·clear hb;obtain⟨ah,_⟩:=ah;go_simp;exact⟨_,rfl,Far.refl _ _,rfl⟩
 ·intro f G hF ak;obtain⟨_,I,k1,k2⟩:=ak.2.2.2.2.2.2.1;have aW:=ak.2.2.2.2.2.2.2.1;have hF:Far (StU L.s L.dp L.dlv L.duv) p G:=dM' hF;have J:Jt G r ep x.Qc R F {L with duv:=I}:=⟨(d' H).ks.far hF (fun k hk h=>(d' H).sep k hk h),k1,(d' H).rl.far hF (fun g ao h=>((d' H).sepr g ao).2 h),aQ⟩;have aB:Xf p G r ep x.Qc R F L:=by
   refine⟨_,J,hF.mono (fun k _ h=> .inr (.inl h)),?_,rfl,rfl⟩;have bm:=hF.size;rintro k (hk|(rfl|rfl|hk|hk)|hk)
   ·exact .inl (.inl hk)
   ·exact .inl (.inr (.inl (.inl rfl)))
   ·exact .inl (.inr (.inl (.inr (.inl rfl))))
   ·exact .inl (.inr (.inl (.inr (.inr (.inl hk)))))
   ·rcases k2 with h|h|⟨g,h,ao⟩
    ·rw[h]at hk;cases hk
    ·exact .inl (.inr (.inl (.inr (.inr (.inr (by rw[<-h];exact hk))))))
    ·rw[h]at hk;cases hk;exact .inr ao
   ·exact .inl (.inr (.inr hk))
  have ap:=m' aB;have aC:G.frozen? ⟨r,1,none⟩=false:=H' (i:=1) J.ks.blk;have aD:G.cell? ⟨r,1,none⟩=some (.int .i64 ep):=by rw[y' J.ks.blk];exact J.ks.a1
  clear ak hF k1 k2 J aB;simp only[O',aW];rcases d' ac with ⟨M,rfl,aE⟩|⟨M,rfl,aF⟩;rotate_left
  ·have aq:=m' (z12 M aF);clear M aF ac aC aD;go_wp2;go_ret;refine⟨4,rfl, .inr ⟨rfl,by rw[(d' aq).1];omega,by rw[(d' aq).1];omega,?_⟩⟩;rw[List.take_nil,en',<-d' aA];exact⟨R,F,d' ap,by rw[d' aA];exact(d' aq).2⟩
  have aG:=m' (z12 M aE);have aH:=m' ((d' ap).trans (fun bn aX=>uQ' aX e av));clear M aE ac ap;go_upto_region 7 with fail;refine G' (fun y=>Xf p y r e x.Qc R F L) (d' aH) ?_;clear aH aC aD;intro y aI;have aJ:=m' aI;clear aI;go_wp2;go_loopw[6,27] (fun _ i wr=>∃j:Nat,j<=3/\i= .int .i64 j/\Xf p wr r e x.Qc (fun t=>if t < j then []else R t) F L) (fun _ i _=>3 - (intOf i).toNat)
  case atStart=>exact⟨0,by omega,rfl,by simpa using d' aJ⟩
  case round=>
   obtain⟨j,hj,rfl,hk⟩:=hrel;clear aJ;by_cases aK:j < 3
   ·obtain⟨bo,au,O,Q,aa,ab⟩:=id hk;have aY:=m' (sG' (au.shAt aK));have bp:(0:Int)<=(j:Int):=(by omega);have bq:(j:Int) < 3:=(by omega);have br:=m' hk;have aZ:=m' au;have ba:=m' (z12 O (z12 Q (z12 aa ab)));clear hk au O Q aa ab;go_wp2_with (go_at_call 203;refine(d' aY).mono ?_;rintro V y ⟨rfl,hst⟩);have bb:=nx' (d' aZ) aK hst (by intro bt bc;cases bc);obtain⟨O,Q,aa,ab⟩:=d' ba;have h2:Xf p y r e x.Qc (fun t=>if t < j+1 then []else R t) F L:=by
     obtain⟨c2,aL,bd,be,bf,bg⟩:=bb;have bh:=O.size;have bi:(fun t=>if t=j then([]:List (Nat×Value))else(fun t=>if t < j then []else R t) t)=fun t=>if t < j+1 then []else R t:=by
      funext t;by_cases h1:t=j
      ·simp[h1]
      ·by_cases h2:t < j
       ·simp[h1,h2,show t < j+1 by omega]
       ·simp[h1,h2,show ¬t < j+1 by omega]
     rw[bi]at aL;refine⟨c2,aL,O.trans bd (fun k hk hu=>(Q k hu).elim id (fun h=>by omega)),fun k hk=>?_,bf.trans aa,bg.trans ab⟩;rcases be k hk with h|h
     ·exact Q k h
     ·exact .inr (z26 bh h)
    exact⟨⟨j+1,by omega,by go_num,h2⟩,by simp[intOf];omega⟩
   ·obtain rfl:j=3:=(by omega);go_wp2;go_ret;exact⟨0,rfl, .inl ⟨rfl,by have:=(d' aG).1;omega,_,F,hk,(d' aG).2,oB'⟩⟩
section
variable {op ct n:Nat} {w:World} {p:Nat} {a:Mq.Sk} {sh:Nat->List (Nat×Value)} {st:Mq.Stv} {c:Sv}
theorem yF' (z:Jt w p a.Qa a.Qc sh st c) (hs:Alv op ct n st a.Qa a.Qc) (F:ct+1000 < 18446744073709551616) (G:Jh a) (H:bN' a) (I:eL' a.held sh) (e:Int) (i q:Nat) (hi:i < 3) (J:q<=2147483647) (b:z10) (hb:b.size<=20) (hn:n=0\/(a.Qp 3 a.Qa i q b).length < n):
  Calls prog 163 #[D' p, .agg #[.int .i64 3, .int .i64 e, .int .i64 i, .int .i64 q, .string b]] w fun r w'=>r= .returned (.int .i64 0)/\Xo op (ct+(a.Qp 3 a.Qa i q b).length) (n - (a.Qp 3 a.Qa i q b).length) w w' p (as' a 3 a.Qa i q b) c:=by
 refine(xt' z hs F G H I e i q hi J b hb).mono ?_;rintro r w' ⟨v,rfl,⟨rfl,_,h⟩|⟨_,h1,h2,_⟩⟩
 ·exact⟨rfl,h⟩
 ·omega
theorem xu' (z:Jt w p a.Qa a.Qc sh st c) (hs:Alv op ct n st a.Qa a.Qc) (F:ct+1000 < 18446744073709551616) (G:eL' a.held sh) (e:Nat) (H:a.Qa<=e) (I:e<=2147483647) (hn:n=0\/hiW a e < n):
  Calls prog 160 #[D' p, .int .i64 e] w fun r w'=>r= .returned (.int .i64 0)/\Xo op (ct+hiW a e) (n - hiW a e) w w' p (aV' a e) c:=by
 refine(vp' z hs F G e H I).mono ?_;rintro r w' ⟨v,rfl,⟨rfl,_,h⟩|⟨_,h1,h2,_⟩⟩
 ·exact⟨rfl,h⟩
 ·omega
end
theorem mW' (M:Jt p r x.Qa x.Qc R P L) (hs:Alv w a q P x.Qa x.Qc) (aC:a+1000 < 18446744073709551616) (be:Jh x) (bf:bN' x) (bg:eL' x.held R) (i F:Nat) (hi:i < 3) (ah:F<=2147483647) (b:z10) (hb:b.size<=20) (aD:q=0\/(x.Qp 3 x.Qa i F b).length < q):
  Calls prog 110 #[D' r, .agg #[.int .i64 3, .int .i64 x.Qa, .int .i64 i, .int .i64 F, .string b]] p fun ai z=>
   ai= .returned (.tuple #[.agg #[.int .i64 4, .int .i64 x.Qa, .int .i64 i, .int .i64 ((as' x 3 x.Qa i F b).Qc i).length, .string (Jj (as' x 3 x.Qa i F b) i ((as' x 3 x.Qa i F b).Qc i).length)], .int .i64 0])/\Xo w (a+(x.Qp 3 x.Qa i F b).length) (q - (x.Qp 3 x.Qa i F b).length) p z r (as' x 3 x.Qa i F b) L:=by
 obtain⟨bI,aE⟩:=exq (q - (x.Qp 3 x.Qa i F b).length);obtain⟨bJ,aF⟩:=exq (a+(x.Qp 3 x.Qa i F b).length);have c1:p.cell? ⟨r,1,none⟩=some (.int .i64 x.Qa):=by rw[y' M.ks.blk,M.ks.a1]
 have bh:=z14 M.ks.blk;have Z:=fun y (bi:Below p.heap.size p y)=>m' (yF' (M.far (C' (E:=fun _=>False) bi) (fun _ _ h=>h)) hs aC be bf bg x.Qa i F hi ah b hb aD);rw[<-aE,<-aF]at Z ⊢;clear aE aF aD;have aj:(as' x 3 x.Qa i F b).Qa=x.Qa:=by
  unfold as';split
  ·exact dP' _ _ _ _
  ·rfl
 obtain⟨a2,aG⟩:=exq (as' x 3 x.Qa i F b);rw[<-aG]at Z aj ⊢;obtain⟨ep,aH⟩:=exq (x.Qa);rw[<-aH]at c1 Z aj ⊢;have bK:((ep:Int) != (ep:Int))=false:=by simp
 have bj:=m' M.lt;have aI:=m' (if' p #[.int .i64 3, .int .i64 ep, .int .i64 i, .int .i64 F, .string b] zFr);have bL:(0:Int)<=(i:Int):=by omega
 have bM:(i:Int) < 3:=by omega
 have bk:=m' aj;clear hs aC;obtain⟨q,hn⟩:=exq ((a2.Qc i).length);rw[<-hn];obtain⟨aa,O⟩:=exq (Jj a2 i q);rw[<-O];have bl:=m' (z12 hn O);clear M aH aG aj hn O;unfold D' at *;go_enter func110,ntmps110;go_upto_region 1 with fail;refine G' (Ym p #[.int .i64 3, .int .i64 ep, .int .i64 i, .int .i64 F, .string b] zFr) (d' aI) ?_;clear aI;intro bN X;have ab:=y' (i:=1) X.box;simp at ab;have aJ:=(X.bel.cell (p:=⟨r,1,none⟩) bh).trans c1;have I:=m' X;clear X;go_quiet (fail);go_upto_region 3 with fail;refine G' (Ym p #[.int .i64 3, .int .i64 ep, .int .i64 i, .int .i64 F, .string b] zFr) ((d' I).drewN _) ?_;clear I ab aJ;intro av X;obtain⟨aK,ab,Q,aL,aM⟩:=dK' X.box;simp at aK ab Q aL aM;have aN:=m' (d' (Z av X.bel));have I:=m' X;clear X Z;go_upto_region 6 with (go_at_call 163;refine(d' aN).mono ?_;rintro ai y ⟨rfl,hk⟩);obtain⟨ax,ay,⟨c2,aO,ak,ao,t1,t2⟩,ap,aq⟩:=hk;have aP:∀k,p.heap.size<=k->¬PkU r L k:=fun k hk h=>by have:=(d' bj) k h;omega
 have bO:=(d' I).lt;refine G' (fun z=>Jt z r a2.Qa a2.Qc ax ay c2/\Far (PkU r L) av z/\z.heap[p.heap.size]? =some (.cells #[.int .i64 3, .int .i64 ep, .int .i64 i, .int .i64 F, .string b] 41 (0,0))/\z.heap[p.heap.size+1]? =some (.cells zFr 41 (0,0))) ⟨aO,ak,ak.blk (d' I).box (aP _ (z13 _)),ak.blk (d' I).res (aP _ (by omega))⟩ ?_;clear aK ab Q aL aM aO ak aN;rintro bm ⟨aQ,aR,J,ac⟩;have Q:bm.cell? ⟨p.heap.size,2,none⟩=some (.int .i64 i):=y' (i:=2) J;have aS:=m' aQ;have aT:=m' aR;have V:=m' (z12 J ac);have aU:=m' (z12 ao (z12 t1 (z12 t2 (z12 ap aq))));clear aQ aR J ac ao t1 t2 ap aq;go_quiet (fail);go_upto_region 7 with fail;refine G' (fun z=>Jt z r a2.Qa a2.Qc ax ay c2/\Far (PkU r L) av z/\z.heap[p.heap.size]? =some (.cells #[.int .i64 3, .int .i64 ep, .int .i64 i, .int .i64 F, .string b] 41 (0,0))/\z.heap[p.heap.size+1]? =some (.cells zFr 41 (0,0))) ⟨(d' aS).far (aw' (fun _=>False) _ _) (fun _ _ h=>h),(d' aT).trans (aw' (fun _=>False) _ _) (fun _ _ h=>h.elim),(d' V).1,(d' V).2⟩ ?_;clear Q aS aT V;rintro H ⟨G,aV,J,ac⟩;obtain⟨bn,cap,_,aW⟩:=G.ks.logc hi;have bo:=G.ks.Vb hi;obtain⟨hn,O⟩:=d' bl;rw[<-hn]at aW bo;have aX:=(d' aU).2.2.2.2;have az:=fun z (aA:Below H.heap.size H z)=>m' (qq' ((G.far (C' (E:=fun _=>False) aA) (fun _ _ h=>h)).shAt hi) (G.ks.are i hi) q (by omega));rw[mI' aX G.ks.are hi q,<-O]at az;have aY:=fun z (aA:Below H.heap.size H z)=>m' (bG' z r (2+i * 3) q cap bn ((aA.cell (p:=⟨r,2+i * 3,none⟩) (z14 G.ks.blk)).trans aW));have bp:=z14 G.ks.blk;have bq:H.cell? ⟨r,1,none⟩=some (.int .i64 ep):=by rw[y' G.ks.blk,G.ks.a1,d' bk]
 have Q:H.cell? ⟨p.heap.size,2,none⟩=some (.int .i64 i):=y' (i:=2) J;have br:=z14 J;have aZ:=m' G;have bt:=m' aV;have V:=m' ac;clear G aV J ac hn O aX;have bP:r≠p.heap.size+1:=by omega
 refine af'
  [Ep r 0,Ep r 0,Ep r 1,Ei ep,Ep p.heap.size 2,Ei i,
   Ep r (2+i * 3),Ei q,Ep r (2+i * 3),Ei q,Ep r (2+i * 3),Ep r (2+i * 3),Ep r (2+i * 3+1),
   Ev (.func (.func 165) #[.pointer (some ⟨r,2+i * 3+1,none⟩)] #[]),Ev (.string aa),Ev (.agg #[.int .i64 4, .int .i64 ep, .int .i64 i, .int .i64 q, .string aa]),
   fun _ z=>z.heap[p.heap.size+1]? =some (.cells #[.int .i64 4, .int .i64 ep, .int .i64 i, .int .i64 q, .string aa] 41 (0,0)),Ei 0]
  [[0],[1036],[2037],[3038],[3],[5040],[7],[7042],[7],[9044],[7],[11046],[12047],[13048],[10045,14049],[4039,6041,8043,15050],[4,16051],[]] [37,38,39,40,41,42,43,44,45,46,47,48,49,50,51,52,0,6] [5,1,30,16]
  [(16,fun k=>k=p.heap.size+1)] ?_ ?_ (hst:=by repeat' (first|exact V' _|exact ca' _ _|exact trivial|apply z12))
 ·refine⟨?_,?_,?_,?_,?_,?_,?_,?_,?_,?_,?_,?_,?_,?_,?_,?_,?_,?_,trivial⟩
  case refine_17=>intro a' z hb Y;simp[I']at Y;have au:=hb.blk (d' V) bD';clear hb;rw[if_pos (by rfl)];refine iH' 41 (.tmp 4) (.tmp 51) rfl (p.heap.size+1) #[.int .i64 4, .int .i64 ep, .int .i64 i, .int .i64 q, .string aa] (by simp[Act.eval,Y]) (by simp[Act.eval,Y]) 41 _ au (by rw[gQ'];rfl) rfl (by rw[z49];intro u hu;simp at hu;rcases hu with rfl|rfl|rfl|rfl|rfl <;> rfl) ?_;exact⟨_,rfl,an' (.head _) (bp' _ _ _),z92 _ _ _ _ _ _ au⟩
  case refine_18=>intro a' z hb Y;clear hb;go_simp;exact⟨_,rfl,Far.refl _ _,rfl⟩
  all_goals
   intro a' z hb Y;have ad:Below H.heap.size H z:=eY' hb (by intro F ah;simp at ah;subst ah;show bJ' _ 16 _=true;decide+kernel);have ba:=(ad.cell (p:=⟨p.heap.size,2,none⟩) br).trans Q;have aJ:=(ad.cell (p:=⟨r,1,none⟩) bp).trans bq;have bu:=m' (d' (az z ad));have bw:=m' (d' (aY z ad));clear hb ad az aY;simp[I']at Y;go_simp;first
    |exact⟨_,rfl,Far.refl _ _,rfl⟩
    |(refine(d' bw).mono ?_;rintro ai ba ⟨rfl,rfl⟩;exact⟨_,rfl,Far.refl _ _,rfl⟩)
    |(refine(d' bu).mono ?_;rintro ai ba ⟨rfl,bz⟩;exact⟨_,rfl,C' bz,rfl⟩)
    |skip
 ·intro f z hF aB;have bb:=aB.2.2.2.2.2.2.2.2.2.2.2.2.2.2.2.2.1;have bA:=aB.2.2.2.2.2.2.2.2.2.2.2.2.2.2.2.2.2.1;obtain⟨au,bB,bC,bD,bE⟩:=dn' bb;have hF:Far (fun k=>k=p.heap.size+1) H z:=dM' hF;have bF:=m' hF;clear aB hF bb;simp only[O',bA];go_simp;go_wp2;refine z50 (v:= .tuple #[.agg #[.int .i64 4, .int .i64 ep, .int .i64 i, .int .i64 q, .string aa], .int .i64 0]) (by simp[results,results110,go_sem,au,bB,bC,bD,bE]) rfl ⟨rfl,?_⟩;obtain⟨ao,t1,t2,ap,aq⟩:=d' aU;have bc:=(d' I).bel;have bd:=d' bF;have bG:¬PkU r c2 (p.heap.size+1):=by have bH:=d' V;exact dT' (d' aZ) bH (by decide) (by decide) (by decide) (by decide) (by decide) (by decide) (by decide) (by decide)
  refine⟨ax,ay,⟨c2,(d' aZ).far bd (fun k hk e=>bG (by rw[<-e];exact hk)),?_,fun k hk=>(ao k hk).imp id (fun h=>z26 bc.size h),t1,t2⟩,ap,aq⟩;exact((C' (E:=PkU r L) bc).trans (d' bt) (fun _ _ h=>h)).trans bd (fun k hk e=>by omega)
theorem lT' (I:Jt p r x.Qa x.Qc R P L) (hs:Alv w a q P x.Qa x.Qc) (aU:a+1000 < 18446744073709551616) (bu:eL' x.held R) (e:Nat) (s ab:Int) (b:z10) (aV:x.Qa<=e) (bw:e<=2147483647) (aW:q=0\/hiW x e < q):
  Calls prog 109 #[D' r, .agg #[.int .i64 1, .int .i64 e, .int .i64 s, .int .i64 ab, .string b]] p fun M z=>
   M= .returned (.tuple #[.agg #[.int .i64 2, .int .i64 e, .int .i64 0, .int .i64 0, .string (wa' x)], .int .i64 0])/\Xo w (a+hiW x e) (q - hiW x e) p z r (aV' x e) L:=by
 obtain⟨cb,aX⟩:=exq (q - hiW x e);obtain⟨cc,aY⟩:=exq (a+hiW x e);have c1:p.cell? ⟨r,1,none⟩=some (.int .i64 x.Qa):=by rw[y' I.ks.blk,I.ks.a1]
 have bz:=z14 I.ks.blk;have au:=fun y (bA:Below p.heap.size p y)=>m' (xu' (I.far (C' (E:=fun _=>False) bA) (fun _ _ h=>h)) hs aU bu e aV bw aW);rw[<-aX,<-aY]at au ⊢;clear aX aY aW hs aU;have aL:(aV' x e).Qc=x.Qc:=rfl;have aM:(aV' x e).Qa=e:=rfl;obtain⟨a2,aZ⟩:=exq (aV' x e);rw[<-aZ]at au aL aM ⊢;have av:=uZ' (x.Qc 0).length (x.Qc 1).length (x.Qc 2).length;have bB:=I.ks.Vb (i:=0) (by omega);have bC:=I.ks.Vb (i:=1) (by omega);have bD:=I.ks.Vb (i:=2) (by omega);obtain⟨n0,ax⟩:=exq ((x.Qc 0).length);obtain⟨n1,ay⟩:=exq ((x.Qc 1).length);obtain⟨n2,az⟩:=exq ((x.Qc 2).length);obtain⟨O,aN⟩:=exq (wa' x);have aO:O=bh' (x.Qc 0).length++bh' (x.Qc 1).length++bh' (x.Qc 2).length:=aN;rw[<-aN];rw[<-ax,<-ay,<-az]at aO av;rw[<-aO]at av;rw[<-ax]at bB;rw[<-ay]at bC;rw[<-az]at bD;have ba:=fun y=>m' (jY' n0 n1 n2 (by omega) (by omega) (by omega) y);rw[av]at ba;have bE:=m' (z12 ax (z12 ay (z12 az (z12 aL aM))));obtain⟨ep,bb⟩:=exq (x.Qa);rw[<-bb]at c1 aV;have cd:¬ (e:Int) < (ep:Int):=by omega
 have bF:=m' I.lt;have bc:=m' (if' p #[.int .i64 1, .int .i64 e, .int .i64 s, .int .i64 ab, .string b] zFr);clear I bb aZ aL aM ax ay az aN aO av;unfold D' at *;go_enter func109,ntmps109;go_upto_region 1 with fail;refine G' (Ym p #[.int .i64 1, .int .i64 e, .int .i64 s, .int .i64 ab, .string b] zFr) (d' bc) ?_;clear bc;intro ce X;have ac:=y' (i:=1) X.box;simp at ac;have bd:=(X.bel.cell (p:=⟨r,1,none⟩) bz).trans c1;have Q:=m' X;clear X;go_quiet (fail);go_upto_region 3 with fail;refine G' (Ym p #[.int .i64 1, .int .i64 e, .int .i64 s, .int .i64 ab, .string b] zFr) ((d' Q).drewN _) ?_;clear Q ac bd;intro ad X;have ac:=y' (i:=1) X.box;simp at ac;have be:=m' (d' (au ad X.bel));have Q:=m' X;clear X au;go_upto_region 6 with (go_at_call 160;refine(d' be).mono ?_;rintro M y ⟨rfl,hk⟩);obtain⟨aA,aB,⟨c2,bf,aC,aD,t1,t2⟩,aE,aF⟩:=hk;have bG:∀k,p.heap.size<=k->¬PkU r L k:=fun k hk h=>by have:=(d' bF) k h;omega
 have cf:=(d' Q).lt;have bH:=aC.size;obtain⟨F,aP⟩:=exq (y.heap.size);have bg:=m' (aC.blk (d' Q).res (bG _ (by omega)));have bh:=m' bf;have bi:=m' aC;have bI:=m' (z12 aD (z12 t1 (z12 t2 (z12 aE aF))));clear be bf aC aD t1 t2 aE aF ac;go_upto_region 7 with fail;rw[<-aP];refine G' (fun z=>Jt z r a2.Qa a2.Qc aA aB c2/\Far (PkU r L) ad z/\z.heap[p.heap.size+1]? =some (.cells zFr 41 (0,0))/\z.heap[F]? =some (.cells #[.int .i64 0, .int .i64 0, .int .i64 0] 98 (0,0))) ?_ ?_
 ·have hb:∀o,Below y.heap.size y (y.alloc o):=fun o=>(z11 _ _).alloc (z13 _) o;refine⟨(d' bh).far (C' (E:=fun _=>False) (hb _)) (fun _ _ h=>h),(d' bi).trans (C' (E:=fun _=>False) (hb _)) (fun _ _ h=>h.elim),((hb _).block _ (by omega)).trans (d' bg),by rw[aP];exact z19 _ _⟩
 have cg:p.heap.size+1 < F:=by omega
 have ch:ad.heap.size<=F:=by omega
 clear bg bh bi aP bH;rintro ci ⟨aG,aH,aI,aJ⟩;have bj:=m' (z12 aG (z12 aH (z12 aI aJ)));clear aG aH aI aJ;go_wp2;go_loopw[8,29] (fun _ i wr=>∃j:Nat,j<=3/\i= .int .i64 j/\Jt wr r a2.Qa a2.Qc aA aB c2/\Far (PkU r L) ad wr/\wr.heap[p.heap.size+1]? =some (.cells zFr 41 (0,0))/\wr.heap[F]? =some (.cells #[.int .i64 (if 0 < j then n0 else 0:Nat), .int .i64 (if 1 < j then n1 else 0:Nat), .int .i64 (if 2 < j then n2 else 0:Nat)] 98 (0,0))) (fun _ i _=>3 - (intOf i).toNat)
 case atStart=>obtain⟨aG,aH,aI,aJ⟩:=d' bj;exact⟨0,by omega,rfl,aG,aH,aI,by simpa using aJ⟩
 case round=>
  obtain⟨j,hj,rfl,K,V,Y,G⟩:=hrel;clear bj;have bJ:¬PkU r c2 F:=dT' K G (by decide) (by decide) (by decide) (by decide) (by decide) (by decide) (by decide) (by decide);obtain⟨ah,ai,aj,J,ak⟩:=d' bE;obtain⟨bK,bL,_,c0⟩:=K.ks.logc (i:=0) (by omega);obtain⟨bM,bN,_,Z⟩:=K.ks.logc (i:=1) (by omega);obtain⟨bO,bP,_,aa⟩:=K.ks.logc (i:=2) (by omega);rw[J,<-ah]at c0;rw[J,<-ai]at Z;rw[J,<-aj]at aa;have bk:=m' (bG' wr r 2 n0 bL bK c0);have bl:=m' (bG' wr r 5 n1 bN bM Z);have bm:=m' (bG' wr r 8 n2 bP bO aa);have ao:∀ (k:Nat) (v:Value),Jt (wr.setCell ⟨F,k,none⟩ v) r a2.Qa a2.Qc aA aB c2/\Far (PkU r L) ad (wr.setCell ⟨F,k,none⟩ v)/\(wr.setCell ⟨F,k,none⟩ v).heap[p.heap.size+1]? =some (.cells zFr 41 (0,0)):=fun k v=>by have H:=Q' wr F k v;exact⟨K.far H (fun k hk e=>bJ (by rw[<-e];exact hk)),V.trans H (fun k hk e=>by omega),H.blk Y (by omega)⟩
  have aQ:=m' ao;have ap:=fun k v=>aa' (j:=k) (v:=v) G;obtain⟨g0,g1,g2⟩:=cC' G;have f0:=H' (i:=0) G;have f1:=H' (i:=1) G;have f2:=H' (i:=2) G;have aR:=m' ap;have bn:=m' K;have bQ:=m' V;have bo:=m' Y;have cj:=m' G;rcases(show j=0\/j=1\/j=2\/j=3 by omega)with rfl|rfl|rfl|rfl
  ·simp at g0;clear K V Y G ao ap c0 Z aa ah ai aj J ak g1 g2;go_wp2_with (go_at_call 161;refine(d' bk).mono ?_;rintro M y ⟨rfl,rfl⟩);refine⟨⟨1,by omega,by go_num,?_⟩,by simp[intOf]⟩;obtain⟨h1,h2,h3⟩:=(d' aQ) 0 (.int .i64 n0);exact⟨h1,h2,h3,by simpa using (d' aR) 0 (.int .i64 n0)⟩
  ·simp at g1;clear K V Y G ao ap c0 Z aa ah ai aj J ak g0 g2;go_wp2_with (go_at_call 161;refine(d' bl).mono ?_;rintro M y ⟨rfl,rfl⟩);refine⟨⟨2,by omega,by go_num,?_⟩,by simp[intOf]⟩;obtain⟨h1,h2,h3⟩:=(d' aQ) 1 (.int .i64 n1);exact⟨h1,h2,h3,by simpa using (d' aR) 1 (.int .i64 n1)⟩
  ·simp at g2;clear K V Y G ao ap c0 Z aa ah ai aj J ak g0 g1;go_wp2_with (go_at_call 161;refine(d' bm).mono ?_;rintro M y ⟨rfl,rfl⟩);refine⟨⟨3,by omega,by go_num,?_⟩,by simp[intOf]⟩;obtain⟨h1,h2,h3⟩:=(d' aQ) 2 (.int .i64 n2);exact⟨h1,h2,h3,by simpa using (d' aR) 2 (.int .i64 n2)⟩
  ·simp at g0 g1 g2;have bR:wr.cell? ⟨r,1,none⟩=some (.int .i64 e):=by rw[y' K.ks.blk,K.ks.a1,ak]
   have bS:=z14 K.ks.blk;have aS:=z14 G;clear K V Y G ao ap c0 Z aa ah ai aj J ak bk bl bm;go_upto_region 12 with fail;refine af'
    [Ep r 0,Ep r 0,Ep r 1,Ei e,Ev (.agg #[.int .i64 n0, .int .i64 n1, .int .i64 n2]),Ev (.string O),Ev (.agg #[.int .i64 2, .int .i64 e, .int .i64 0, .int .i64 0, .string O]),
     fun _ z=>z.heap[p.heap.size+1]? =some (.cells #[.int .i64 2, .int .i64 e, .int .i64 0, .int .i64 0, .string O] 41 (0,0)),Ei 0]
    [[0],[1041],[2042],[3043],[7],[5045],[4044,6046],[4,7047],[]] [42,43,44,45,46,47,48,0,6] [5,1,35,7]
    [(7,fun k=>k=p.heap.size+1)] ?_ ?_ (hst:=by repeat' (first|exact V' _|exact ca' _ _|exact trivial|apply z12))
   ·refine⟨?_,?_,?_,?_,?_,?_,?_,?_,?_,trivial⟩
    case refine_8=>intro a' z hb H;simp[I']at H;have aK:=hb.blk (d' bo) bD';clear hb;rw[if_pos (by rfl)];refine iH' 41 (.tmp 4) (.tmp 47) rfl (p.heap.size+1) #[.int .i64 2, .int .i64 e, .int .i64 0, .int .i64 0, .string O] (by simp[Act.eval,H]) (by simp[Act.eval,H]) 41 _ aK (by rw[gQ'];rfl) rfl (by rw[z49];intro u hu;simp at hu;rcases hu with rfl|rfl|rfl|rfl|rfl <;> rfl) ?_;exact⟨_,rfl,an' (.head _) (bp' _ _ _),z92 _ _ _ _ _ _ aK⟩
    case refine_9=>intro a' z hb H;clear hb;go_simp;exact⟨_,rfl,Far.refl _ _,rfl⟩
    all_goals
     intro a' z hb H;have aq:Below wr.heap.size wr z:=eY' hb (by intro ab bp;simp at bp;subst bp;show bJ' _ 7 _=true;decide+kernel);have bd:=(aq.cell (p:=⟨r,1,none⟩) bS).trans bR;have ck:=(aq.cell (p:=⟨F,0,none⟩) aS).trans g0;have cl:=(aq.cell (p:=⟨F,1,none⟩) aS).trans g1;have cm:=(aq.cell (p:=⟨F,2,none⟩) aS).trans g2;clear hb aq;simp[I']at H;go_simp;first
      |exact⟨_,rfl,Far.refl _ _,rfl⟩
      |(refine(d' (ba z)).mono ?_;rintro M cn ⟨rfl,bT⟩;exact⟨_,rfl,C' bT,rfl⟩)
      |skip
   ·intro f z hF aT;have bq:=aT.2.2.2.2.2.2.2.1;have bU:=aT.2.2.2.2.2.2.2.2.1;obtain⟨aK,bV,bW,bX,bY⟩:=dn' bq;have hF:Far (fun k=>k=p.heap.size+1) wr z:=dM' hF;have bZ:=m' hF;clear aT hF bq;simp only[O',bU];go_simp;go_wp2;refine z50 (v:= .tuple #[.agg #[.int .i64 2, .int .i64 e, .int .i64 0, .int .i64 0, .string O], .int .i64 0]) (by simp[results,results109,go_sem,aK,bV,bW,bX,bY]) rfl ⟨rfl,?_⟩;obtain⟨aD,t1,t2,aE,aF⟩:=d' bI;have br:=(d' Q).bel;have bt:=d' bZ;have ca:¬PkU r c2 (p.heap.size+1):=dT' (d' bn) (d' bo) (by decide) (by decide) (by decide) (by decide) (by decide) (by decide) (by decide) (by decide);refine⟨aA,aB,⟨c2,(d' bn).far bt (fun k hk e=>ca (by rw[<-e];exact hk)),?_,fun k hk=>(aD k hk).imp id (fun h=>z26 br.size h),t1,t2⟩,aE,aF⟩;exact((C' (E:=PkU r L) br).trans (d' bQ) (fun _ _ h=>h)).trans bt (fun k hk e=>by omega)
theorem dW' {F:Nat} {w:World} {p:Nat} {R:World->World->Prop} (hF:F=109\/F=110) (au:∀ {u v z:World},R v z->Below u.heap.size u v->R u z) (Y k e s q:Int) (b:z10) (G H I J:Int) (M:z10) (ad:Qb.proper G H I J M=true)
  (ah:∀y,Below w.heap.size w y->Calls prog F #[D' p, .agg #[.int .i64 k, .int .i64 e, .int .i64 s, .int .i64 q, .string b]] y fun r z=>r= .returned (.tuple #[.agg #[.int .i64 G, .int .i64 H, .int .i64 I, .int .i64 J, .string M], .int .i64 0])/\R y z):
  Calls prog 98 #[.agg #[.int .i64 Y, .func (.func F) #[D' p] #[]], .agg #[.int .i64 k, .int .i64 e, .int .i64 s, .int .i64 q, .string b]] w fun r z=>
   ∃lv av x,r= .returned (.tuple #[lv, .int .i64 0])/\R w x/\Below x.heap.size x z/\Qh x.heap.size z lv av [⟨(Qb.bytes G H I J M.data.toList).toArray⟩] (fun _=>False):=by
 have ax:=fun y=>m' (fp' G H I J M y ad);have ai:=fun y ay=>m' (ah y ay);have aj:=m' (cL' w (.cells #[.int .i64 Y, .func (.func F) #[D' p] #[]] 179) (.cells #[.int .i64 k, .int .i64 e, .int .i64 s, .int .i64 q, .string b] 41));clear ah ad;unfold D' at *;go_enter func98,ntmps98;go_upto_region 1 with fail;refine G' (fun x=>x.heap[w.heap.size]? =some (.cells #[.int .i64 Y, .func (.func F) #[.pointer (some ⟨p,0,none⟩)] #[]] 179 (0,0))/\x.heap[w.heap.size+1]? =some (.cells #[.int .i64 k, .int .i64 e, .int .i64 s, .int .i64 q, .string b] 41 (0,0))/\Below w.heap.size w x) (d' aj) ?_;clear aj;rintro x ⟨h0,h1,hb⟩;have ak:=y' (i:=1) h0;obtain⟨z0,O,Q,z3,z4⟩:=dK' h1;simp at ak z0 O Q z3 z4;have Z:=m' (d' (ai x hb));have az:=m' hb;clear h0 h1 hb ai;rcases hF with rfl|rfl;all_goals
  go_upto_region 2 with (first|(go_at_call 109;refine(d' Z).mono ?_;rintro r y ⟨rfl,hk⟩)|(go_at_call 110;refine(d' Z).mono ?_;rintro r y ⟨rfl,hk⟩))
  obtain⟨aA,aa⟩:=exq (y.heap.size);have aB:=m' aa;rw[<-aa];have aC:=m' (au hk (d' az));clear hk aa;refine G' (fun u=>u.heap[aA]? =some (.cells #[.int .i64 G, .int .i64 H, .int .i64 I, .int .i64 J, .string M] 41 (0,0))/\Below y.heap.size y u) ?_ ?_
  ·rw[d' aB];exact⟨z19 _ _,(z11 _ _).alloc (z13 _) _⟩
  clear ak z0 O Q z3 z4 Z;rintro u ⟨ao,ap⟩;obtain⟨z0,O,Q,z3,z4⟩:=dK' ao;simp at z0 O Q z3 z4;have aq:=m' ap;clear ao ap;go_wp2_with (go_at_call 92;refine(d' (ax _)).mono ?_;rintro r v ⟨aG,rfl,V,ab⟩;obtain⟨aH,cap,rfl,_⟩:=V.shape;replace V:=m' V;replace ab:=m' ab);go_ret2;have aD:=(d' ab);have aE:=d' V;have aF:=(d' aq).size;have ac:Below y.heap.size y v:=(d' aq).trans (aD.mono aF);refine⟨_,_,y,rfl,d' aC,ac.alloc ac.size _,gC' (z53 (aE.mono (by omega)) _) ac.size (z19 _ _)⟩
def DlR (R:World->World->Prop) (w z:World) (F:Int) (r:Ending) (G:List z10):Prop:=
 ∃lv H x,r= .returned (.tuple #[lv, .int .i64 F])/\R w x/\Below x.heap.size x z/\Qh x.heap.size z lv H G (fun _=>False)
theorem de' {w:World} {p:Nat} {a:Mq.Sk} {R:World->World->Prop} {Q:Int} {sh:Nat->List (Nat×Value)} {st:Mq.Stv} {c:Sv} (G:Jt w p a.Qa a.Qc sh st c) (hs:st.dk.dead=false) (bs:Value) (av:∀ {u v z:World},R v z->Below u.heap.size u v->R u z) (k e s q:Int) (b:z10) {V:List z10}
  (ax:∀y,Below w.heap.size w y->Calls prog 54 #[bs] y fun r z=>r= .returned (.tuple #[.agg #[.int .i64 k, .int .i64 e, .int .i64 s, .int .i64 q, .string b], .int .i64 0])/\Below y.heap.size y z)
  (ay:k=1->∀y,Below w.heap.size w y->Calls prog 98 #[.agg #[.int .i64 1, .func (.func 109) #[D' p] #[]], .agg #[.int .i64 k, .int .i64 e, .int .i64 s, .int .i64 q, .string b]] y fun r z=>DlR R y z Q r V)
  (az:k=3->∀y,Below w.heap.size w y->Calls prog 98 #[.agg #[.int .i64 3, .func (.func 110) #[D' p] #[]], .agg #[.int .i64 k, .int .i64 e, .int .i64 s, .int .i64 q, .string b]] y fun r z=>DlR R y z Q r V)
  (aA:k≠1->k≠3->Q=0/\V=[]/\R w w):
  Calls prog 56 #[D' p,bs] w fun r z=>DlR R w z Q r V:=by
 have c0:w.cell? ⟨p,0,none⟩=some (D' c.s):=by rw[y' G.ks.blk,G.ks.a0]
 have ad:=aL' G.stt;rw[hs]at ad;have aB:=m' ad;have aC:=m' (ax w (z11 _ _));have Y:=fun h y ah=>m' (ay h y ah);have Z:=fun h y ah=>m' (az h y ah);have aa:=m' aA;obtain⟨H,cap,aD,aY,aZ,aE⟩:=G.rl.shape;obtain⟨g,o,rfl,M⟩:=aE (by omega);have r0:w.cell? ⟨g,o,none⟩=some (.int .i64 1):=by have:=M 0 (by omega);simpa[cI']using this
 have aF:w.cell? ⟨g,o+1,none⟩=some (.func (.func 109) #[D' p] #[]):=by have:=M 1 (by omega);simpa[cI']using this
 have aG:w.cell? ⟨g,o+2,none⟩=some (.int .i64 3):=by have:=M 2 (by omega);simpa[cI']using this
 have aH:w.cell? ⟨g,o+2+1,none⟩=some (.func (.func 110) #[D' p] #[]):=by have:=M 3 (by omega);simpa[cI']using this
 have aO:w.cell? ⟨p,11,none⟩=some (.slice (some ⟨g,o,none⟩) 2 cap):=by rw[y' G.ks.blk,G.ks.ar,aD]
 have ab:g < w.heap.size:=z66 _ _ r0;have aP:=z14 G.ks.blk;clear G ad ax M aE aD hs ay az aA;unfold D' at *;go_enter func56,ntmps56;go_upto_region 4 with (first|(go_at_call 86;refine(d' aB).mono ?_;rintro r y ⟨rfl,aQ⟩;obtain rfl:w=y:=aQ.symm)|(go_at_call 54;refine(d' aC).mono ?_;rintro r y ⟨rfl,hb⟩));obtain⟨ac,ai⟩:=exq (y.heap.size);have ba:w.heap.size<=ac:=by have:=hb.size;omega
 have aI:=m' ai;have aj:=m' hb;rw[<-ai];clear ai hb;refine G' (fun u=>u.heap[ac]? =some (.cells #[.int .i64 k, .int .i64 e, .int .i64 s, .int .i64 q, .string b] 41 (0,0))/\Below w.heap.size w u) ?_ ?_
 ·rw[d' aI];exact⟨z19 _ _,(d' aj).alloc (d' aj).size _⟩
 clear aI aj c0 aC aB;rintro u ⟨I,ak⟩;have d11:=(ak.cell (p:=⟨p,11,none⟩) aP).trans aO;have aJ:=m' I;have aK:=m' ak;clear I ak;go_wp2;go_loopw[9,28] (fun _ i wr=>∃j:Nat,(j=0\/j=1/\k≠1\/j=2/\k≠1/\k≠3)/\i= .int .i64 j/\wr.heap[ac]? =some (.cells #[.int .i64 k, .int .i64 e, .int .i64 s, .int .i64 q, .string b] 41 (0,0))/\Below w.heap.size w wr) (fun _ i _=>3 - (intOf i).toNat)
 case atStart=>exact⟨0,by omega,rfl,d' aJ,d' aK⟩
 case round=>
  obtain⟨j,hj,rfl,I,hb⟩:=hrel;clear aJ aK d11;have s0:=(hb.cell (p:=⟨g,o,none⟩) ab).trans r0;have s1:=(hb.cell (p:=⟨g,o+1,none⟩) ab).trans aF;have bb:=(hb.cell (p:=⟨g,o+2,none⟩) ab).trans aG;have s3:=(hb.cell (p:=⟨g,o+2+1,none⟩) ab).trans aH;obtain⟨aR,aS,aT,aU,aV⟩:=dK' I;simp at aR aS aT aU aV;have aW:=z14 I;have bc:=m' I;have O:=m' hb;have aL:∀ao,(wr.alloc ao).heap[ac]? =some (.cells #[.int .i64 k, .int .i64 e, .int .i64 s, .int .i64 q, .string b] 41 (0,0))/\Below w.heap.size w (wr.alloc ao):=fun ao=>⟨(hao _ _ aW).trans I,hb.alloc hb.size _⟩;have J:=m' aL;clear I hb aL r0 aF aG aH;have bd:∀ (H:Addr) (m:Mode) (z:World),(store H (.func (.func 109) #[.pointer (some ⟨p,0,none⟩)] #[]) m).run prog z=stored prog z H (.func (.func 109) #[.pointer (some ⟨p,0,none⟩)] #[]) m:=fun H m z=>run_store _ _ _ _ _ rfl;have be:∀ (H:Addr) (m:Mode) (z:World),(store H (.func (.func 110) #[.pointer (some ⟨p,0,none⟩)] #[]) m).run prog z=stored prog z H (.func (.func 110) #[.pointer (some ⟨p,0,none⟩)] #[]) m:=fun H m z=>run_store _ _ _ _ _ rfl;rcases hj with rfl|⟨rfl,n1⟩|⟨rfl,n1,aM⟩
  ·by_cases F:k=1
   ·have ap:((1:Int) ==k)=true:=(by simp[F]);have aq:=Y F;clear F Y Z aa;go_wp2_with (go_at_call 98;refine(d' (aq _ (by first|exact((d' J) _).2|exact(d' O)))).mono ?_;rintro r z ⟨lv,au,x,rfl,k1,k2,k3⟩;replace k1:=m' k1;replace k2:=m' k2;replace k3:=m' k3);go_ret2;exact⟨lv,au,x,rfl,av (d' k1) (by first|exact((d' J) _).2|exact(d' O)),d' k2,d' k3⟩
   ·have ap:((1:Int) ==k)=false:=(by simp;omega);go_wp2;exact⟨⟨1,by simp[F],by go_num,(d' J) _⟩,by simp[intOf]⟩
  ·by_cases F:k=3
   ·have ap:((3:Int) ==k)=true:=(by simp[F]);have aq:=Z F;clear F Y Z aa n1;go_wp2_with (go_at_call 98;refine(d' (aq _ (by first|exact((d' J) _).2|exact(d' O)))).mono ?_;rintro r z ⟨lv,au,x,rfl,k1,k2,k3⟩;replace k1:=m' k1;replace k2:=m' k2;replace k3:=m' k3);go_ret2;exact⟨lv,au,x,rfl,av (d' k1) (by first|exact((d' J) _).2|exact(d' O)),d' k2,d' k3⟩
   ·have ap:((3:Int) ==k)=false:=(by simp;omega);go_wp2;exact⟨⟨2,by simp[n1,F],by go_num,(d' J) _⟩,by simp[intOf]⟩
  ·obtain⟨rfl,rfl,aN⟩:=(d' aa) n1 aM;have aX:=m' aN;clear Y Z aa n1 aM aN;go_wp2;go_ret2;exact⟨_,_,w,rfl,d' aX,d' O,fZ' _ _⟩
def yG' (a:Mq.Sk) (k e:Int) (s q:Nat) (b:z10):Nat:=
 if k=1 then(if e < a.Qa then 0 else hiW a e.toNat)else if k=3 then(if e=a.Qa then(a.Qp 3 a.Qa s q b).length else 0)else 0
def skW (a:Mq.Sk) (l:List UInt8):Nat:=if Qb.reads l=true then yG' a (Qb.Jr l) (Qb.Jm l) (Qb.Qu l).toNat (Qb.Xt l).toNat (Qb.Ju l)else 0
def xv' (a:Mq.Sk) (k:Int) (s q:Nat) (b:z10) (n:Nat):Nat->List z10:=if k=3 then(grown a s ((a.Qp 3 a.Qa s q b).take (n - 1))).Qc else a.Qc
def yW' (a:Mq.Sk) (l:List UInt8) (n:Nat):Nat->List z10:=xv' a (Qb.Jr l) (Qb.Qu l).toNat (Qb.Xt l).toNat (Qb.Ju l) n
variable{m:List UInt8}{M:Int}
theorem tT' (z:Qb.reads m=true) (h1:Qb.Jr m=M) (h2:Qb.Jm m=w) (h3:Qb.Qu m=a) (h4:Qb.Xt m=q) (h5:Qb.Ju m=o):
  skW x m=yG' x M w a q o/\∀n,yW' x m n=xv' x M a q o n:=by
 unfold skW yW';rw[z,h1,h2,h3,h4,h5];exact⟨rfl,fun _=>rfl⟩
theorem xw' (z:Qb.reads m=false):skW x m=0:=by
 unfold skW;rw[z];rfl
theorem lU' (I:Jt p r x.Qa x.Qc R P L) (hs:Alv w a q P x.Qa x.Qc) (ah:a+1000 < 18446744073709551616) (ai:Jh x) (au:bN' x) (V:eL' x.held R) (bs:Value) (l:List UInt8) (aj:Qn p bs l) (hn:q=0\/skW x l < q):
  Calls prog 56 #[D' r,bs] p fun Y F=>DlR (fun u G=>Xo w (a+skW x l) (q - skW x l) u G r (aH' x l).2.1 L) p F (aH' x l).1 Y (aH' x l).2.2:=by
 cases O:Qb.reads l
 ·rw[iU' O,xw' O];refine(ja' I hs.dead bs l aj O).mono ?_;rintro Y F ⟨rfl,hb⟩;exact⟨_,[],p,rfl,du' I hs V,hb,fZ' _ _⟩
 ·obtain⟨k,e,s,z,b,h1,h2,h3,h4,h5,g1,g2,av,ax⟩:=eC' O;rw[gT' O h1 h2 h3 h4 h5];rw[(tT' O h1 h2 h3 h4 h5).1]at hn ⊢;have Z:∀y,Below p.heap.size p y->Calls prog 54 #[bs] y fun Y F=>Y= .returned (.tuple #[.agg #[.int .i64 k, .int .i64 e, .int .i64 s, .int .i64 z, .string b], .int .i64 0])/\Below y.heap.size y F:=fun y H=>by have:=eV' bs l y (aj.below H);rw[O]at this;simp only[if_true,jh',h1,h2,h3,h4,h5]at this;exact this
  have aa:=fun y (H:Below p.heap.size p y)=>I.far (C' (E:=fun _=>False) H) (fun _ _ h=>h);have n0:=I.ks.Vb (i:=0) (by omega);have n1:=I.ks.Vb (i:=1) (by omega);have n2:=I.ks.Vb (i:=2) (by omega);have ay:=I.ks.ep;have J:∀ {ak ao:Nat} {a2:Mq.Sk} {u v F:World},Xo w ak ao v F r a2 L->Below u.heap.size u v->Xo w ak ao u F r a2 L:=fun h hb=>Xo.behind h hb;unfold bt';unfold yG' at hn ⊢;by_cases k1:k=1
  ·simp only[if_pos k1]at hn ⊢;by_cases ap:(e:Int) < x.Qa
   ·simp only[if_pos ap]at hn ⊢;refine de' (R:=(fun u G=>Xo w (a+0) (q - 0) u G r x L)) I hs.dead bs (fun h hb=>J h hb) k e s z b Z (fun _ y H=>?_) (fun h=>by omega) (fun h=>absurd k1 h);subst k1;refine dW' (w:=y) (R:=(fun u G=>Xo w (a+0) (q - 0) u G r x L)) (.inl rfl) (fun h hb=>J h hb) 1 1 e s z b 5 x.Qa 0 0 ⟨#[]⟩ (ik' _ ay) (fun F Q=>?_);have M:Below p.heap.size p F:=H.trans (Q.mono H.size);refine(ka' (aa F M) e s z b (by omega)).mono ?_;rintro Y u ⟨rfl,hb⟩;exact⟨rfl,(du' (aa F M) hs V).below hb⟩
   ·simp only[if_neg ap]at hn ⊢;have ab:(e:Int).toNat=e:=by omega
    rw[ab]at hn ⊢;refine de' (R:=(fun u G=>Xo w (a+hiW x e) (q - hiW x e) u G r (aV' x e) L)) I hs.dead bs (fun h hb=>J h hb) k e s z b Z (fun _ y H=>?_) (fun h=>by omega) (fun h=>absurd k1 h);subst k1;refine dW' (w:=y) (R:=(fun u G=>Xo w (a+hiW x e) (q - hiW x e) u G r (aV' x e) L)) (.inl rfl) (fun h hb=>J h hb) 1 1 e s z b 2 e 0 0 (wa' x) (kH' g1 n0 n1 n2) (fun F Q=>?_);have M:Below p.heap.size p F:=H.trans (Q.mono H.size);exact lT' (aa F M) hs ah V e s z b (by omega) g1 hn
  ·simp only[if_neg k1]at hn ⊢;by_cases k3:k=3
   ·simp only[if_pos k3]at hn ⊢;by_cases ac:(e:Int)=x.Qa
    ·simp only[if_pos ac]at hn ⊢;have aA:e=x.Qa:=by omega
     subst k3;rw[ac]at Z ⊢;refine de' (R:=(fun u G=>Xo w (a+(x.Qp 3 x.Qa s z b).length) (q - (x.Qp 3 x.Qa s z b).length) u G r (as' x 3 x.Qa s z b) L)) I hs.dead bs (fun h hb=>J h hb) 3 x.Qa s z b Z (fun h=>by omega) (fun _ y H=>?_) (fun _ h=>absurd rfl h);have ad:=hJ' ai 3 x.Qa s z b g2 (by omega);refine dW' (w:=y) (R:=(fun u G=>Xo w (a+(x.Qp 3 x.Qa s z b).length) (q - (x.Qp 3 x.Qa s z b).length) u G r (as' x 3 x.Qa s z b) L)) (.inr rfl) (fun h hb=>J h hb) 3 3 x.Qa s z b 4 x.Qa s _ _ ?_ (fun F Q=>?_)
     ·have az:(as' x 3 x.Qa s z b).Qa=x.Qa:=by
       unfold as';split
       ·exact dP' _ _ _ _
       ·rfl
      have aq:Jh (as' x 3 x.Qa s z b):=(by unfold bt' at ad;rw[if_neg (by omega),if_pos rfl,if_pos rfl]at ad;exact ad);have aB:=gh' (a:=as' x 3 x.Qa s z b) g2;have aC:=aq.room;have:=kF' (a:=as' x 3 x.Qa s z b) (s:=s) (up:=((as' x 3 x.Qa s z b).Qc s).length) aq.ep g2 (by omega);rw[az]at this;exact this
     ·have M:Below p.heap.size p F:=H.trans (Q.mono H.size);exact mW' (aa F M) hs ah ai au V s z g2 av b ax hn
    ·simp only[if_neg ac]at hn ⊢;have ab:max (e:Int).toNat x.Qa=max e x.Qa:=rfl;rw[ab];subst k3;refine de' (R:=(fun u G=>Xo w (a+0) (q - 0) u G r x L)) I hs.dead bs (fun h hb=>J h hb) 3 e s z b Z (fun h=>by omega) (fun _ y H=>?_) (fun _ h=>absurd rfl h);refine dW' (w:=y) (R:=(fun u G=>Xo w (a+0) (q - 0) u G r x L)) (.inr rfl) (fun h hb=>J h hb) 3 3 e s z b 5 (max e x.Qa:Nat) 0 0 ⟨#[]⟩ (ik' _ (by omega)) (fun F Q=>?_);have M:Below p.heap.size p F:=H.trans (Q.mono H.size);refine(iP' (aa F M) e s z b (by omega)).mono ?_;rintro Y u ⟨rfl,hb⟩;exact⟨rfl,(du' (aa F M) hs V).below hb⟩
   ·simp only[if_neg k3]at hn ⊢;exact de' (R:=fun u G=>Xo w (a+0) (q - 0) u G r x L) I hs.dead bs (fun h hb=>J h hb) k e s z b Z (fun h=>absurd h k1) (fun h=>absurd h k3) (fun _ _=>⟨rfl,rfl,du' I hs V⟩)
theorem pa' (z:Jt p w a S R P L) (hs:P.dk.dead=false) (i:Int):
  Calls prog 60 #[D' w, .int .i64 i] p fun r w'=>
   ∃lv,r= .returned lv/\w'.ownsRow p.heap.size 9 1 lv (if 0<=i/\i < 3 then S i.toNat else []).length (ao' (if 0<=i/\i < 3 then S i.toNat else []))/\Below p.heap.size p w':=by
 have c0:p.cell? ⟨w,0,none⟩=some (D' L.s):=by rw[y' z.ks.blk,z.ks.a0]
 have H:=aL' z.stt;rw[hs]at H;have ab:=m' H;by_cases h:0<=i/\i < 3
 ·rw[if_pos h];obtain⟨n,rfl⟩:=z73 h.1;obtain⟨h0,h3⟩:=h;have I:n < 3:=by omega
  obtain⟨ah,cap,V,ac⟩:=z.ks.logc I;have J:=z.ks.lgs n I;rw[V]at J;have Y:=m' (mM' J (by have:=z.ks.Vb I;omega));have hst:Qb.isStr (n:Int)=true:=by simp[Qb.isStr];omega
  have F:=bC' (n:Int) p;rw[hst]at F;have M:=m' F;have Z:((n:Int)).toNat=n:=by omega
  rw[Z];obtain⟨m,O⟩:=exq ((S n).length);obtain⟨xs,aa⟩:=exq (ao' (S n));rw[<-O,<-aa]at Y ⊢;rw[<-O]at ac;clear z H J V F hst Z O aa;unfold D' at *;go_enter func60,ntmps60;go_wp2_with (first|(go_at_call 87;refine(d' M).mono ?_;rintro r y ⟨rfl,G⟩;obtain rfl:p=y:=G.symm)|(go_at_call 86;refine(d' ab).mono ?_;rintro r y ⟨rfl,G⟩;obtain rfl:p=y:=G.symm)|(go_at_call 100;refine(d' Y).mono ?_;rintro r y ⟨v',rfl,Q,hb⟩;replace Q:=m' Q;replace hb:=m' hb));go_ret;exact⟨v',rfl,d' Q,d' hb⟩
 ·rw[if_neg h];have hst:Qb.isStr i=false:=by
   cases ad:Qb.isStr i
   ·rfl
   ·simp[Qb.isStr]at ad;omega
  have F:=bC' i p;rw[hst]at F;have M:=m' F;clear z H F hst h;unfold D' at *;go_enter func60,ntmps60;go_wp2_with (go_at_call 87;refine(d' M).mono ?_;rintro r y ⟨rfl,G⟩;obtain rfl:p=y:=G.symm);go_ret;exact⟨_,rfl,z27 _ _ _ _,z11 _ _⟩
def kd' (op ct n:Nat) (w:World) (v:Nat) (a:Mq.Sk) (U:Nat->Prop):Prop:=
 ∃p sh st c,w.heap[v]? =some (.cells #[D' p] 93 (0,0))/\Jt w p a.Qa a.Qc sh st c/\Alv op ct n st a.Qa a.Qc/\eL' a.held sh/\bN' a/\U=fun k=>k=v\/PkU p c k
section
variable {op ct n:Nat} {w w':World} {v:Nat} {a:Mq.Sk} {U:Nat->Prop} {e:Nat} {lg:Nat->List z10}
theorem yH' (h:kd' op ct n w v a U):∀k,U k->k < w.heap.size:=by
 obtain⟨p,sh,st,c,hb,z,_,_,_,rfl⟩:=h;rintro k (rfl|hk)
 ·exact z14 hb
 ·exact z.lt k hk
variable{D:Nat -> Prop}
theorem xx' (h:kd' op ct n w v a U) (z:Far D w w') (F:∀k,U k->¬D k):kd' op ct n w' v a U:=by
 obtain⟨p,sh,st,c,hb,G,h1,h2,h3,rfl⟩:=h;exact⟨p,sh,st,c,z.blk hb (F v (.inl rfl)),G.far z (fun k hk=>F k (.inr hk)),h1,h2,h3,rfl⟩
theorem pb' (bs:Value) (l:List UInt8) (h:kd' op ct n w v a U) (Q:ct+1000 < 18446744073709551616) (ab:Jh a) (V:Qn w bs l) (hn:n=0\/skW a l < n):
  Calls prog 27 #[D' v,bs] w fun r w'=>
   ∃lv G U',r= .returned (.tuple #[lv, .int .i64 (aH' a l).1])/\Qh w.heap.size w' lv G (aH' a l).2.2 U'/\kd' op (ct+skW a l) (n - skW a l) w' v (aH' a l).2.1 U'/\Far U w w'/\∀k,U' k->U k\/w.heap.size<=k:=by
 obtain⟨p,sh,st,c,hb,H,hs,ac,Y,rfl⟩:=h;have c0:w.cell? ⟨v,0,none⟩=some (D' p):=y' (i:=0) hb;have z:=m' (lU' H hs Q ab Y ac bs l V hn);have F:=qK' Y l;obtain⟨a2,I⟩:=exq ((aH' a l).2.1);obtain⟨ap,Z⟩:=exq ((aH' a l).1);obtain⟨aq,aa⟩:=exq ((aH' a l).2.2);rw[<-I,<-Z,<-aa]at z ⊢;rw[<-I]at F;generalize ct+skW a l=au at z ⊢;generalize n - skW a l=av at z ⊢;have ad:=zP' H hb;have ah:=m' (z12 hb F);clear H hb F I Z aa V hn hs Q;unfold D' at c0 z;show Calls prog _ #[.pointer (some ⟨v,0,none⟩),bs] w _;go_enter func27,ntmps27;go_wp2_with (go_at_call 56;refine(d' z).mono ?_;rintro r y ⟨lv,G,x,rfl,k1,k2,k3⟩;replace k1:=m' k1;replace k2:=m' k2;replace k3:=m' k3);go_ret2;obtain⟨ai,aj,⟨c2,K,J,N,t1,t2⟩,ak,ao⟩:=d' k1;obtain⟨hb,F⟩:=d' ah;have M:=J.blk hb ad;have O:=d' k2;refine⟨lv,G,fun k=>k=v\/PkU p c2 k,rfl,(d' k3).up J.size ?_,⟨p,ai,aj,c2,(O.block _ (z14 M)).trans M,K.far (C' (E:=fun _=>False) O) (fun _ _ h=>h),ak,ao,F,rfl⟩,?_,?_⟩
 ·rintro k (rfl|hk)
  ·exact z14 M
  ·exact K.lt k hk
 ·exact(J.mono (fun k _ h=> .inr h)).trans (C' (E:=fun _=>False) O) (fun _ _ h=>h.elim)
 ·rintro k (rfl|hk)
  ·exact .inl (.inl rfl)
  ·exact(N k hk).imp .inr id
theorem yI' (h:kd' op ct n w v a U):Calls prog 42 #[D' v] w fun r w'=>r= .returned (.int .i64 a.Qa)/\w'=w:=by
 obtain⟨p,sh,st,c,hb,z,hs,G,H,rfl⟩:=h;have c0:w.cell? ⟨v,0,none⟩=some (D' p):=y' (i:=0) hb;have F:=m' (mL' z);clear z hb;unfold D' at *;go_enter func42,ntmps42;go_wp2_with (go_at_call 67;refine(d' F).mono ?_;rintro r y ⟨rfl,rfl⟩);go_ret;exact⟨rfl,rfl⟩
theorem Au' (i:Int) (h:kd' op ct n w v a U):Calls prog 32 #[D' v, .int .i64 i] w fun r w'=>
   ∃lv,r= .returned lv/\w'.ownsRow w.heap.size 9 1 lv (db' a i).length (ao' (db' a i))/\Below w.heap.size w w':=by
 obtain⟨p,sh,st,c,hb,z,hs,H,I,rfl⟩:=h;have c0:w.cell? ⟨v,0,none⟩=some (D' p):=y' (i:=0) hb;have F:=m' (pa' z hs.dead i);unfold db';obtain⟨xs,G⟩:=exq (if 0<=i/\i < 3 then a.Qc i.toNat else []);rw[<-G]at F ⊢;clear z hb G;unfold D' at *;go_enter func32,ntmps32;go_wp2_with (go_at_call 60;refine(d' F).mono ?_;rintro r y ⟨lv,rfl,k1,k2⟩;replace k1:=m' k1;replace k2:=m' k2);go_ret;exact⟨lv,rfl,d' k1,d' k2⟩
end
theorem pc' (h:Mq.Zu m w a q r S) (G:w<=1073741824):
  ∃ (z:Mq.Hd) (at':Nat) (rs:List Mq.Rc),Mq.openSt m=some (z,at',rs)/\z.o=w/\z.a=r/\z.b=0/\z.d=0/\Mq.skLd rs 0 (fun _=>[])=some S:=by
 obtain⟨I,at',rs,H,J,M,O,ac,Q⟩:=Mq.skLoad_some (h.loads G);obtain⟨V,ad,ah,ai,aj,Y⟩:=h.rcs;obtain⟨c,Z⟩:=h.ok.opens G (fun x=>V.getD x Mq.rc0) (fun x aa=>Y x aa);have F:=Z;rw[H]at F;injection F with F;injection F with ab _;exact⟨I,at',rs,H,by rw[ab],O.symm,J,M,Q⟩
theorem tp' (z:Mq.openSt m=some (F,w,aA)) (hb:F.b=0) (hd:F.d=0) (hl:Mq.skLd aA 0 (fun _=>[])=some S) (G:m.length=7808):
  Alv (F.o+1) 1 0 (cO' m F w) F.a S:=
 ⟨rfl,rfl,rfl,z13 _,Mq.skDisk_opened (a:={Qa:=F.a,Qc:=S,held:=[]}) z hb hd hl G⟩
theorem tq' (e:Nat) (lg:Nat->List z10):bN' {Qa:=e,Qc:=lg,held:=[]}:=⟨fun h z=>by simp at z,fun _ s _ b hb=>by simp at hb⟩
theorem nL' (bs:Value) (L:List UInt8) (V:Qn p bs L) (I:L.length=7808) (J:Mq.openSt L=some (F,w,aA)) (M:F.b=0) (hd0:F.d=0) (hl:Mq.skLd aA 0 (fun _=>[])=some S):
  Calls prog 38 #[bs] p fun r w'=>
   ∃v U,r= .returned (.tuple #[D' v, .int .i64 0])/\kd' (F.o+1) 1 0 w' v {Qa:=F.a,Qc:=S,held:=[]} U/\Below p.heap.size p w'/\∀k,U k->p.heap.size<=k:=by
 have O:Hid (Calls prog 65 #[bs] p fun r w'=>∃z c,r= .returned (.tuple #[D' z, .int .i64 0])/\Jt w' z F.a S (fun _=>[]) (cO' L F w) c/\Below p.heap.size p w'/\∀k,PkU z c k->p.heap.size<=k):=by
  refine(mV' p bs L V I J).mono ?_;rintro r y (⟨h1|h1,_⟩|⟨_,_,Y,z,c,G,rfl,k1,k2,k3⟩)
  ·exact absurd ⟨M,hd0⟩ h1
  ·rw[hl]at h1;cases h1
  ·rw[hl]at G;injection G with G;subst G;exact⟨z,c,rfl,k1,k2,k3⟩
 have H:=m' (tp' J M hd0 hl I);clear V J M hd0 hl I;generalize cO' L F w=st at O H;generalize F.o+1=op1 at H ⊢;generalize F.a=ep at O H ⊢;unfold D' at *;go_enter func38,ntmps38;go_wp2_with (go_at_call 65;refine(d' O).mono ?_;rintro r y ⟨z,c,rfl,K,hb,Q⟩;replace K:=m' K;replace hb:=m' hb;replace Q:=m' Q);go_ret2;have hb:=d' hb;refine⟨y.heap.size,_,rfl,⟨z,_,st,c,z19 _ _,(d' K).far (C' (E:=fun _=>False) ((z11 _ _).alloc (z13 _) _)) (fun _ _ F=>F),d' H,wE',tq' _ _,rfl⟩,hb.alloc hb.size _,?_⟩;rintro k (rfl|hk)
 ·exact hb.size
 ·exact(d' Q) k hk
theorem Ae' (bs:Value) (L:List UInt8) (z:Qn p bs L) (hk:Mq.Zu L w a q r S) (F:w<=1073741824):
  Calls prog 38 #[bs] p fun G w'=>
   ∃v U,G= .returned (.tuple #[D' v, .int .i64 0])/\kd' (w+1) 1 0 w' v {Qa:=r,Qc:=S,held:=[]} U/\Below p.heap.size p w'/\∀k,U k->p.heap.size<=k:=by
 obtain⟨V,at',rs,H,I,J,M,O,Q⟩:=pc' hk F;subst I J;exact nL' bs L z hk.ok.len H M O Q
theorem rH' (bs:Value) (z:Qn p bs (List.replicate 7808 0)):
  Calls prog 38 #[bs] p fun r w'=>
   ∃v U,r= .returned (.tuple #[D' v, .int .i64 0])/\kd' 1 1 0 w' v {Qa:=0,Qc:=fun _=>[],held:=[]} U/\Below p.heap.size p w'/\∀k,U k->p.heap.size<=k:=by
 have F:=Mq.Yx 122 (by omega);refine nL' bs _ z (by rw[z55]) F rfl rfl ?_;have:((List.range (122 - 2)).map fun _=>Mq.rc0)=List.replicate 120 Mq.rc0:=by rw[List.map_const'];simp
 rw[this];exact Mq.skLd_zero 120 0 _
theorem pd' (a:Mq.Sk) (hs:w < 3) (z:List z10):(bL' a w z).count=a.count+z.length/\(bL' a w z).Qa=a.Qa:=by
 refine⟨?_,rfl⟩;obtain rfl|rfl|rfl:w=0\/w=1\/w=2:=by omega
 all_goals
  simp[bL',grown,Mq.Sk.forget,Mq.Sk.count];omega
theorem mX' (a:Mq.Sk) (hs:w < 3) (q:Nat) (b:z10):(as' a 3 a.Qa w q b).count=a.count+(a.Qp 3 a.Qa w q b).length/\(as' a 3 a.Qa w q b).Qa=a.Qa:=by
 unfold as';split
 ·rename_i h;rw[h];refine⟨?_,dP' _ _ _ _⟩;unfold Mq.Sk.count;rw[jv'];rfl
 ·exact pd' a hs _
theorem xy' (a:Mq.Sk) (l:List UInt8):a.count+a.Qa+skW a l<=(aH' a l).2.1.count+(aH' a l).2.1.Qa:=by
 cases z:Qb.reads l
 ·rw[iU' z,xw' z];exact z13 _
 ·obtain⟨k,e,s,q,b,h1,h2,h3,h4,h5,g1,g2,I,J⟩:=eC' z;rw[gT' z h1 h2 h3 h4 h5,(tT' z h1 h2 h3 h4 h5).1];unfold bt' yG';by_cases k1:k=1
  ·simp only[if_pos k1];by_cases G:(e:Int) < a.Qa
   ·simp only[if_pos G];exact z13 _
   ·simp only[if_neg G];have H:(e:Int).toNat=e:=by omega
    rw[H];have h1:(aV' a e).Qa=e:=rfl;have h2:(aV' a e).count=a.count:=rfl;rw[h1,h2];unfold hiW;split <;> omega
  ·simp only[if_neg k1];by_cases k3:k=3
   ·simp only[if_pos k3];by_cases F:(e:Int)=a.Qa
    ·simp only[if_pos F];subst k3;rw[F];obtain⟨c1,c2⟩:=mX' a g2 q b;rw[c1,c2];omega
    ·simp only[if_neg F];exact z13 _
   ·simp only[if_neg k3];exact z13 _
def opK (a:Mq.Sk) (s:Nat):Mq.Sk:={Qa:=a.Qa,Qc:=fun t=>if t < s then a.Qc t else [],held:=[]}
theorem rI' (a:Mq.Sk) (s:Nat):{opK a s with Qc:=fun t=>if t=s then a.Qc s else(opK a s).Qc t}=opK a (s+1):=by
 unfold opK;simp only[Mq.Sk.mk.injEq,true_and,and_true];funext t;by_cases h:t=s
 ·subst h;simp
 ·by_cases h2:t < s
  ·simp[h,h2,show t < s+1 by omega]
  ·simp[h,h2,show ¬t < s+1 by omega]
theorem nM' (a:Mq.Sk) (s:Nat):(opK a s).count<=a.count:=by
 unfold Mq.Sk.count opK;simp only
 repeat' split
 all_goals simp
 all_goals omega
def iw' (a:Mq.Sk):Mq.Sk:={Qa:=a.Qa,Qc:=a.Qc,held:=[]}
def gc' (a:Mq.Sk) (r:am'):am':={dead:=false,next:=if r.dead=true then r.next else a.Qa,inn:=r.inn,more:=r.more}
variable{J:am'}{b:Nat -> Value}{c:Value}
theorem Jp.three (R:Jp p w (opK x 3) J b c):Jp p w (iw' x) J b c:=
 ⟨R.blk,fun s hs=>by have:=R.Qc s hs;simp only[opK,if_pos hs]at this;exact this,R.held,R.apl,R.ep,R.ll,R.hl,R.hb⟩
variable{B:Array Oper}{N:Oper}{I:Act}{Z:Exit -> Act -> World -> Prop}{bX:Prop}
theorem mY' {K:Act->World->Prop} (G:N.guard=none) (s x:Operand) (t:TypeId) (H:N.op= .call {callee:= .builtin .append,args:= #[s,x],argTypes:= #[t,t]})
  (e:TypeId) (J:Value) (size bytes:Nat) (F:prog.underlying t=some (.slice e)) (M:(prog.info? e).map (fun i=>(i.zero,i.size,i.bytes))=some (some J,size,bytes)) (hs:I.eval s= .slice none 0 0) (z:Option Addr) (c:Nat) (O:I.eval x= .slice z 0 c)
  (h:K (I.put N.dst (.slice none 0 0)) p):if Region.wanted N (yielded B I.tmps)=true then N.wp prog I p K Z else bX:=by
 rw[if_pos (by simp[Region.wanted,G])];obtain⟨i0,hi,Y,aa,ab⟩:=au' M;have Q:(Builtin.append_ #[t,t] N.type #[.slice none 0 0, .slice z 0 c]).run prog p= .ok (.slice none 0 0) p:=by
  cases z with
  |none=>simp[Builtin.append_,run_underlying F,sizeOf,typeInfo,hi,Builtin.lenOf,Builtin.firstCells]
  |some z=>have V:=run_firstCells_some (P:=prog) p i0.size 0 z 0 c [] (by simp) (fun j u h=>by simp at h);simp[Builtin.append_,run_underlying F,sizeOf,typeInfo,hi,Builtin.lenOf,V]
 unfold Oper.wp;simp[execOp,H,resolve,invoke,builtin,hs,O,Q,Result.andThen];exact h
theorem Jp.logStep2 {w w1:World} {p:Nat} {a:Mq.Sk} {r:am'} {lv:Nat->Value} {H:Value} (R:Jp w p a r lv H) (s:Nat) (hs:s < 3) {v':Value} {x:List z10} (J:Far (fun k=>(lv s).ownBlock=some k) w w1)
  (hl:∀g,v'.ownBlock=some g->(lv s).ownBlock=some g\/w.heap.size<=g) (ac:Qi w1 9 1 v' x.length (ao' x)) (ad:Mq.Sk.count {a with Qc:=fun t=>if t=s then x else a.Qc t}<=120):
  (∃C,w1.heap[p]? =some (.cells C 132 (0,0))/\C[2+s]? =some (lv s))/\Jp (w1.setCell ⟨p,2+s,none⟩ v') p {a with Qc:=fun t=>if t=s then x else a.Qc t} r (jN' lv s v') H/\Far (SkU p lv H) w (w1.setCell ⟨p,2+s,none⟩ v')/\∀k,SkU p (jN' lv s v') H k->SkU p lv H k\/w.heap.size<=k:=by
 have V:∀t,t < 3->(lv t).ownBlock≠some p:=fun t F=>(R.Qc t F).ne R.blk (by decide);have ah:H.ownBlock≠some p:=R.held.ne R.blk (by decide);have aa:=J.blk R.blk (V s hs);have Y:∀k,k < w.heap.size->v'.ownBlock=some k->(lv s).ownBlock=some k:=fun k hk e=>(hl k e).elim id (fun h=>by omega);have M:=Q' w1 p (2+s) v';refine⟨⟨_,aa,?_⟩,⟨?_,?_,?_,?_,R.ep,ad,R.hl,R.hb⟩,?_,?_⟩
 ·obtain rfl|rfl|rfl:s=0\/s=1\/s=2:=by omega
  all_goals rfl
 ·rw[<-jt' a r lv H s hs];exact aa' aa
 ·intro t F;by_cases G:t=s
  ·subst G;rw[bf'];simp only[if_true];refine ac.far M (fun g z I=>?_);rw[I]at z;exact V t hs (Y p (z14 R.blk) z)
  ·rw[aB' _ _ G];simp only[if_neg G];exact((R.Qc t F).far J (fun g z Z=>R.apl t s F hs G g z Z)).far M (fun g z I=>V t F (by rw[z,I]))
 ·exact(R.held.far J (fun g z Z=>R.held.ty (R.Qc s hs) (by decide) z Z)).far M (fun g z I=>ah (by rw[z,I]))
 ·intro t u F hu O g z;by_cases G:t=s
  ·subst G;rw[bf']at z;rw[aB' _ _ (fun e=>O e.symm)];intro Q;have ai:=(R.Qc u hu).lt g Q;exact R.apl t u F hu O g (Y g ai z) Q
  ·rw[aB' _ _ G]at z;by_cases ab:u=s
   ·subst ab;rw[bf'];intro Q;exact R.apl t u F hu O g z (Y g ((R.Qc t F).lt g z) Q)
   ·rw[aB' _ _ ab];exact R.apl t u F hu O g z
 ·exact(J.mono (E':=SkU p lv H) (fun k _ h=> .inr (.inl ⟨s,hs,h⟩))).trans M (fun k _ h=> .inl h)
 ·rintro k (rfl|⟨t,F,hk⟩|hk)
  ·exact .inl (.inl rfl)
  ·by_cases G:t=s
   ·subst G;rw[bf']at hk;rcases hl k hk with h|h
    ·exact .inl (.inr (.inl ⟨t,F,h⟩))
    ·exact .inr h
   ·rw[aB' _ _ G]at hk;exact .inl (.inr (.inl ⟨t,F,hk⟩))
  ·exact .inl (.inr (.inr hk))
def Av' (B:Nat) (T:TypeId) (size n:Nat) (xs:List Value) (v:Value) (z:World):Prop:=Qi z T size v n xs/\∀g,v.ownBlock=some g->B<=g
theorem rJ' (B:Nat) (T:TypeId) (size n:Nat) (xs:List Value):bm' (Av' B T size n xs):=fun _ _ _ h hb=>⟨h.1.far (C' (E:=fun _=>False) hb) (fun _ _ h=>h),h.2⟩
theorem pe' (R:Jp p w x J b c) (aa:∃az n aR,J.more= .slice az n aR):
  Calls prog 180 #[.pointer (some ⟨w,0,none⟩)] p fun e w'=>∃z Y aS,e= .returned (.pointer (some ⟨z,0,none⟩))/\Jp w' z (iw' x) (gc' x J) Y aS/\Below p.heap.size p w'/\∀k,SkU z Y aS k->p.heap.size<=k:=by
 obtain⟨ah,ai,aj,aa⟩:=aa;obtain⟨c0,c1⟩:=cW' R.blk;have aT:=y' (i:=6) R.blk;have aU:=y' (i:=7) R.blk;have aA:=y' (i:=8) R.blk;simp[az']at c0 c1 aT aU aA;have O:=z14 R.blk;have G:=m' R;rw[aa]at aA;have bh:=m' aa;clear R aa;go_enter func180,ntmps180;go_upto_region 1 with fail;refine ae'
  [Ep w 0,Ep w 0,Ep w 0,Ei x.Qa,
   Ep w 0,Ep w 0,Ep w 0,Ei x.Qa,
   Ep w 0,Ep w 0,Ep w 7,Ei J.inn,
   Ep w 0,Ep w 0,Ep w 8,Ev (.slice ah ai aj),
   Ev (.agg #[.int .i64 x.Qa, .bool false, .slice none 0 0, .slice none 0 0, .slice none 0 0, .slice none 0 0, .int .i64 x.Qa, .int .i64 J.inn, .slice ah ai aj]),
   rC' p.heap.size #[.int .i64 x.Qa, .bool false, .slice none 0 0, .slice none 0 0, .slice none 0 0, .slice none 0 0, .int .i64 x.Qa, .int .i64 J.inn, .slice ah ai aj] 132,rC' p.heap.size #[.int .i64 x.Qa, .bool false, .slice none 0 0, .slice none 0 0, .slice none 0 0, .slice none 0 0, .int .i64 x.Qa, .int .i64 J.inn, .slice ah ai aj] 132]
  [[0],[1005],[2006],[3007],[0],[5009],[6010],[7011],[0],[9013],[10014],[11015],[0],[13017],[14018],[15019],[4008,8012,12016,16020],[17021],[18022]] [6,7,8,9,10,11,12,13,14,15,16,17,18,19,20,21,22,23,4] [3,1,1,18,34] ?_ ?_ (hst:=by repeat' (first|exact V' _|exact is' _ _ _|exact trivial|apply z12))
 ·refine⟨?_,?_,?_,?_,?_,?_,?_,?_,?_,?_,?_,?_,?_,?_,?_,?_,?_,?_,?_,trivial⟩;all_goals
   intro z H hb I;have bi:=(hb.cell (p:=⟨w,0,none⟩) O).trans c0;have bK:=(hb.cell (p:=⟨w,7,none⟩) O).trans aU;have bL:=(hb.cell (p:=⟨w,8,none⟩) O).trans aA;have bj:=hb.size;clear hb;simp[I']at I;try go_simp
   try exact z11 _ _
  all_goals first
   |exact⟨rfl,z11 _ _⟩
   |exact⟨_,rfl,(z11 _ _).alloc (z13 _) _,_,rfl,bj,z19 H _⟩
   |exact⟨_,rfl,z11 _ _,I⟩
 ·intro f bk F M;simp only[ag']at M;have hn:=M.2.2.2.2.2.2.2.2.2.2.2.2.2.2.2.2.2.2.1;obtain⟨z,ak,Z,ao⟩:=hn;clear M;simp only[O',ak,Nat.zero_add,Nat.reduceAdd];have aV:Jp bk z (opK x 0) {dead:=false,next:=x.Qa,inn:=J.inn,more:=J.more} lO' (.slice none 0 0):=⟨by rw[ao];simp only[az',d' bh];rfl,fun _ _=>bb' _ _ _,bb' _ _ _,fun s t _ _ _ g h=>(by cases h),(d' G).ep,z26 (nM' x 0) (d' G).ll,by simp[opK],by simp[opK]⟩;have aB:=m' aV;have ab:=(F.cell (p:=⟨w,1,none⟩) O).trans c1;have bl:=(F.cell (p:=⟨w,6,none⟩) O).trans aT;have aW:=y' (i:=6) ao;have f6:=H' (i:=6) ao;simp at aW;have ap:=m' F;have aX:=m' Z;clear ao F aV ak Z;cases hd:J.dead
  case' false=>
   rw[hd]at ab;have aC:=m' hd;clear hd;go_upto_region 4 with fail;refine G' (fun H=>Jp H z (opK x 0) (gc' x J) lO' (.slice none 0 0)/\Below p.heap.size p H) ⟨?_,?_⟩ ?_
   ·have h:=d' aB;have e:gc' x J={dead:=false,next:=x.Qa,inn:=J.inn,more:=J.more}:=(by unfold gc';rw[d' aC];rfl);rw[e];exact h
   ·exact d' ap
  case' true=>
   rw[hd]at ab;have aC:=m' hd;clear hd;go_upto_region 4 with fail;refine G' (fun H=>Jp H z (opK x 0) (gc' x J) lO' (.slice none 0 0)/\Below p.heap.size p H) ⟨?_,?_⟩ ?_
   ·have h:=d' aB;have e:gc' x J={dead:=false,next:=J.next,inn:=J.inn,more:=J.more}:=(by unfold gc';rw[d' aC];rfl);rw[e];exact⟨by have:=aa' (j:=6) (v:= .int .i64 J.next) h.blk;simpa[az']using this,fun _ _=>bb' _ _ _,bb' _ _ _,h.apl,h.ep,h.ll,h.hl,h.hb⟩
   ·exact(d' ap).trans ((Q' _ z 6 _).below (d' ap).size (fun k hk e=>by have:=d' aX;omega))
  all_goals
   clear aB ap ab bl aW f6;rintro bM ⟨aY,aZ⟩;have ba:=m' aY;have bb:=m' aZ;clear aY aZ;go_wp2;go_loopw[4] (fun i wr=>∃ (s:Nat) (Y:Nat->Value),s<=3/\i= .int .i64 s/\Jp wr z (opK x s) (gc' x J) Y (.slice none 0 0)/\Below p.heap.size p wr/\(∀k,SkU z Y (.slice none 0 0) k->p.heap.size<=k)/\∀t,s<=t->Y t= .slice none 0 0) (fun i _=>3 - (intOf i).toNat)
   case atStart=>
    refine⟨0,lO',by omega,rfl,d' ba,d' bb,?_,fun _ _=>rfl⟩;rintro k (rfl|⟨s,_,h⟩|h)
    ·exact d' aX
    ·cases h
    ·cases h
   case round=>
    obtain⟨s,bm,hs,rfl,Q,F,aq,au⟩:=hrel;clear ba bb;by_cases V:s < 3
    ·have bN:(s:Int) < 3:=(by omega);have d0:=(F.cell (p:=⟨w,2+s,none⟩) O).trans (gz' (d' G) s V);have aD:=((d' G).Qc s V).far (C' (E:=fun _=>False) F) (fun _ _ h=>h);obtain⟨av,aE,aF,_,_,aG⟩:=((d' G).Qc s V).shape;have g0:=gz' Q s V;rw[au s (by omega)]at g0;rw[aF]at d0 aD;have bn:=(d' G).len s V;have aH:∀g o,av=some ⟨g,o,none⟩->g < p.heap.size:=fun g o h=>((d' G).Qc s V).lt g (by rw[aF,h];rfl);have bc:∀g o,av=some ⟨g,o,none⟩->0 < (x.Qc s).length->∀j u,(ao' (x.Qc s))[j]? =some u->wr.cell? ⟨g,o+j,none⟩=some u:=fun g o h h0 j u hj=>(by obtain⟨g',bO,e,bo⟩:=aG h0;rw[h]at e;injection e with e;injection e with bp bq;subst bp bq;have br:j < (x.Qc s).length * 1:=(by have:=(z28.1 hj).1;rw[bF']at this;omega);exact((F.cell (p:=⟨g,o+j,none⟩) (aH g o h)).trans (bo j br)).trans hj);have aI:=m' (z12 aG (z12 aH bc));have f0:=H' (i:=2+s) Q.blk;have ax:=z14 Q.blk;have bd:=z20 O F.size;have be:=m' Q;have aJ:=m' F;have bf:=m' aq;have bt:=m' au;obtain⟨ay,aK⟩:=exq ((x.Qc s).length);rw[<-aK]at d0 aD bn aI;have aL:=m' aK;clear Q F aq au aG aF aH bc aK;go_upto_region 7 with fail;refine ab'
      [Ep z 0,Ei s,Ep z 0,Ei s,Ep z 0,Ep z 2,Ep z (2+s),Ev (.slice none 0 0),
       Ep w 0,Ei s,Ep w 0,Ep w 2,Ep w (2+s),Ev (.slice av ay aE),Av' wr.heap.size 9 1 ay (ao' (x.Qc s)),
       Ep z 0,Ep z 2,Ep z (2+s),Et]
      [[3],[4],[3],[4],[3040],[5042],[6043,4041],[7044],[0],[4],[9046],[11048],[12049,10047],[13050],[8045,14051],[1038],[16053],[17054,2039],[18055,15052]] [39,40,41,42,43,44,45,46,47,48,49,50,51,52,53,54,55,56,0] [38,18,1]
      18 _ rfl rfl ?_ ?_ (hst:=by repeat' (first|exact V' _|exact rJ' _ _ _ _ _|exact aj'|exact trivial|apply z12))
     ·refine⟨?_,?_,?_,?_,?_,?_,?_,?_,?_,?_,?_,?_,?_,?_,?_,?_,?_,?_,trivial⟩;all_goals
       intro bP H hb I;have bi:=(hb.cell (p:=⟨w,2+s,none⟩) bd).trans d0;have ab:=(hb.cell (p:=⟨z,2+s,none⟩) ax).trans g0;have bg:=m' hb;clear hb;simp[I']at I
      iterate 14
       ·go_simp;first|exact⟨rfl,z11 _ _⟩|exact z11 _ _
      ·by_cases h0:ay=0
       ·subst h0;refine mY' rfl (.tmp 45) (.tmp 51) 45 rfl 9 _ 1 16 underlying45 bQ' (by simp[Act.eval,I]) av aE (by simp[Act.eval,I]) ?_;have bu:ao' (x.Qc s)=[]:=by have:(x.Qc s)=[]:=z68 (d' aL).symm;rw[this];rfl
        rw[bu];exact⟨_,rfl,z11 _ _,bb' _ _ _,fun g h=>(by cases h)⟩
       ·obtain⟨bw,bz,bA⟩:=d' aI;obtain⟨g,o,e,_⟩:=bw (by omega);subst e;refine cK' rfl (.tmp 45) (.tmp 51) 45 rfl 9 _ 1 16 underlying45 bQ' rfl (.slice none 0 0) 0 [] (bb' _ _ _) (by simp[Act.eval,I]) ⟨g,o,none⟩ ay aE (ao' (x.Qc s)) (by simp[Act.eval,I]) (by rw[bF',d' aL];omega) ?_ (by intro u hu;unfold ao' at hu;rw[z63]at hu;obtain⟨aR,_,rfl⟩:=hu;rfl) (by omega) (by omega) (by omega) ?_
        ·intro k u hk;rw[kC'];exact((d' bg).cell (p:=⟨g,o+k,none⟩) (z20 (bz g o rfl) (d' aJ).size)).trans (bA g o rfl (by omega) k u hk)
        ·intro v' w' k1 k2;simp only[Nat.zero_add,List.nil_append]at k1;refine⟨v',rfl,(ba' k2.grown).below (z13 _) (fun k _ h=>by cases h),k1,fun g' ac=>?_⟩;rcases k2.where_ with h|⟨_,g2,h,bQ⟩
         ·rw[h]at ac;cases ac
         ·rw[h]at ac;injection ac with ac;have:=(d' bg).size;have:=(d' aJ).size;omega
      iterate 3
       ·go_simp;first|exact⟨rfl,z11 _ _⟩|exact z11 _ _
     ·intro f5 bB hb M;simp only[ag',List.take]at M;have ad:=M.2.2.2.2.2.2.2.2.2.2.2.2.2.2.1;have bC:=M.2.2.2.2.2.2.2.2.2.2.2.2.2.2.2.2.2.1;obtain⟨bD,aM⟩:=exq (f5 52);rw[<-aM]at ad;obtain⟨aN,aO,aP,rfl⟩:∃aN aO aP,bD= .slice aN aO aP:=by obtain⟨az,cap,e,_⟩:=ad.1.shape;exact⟨az,_,cap,e⟩
      have aQ:=((d' be).logStep2 s V (w1:=bB) (v':= .slice aN aO aP) (x:=x.Qc s) (C' hb) (fun g bE=> .inr (ad.2 g bE)) (by rw[<-d' aL];exact ad.1) (by have:=nM' x (s+1);rw[<-rI']at this;exact z26 this (d' G).ll)).2;rw[rI']at aQ;have bF:=m' aQ;have ab:=(hb.cell (p:=⟨z,2+s,none⟩) ax).trans g0;have bR:=(hb.frozen (p:=⟨z,2+s,none⟩) ax).trans f0;clear M hb aQ ad aD d0 g0 f0 bd ax aI be;simp only[O',<-aM,bC];clear aM;go_simp;go_wp2;go_roundw
      case rel=>
       obtain⟨k1,k2,k3⟩:=d' bF;have Z:=d' aJ;refine⟨s+1,_,by omega,by go_num,k1,Z.trans (k2.below Z.size (fun k hk h=>by have:=(d' bf) k h;omega)),fun k hk=>?_,fun t bS=>?_⟩
       ·rcases k3 k hk with h|h
        ·exact(d' bf) k h
        ·have:=Z.size;omega
       ·rw[aB' _ _ (by omega)];exact(d' bt) t (by omega)
      case measure=>simp[intOf];omega
    ·have ak:s=3:=(by omega);subst ak;have bG:=m' Q;have bH:=m' F;have bI:=m' aq;clear Q F aq au;go_wp2;go_ret;have bJ:=(d' bG).three;exact⟨z,bm, .slice none 0 0,rfl,bJ,d' bH,d' bI⟩
end Go.Proofs.YtamafdcnbcoegaaGreat
