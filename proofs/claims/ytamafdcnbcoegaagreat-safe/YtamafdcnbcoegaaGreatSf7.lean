/-
  Part 7 of a proof: K2, K3, K4, K5, K6, L1, L2, L3, L4, L5.
-/
import Derived.Test.YtamafdcnbcoegaaGreatSf6
set_option maxRecDepth 100000
set_option maxHeartbeats 40000000
namespace Go.Proofs.YtamafdcnbcoegaaGreat
open Go.RowKit
structure Sv where
 arr:Array Value
 s:Nat
 dp:Nat
 lv:Nat->Value
 nv:Nat->Value
 mv:Nat->Value
 rv:Value
 dlv:Value
 duv:Value
def aY' (p:Nat):List Value:=[.int .i64 1, .func (.func 109) #[y' p] #[], .int .i64 3, .func (.func 110) #[y' p] #[]]
structure aL' (w:World) (p e:Nat) (logs:Nat->List ByteArray) (sh:Nat->List (Nat×Value)) (st:Mod.Stv) (c:Sv):Prop where
 ks:fy' w p e logs sh c.arr c.s c.lv c.nv c.mv c.rv
 stt:cC' w c.s c.dp st c.dlv c.duv
 rl:ao' w 179 2 c.rv 2 (aY' p)
 len:st.dk.bytes.length=7808
def PkU (p:Nat) (c:Sv) (k:Nat):Prop:=KsU p c.lv c.nv c.mv k\/StU c.s c.dp c.dlv c.duv k\/c.rv.ownBlock=some k
section
variable {w x y:World} {p e:Nat} {logs:Nat->List ByteArray} {sh:Nat->List (Nat×Value)} {st:Mod.Stv} {c:Sv}
theorem aL'.lt (h:aL' w p e logs sh st c):∀k,PkU p c k->k < w.heap.size:=by
 rintro k (f|f|f)
 ·exact h.ks.lt k f
 ·exact h.stt.lt k f
 ·exact h.rl.lt k f
theorem aL'.far {E:Nat->Prop} (h:aL' w p e logs sh st c) (f:Far E w x) (r:∀k,PkU p c k->¬E k):aL' x p e logs sh st c:=
 ⟨h.ks.far f (fun k u=>r k (.inl u)),h.stt.far f (fun k u=>r k (.inr (.inl u))),h.rl.far f (fun g z=>r g (.inr (.inr z))),h.len⟩
theorem ch' {arr:Array Value} {s:Nat} {lv nv mv:Nat->Value} {rv:Value} (h:fy' w p e logs sh arr s lv nv mv rv) {q:Nat} {u:Array Value} {t:TypeId} {fr:Nat×Nat} (r:w.heap[q]? =some (.cells u t fr)) (h1:t≠176) (h2:t≠9) (h3:t≠3):¬KsU p lv nv mv q:=by
 rintro(rfl|⟨i,hi,f⟩|⟨i,hi,f⟩)
 ·have:=h.blk;rw[r]at this;injection this with this;injection this with _ this _;exact h1 this
 ·exact(h.lgs i hi).ne r (fun e=>h2 e.symm) f
 ·rcases f with f|f
  ·exact(ao'.of_own (h.shs i hi).nums).ne r (fun e=>h3 e.symm) f
  ·rcases(h.shs i hi).map with ⟨e,_⟩|⟨b,e,z⟩
   ·rw[e]at f;cases f
   ·rw[e]at f;cases f;exact z.not_cells r
theorem cy' {r:TypeId} {size n:Nat} {v:Value} {xs:List Value} (h:ao' w r size v n xs) {g:Nat} (u:v.ownBlock=some g):∃f,w.heap[g]? =some (.cells f r (0,0)):=by
 obtain⟨_,h2⟩:=h;rcases h2 with ⟨rfl,_⟩|⟨g',o,cap,f,rfl,z,_⟩
 ·cases u
 ·cases u;exact⟨f,z⟩
theorem aL'.sep (h:aL' w p e logs sh st c):∀k,KsU p c.lv c.nv c.mv k->¬StU c.s c.dp c.dlv c.duv k:=by
 rintro k f (hs|hs|hs|hs)
 ·subst hs;exact ch' h.ks h.stt.blk (by decide) (by decide) (by decide) f
 ·subst hs;exact ch' h.ks h.stt.dk.blk (by decide) (by decide) (by decide) f
 ·obtain⟨u,r⟩:=cy' (ao'.of_own h.stt.dk.row) hs;exact ch' h.ks r (by decide) (by decide) (by decide) f
 ·obtain⟨u,r⟩:=cy' h.stt.dk.un hs;exact ch' h.ks r (by decide) (by decide) (by decide) f
theorem aL'.sepr (h:aL' w p e logs sh st c):∀k,c.rv.ownBlock=some k->¬KsU p c.lv c.nv c.mv k/\¬StU c.s c.dp c.dlv c.duv k:=by
 intro k r;obtain⟨u,f⟩:=cy' h.rl r;refine⟨ch' h.ks f (by decide) (by decide) (by decide),?_⟩;rintro(hs|hs)
 ·rw[hs,h.stt.blk]at f;injection f with f;injection f with _ f _;exact absurd f (by decide)
 ·exact dY' h.stt.dk f (by decide) (by decide) (by decide) hs
end
def bg' (w x:World) (p e:Nat) (logs:Nat->List ByteArray) (sh:Nat->List (Nat×Value)) (st:Mod.Stv) (c:Sv):Prop:=
 ∃f,aL' x p e logs sh st f/\Far (PkU p c) w x/\(∀k,PkU p f k->PkU p c k\/w.heap.size<=k)/\f.s=c.s/\f.rv=c.rv
theorem oE' {x y:World} {p e s:Nat} {logs:Nat->List ByteArray} {sh:Nat->List (Nat×Value)} {arr:Array Value} {lv nv mv:Nat->Value} {rv:Value} (h:fy' x p e logs sh arr s lv nv mv rv) (i:Nat) (hi:i < 3) (b:ByteArray) (r:Value)
  (hF:Far (fun k=>(lv i).ownBlock=some k) x y) (J:ao' y 9 1 r ((logs i).length+1) (aK' (logs i++[b]))) (hl:Loc x (lv i) r) (M:(logs 0).length+(logs 1).length+(logs 2).length < 120):
  fy' (y.setCell ⟨p,2+i * 3,none⟩ r) p e (fun j=>if j=i then logs i++[b]else logs j) sh (arr.setIfInBounds (2+i * 3) r) s (fun j=>if j=i then r else lv j) nv mv rv:=by
 have O:∀j,j < 3->(lv j).ownBlock≠some p:=fun j hj=>(h.lgs j hj).ne h.blk (by decide);have Q:=hF.blk h.blk (O i hi);have hs:=O' y p (2+i * 3) r;have U:Far (fun k=>k=p\/(lv i).ownBlock=some k) x (y.setCell ⟨p,2+i * 3,none⟩ r):=(hF.mono (fun _ _ h=> .inr h)).trans hs (fun _ _ h=> .inl h);have X:r.ownBlock≠some p:=J.ne Q (by decide);have z:∀j,j≠2+i * 3->(arr.setIfInBounds (2+i * 3) r)[j]? =arr[j]? :=fun j hj=>Array.getElem?_setIfInBounds_ne (fun e=>hj e.symm);refine⟨af' Q,by simpa using h.sz,?_,?_,?_,?_,?_,?_,?_,?_,h.are,?_,h.aps,?_,h.ep⟩
 ·rw[z _ (by omega)];exact h.a0
 ·rw[z _ (by omega)];exact h.a1
 ·intro j hj;by_cases D:j=i
  ·subst D;have Y:2+j * 3 < arr.size:=by rw[h.sz];omega
   simp[Y]
  ·rw[if_neg D,z _ (by omega)];exact h.al j hj
 ·intro j hj;rw[z _ (by omega)];exact h.an j hj
 ·intro j hj;rw[z _ (by omega)];exact h.am j hj
 ·rw[z _ (by omega)];exact h.ar
 ·intro j hj;by_cases D:j=i
  ·subst D;have:=J.far hs (fun g f e=>X (by rw[f,e]));simpa using this
  ·simp only[if_neg D];exact(h.lgs j hj).far U (fun g f e=>e.elim (fun e=>O j hj (by rw[f,e])) (fun e=>h.apl j i hj hi D g f e))
 ·intro j hj;refine(h.shs j hj).far U (fun k Z e=>?_);have M:∃V t,x.heap[k]? =some (.cells V t (0,0))/\t≠3:=by
   rcases e with rfl|e
   ·exact⟨_,_,h.blk,by decide⟩
   ·obtain⟨ad,I⟩:=cy' (h.lgs i hi) e;exact⟨_,_,I,by decide⟩
  obtain⟨V,t,I,aa⟩:=M;exact(h.shs j hj).ne I aa Z
 ·intro j F hj G H g f;by_cases h1:j=i
  ·subst h1;rw[if_pos rfl]at f;rw[if_neg (fun e=>H e.symm)];intro u;rcases hl with hl|hl|⟨ab,hl,ac⟩
   ·rw[hl]at f;cases f
   ·rw[hl]at f;exact h.apl j F hj G H g f u
   ·rw[hl]at f;cases f;have:=(h.lgs F G).lt g u;omega
  ·rw[if_neg h1]at f;by_cases h2:F=i
   ·subst h2;rw[if_pos rfl];intro u;rcases hl with hl|hl|⟨ab,hl,ac⟩
    ·rw[hl]at u;cases u
    ·rw[hl]at u;exact h.apl j F hj G H g f u
    ·rw[hl]at u;cases u;have:=(h.lgs j hj).lt g f;omega
   ·rw[if_neg h2];exact h.apl j F hj G H g f
 ·obtain rfl|rfl|rfl:i=0\/i=1\/i=2:=by omega
  all_goals
   simp;omega
theorem qx' {w:World} {p e:Nat} {logs:Nat->List ByteArray} {sh:Nat->List (Nat×Value)} {st:Mod.Stv} {c:Sv} (D:aL' w p e logs sh st c) (i:Nat) (hi:i < 3) (b:ByteArray) (z:b.size<=20)
  (aI:(logs 0).length+(logs 1).length+(logs 2).length < 120):
  Calls Tryz.prog 222 #[y' p, .int .i64 i, .string b] w fun aj w'=>
   aj= .returned (.int .i64 (st.putRecord ((logs 0).length+(logs 1).length+(logs 2).length) i ((logs i).length+1) b.data.toList).1)/\
   bg' w w' p e (if(st.putRecord ((logs 0).length+(logs 1).length+(logs 2).length) i ((logs i).length+1) b.data.toList).1=0 then fun j=>if j=i then logs i++[b]else logs j else logs) sh
    (st.putRecord ((logs 0).length+(logs 1).length+(logs 2).length) i ((logs i).length+1) b.data.toList).2 c:=by
 obtain⟨n,aA⟩:∃n,n=(logs 0).length+(logs 1).length+(logs 2).length:=⟨_,rfl⟩;obtain⟨q,u⟩:∃q,q=(logs i).length+1:=⟨_,rfl⟩;obtain⟨G,cap,aJ,aK⟩:=D.ks.logc hi;have br:=D.ks.loglen hi;have aZ:=lt_of_block D.ks.blk;have aL:=fun y (ad:Below w.heap.size w y)=>t' (dn' y p (2+i * 3) _ cap G ((ad.cell (p:=⟨p,2+i * 3,none⟩) aZ).trans aK) (by omega));have aM:=fun y (ad:Below w.heap.size w y)=>t' (eo' (D.ks.far (A' (E:=fun _=>False) ad) (fun _ _ h=>h)));rw[<-u]at aL;rw[<-aA]at aM aI ⊢;rw[<-u];have aN:=fun y (ad:Below w.heap.size w y)=>t' (de' y c.s c.dp st c.dlv c.duv (D.stt.far (A' (E:=fun _=>False) ad) (fun _ _ h=>h)) n i q b (by rw[D.len];omega) (by omega) (by omega) z);have c0:w.cell? ⟨p,0,none⟩=some (y' c.s):=by rw[m' D.ks.blk,D.ks.a0]
 obtain⟨Z,aB⟩:∃Z,Z=(st.putRecord n i q b.data.toList).1:=⟨_,rfl⟩;obtain⟨aa,ak⟩:∃aa,aa=(st.putRecord n i q b.data.toList).2:=⟨_,rfl⟩;rw[<-aB,<-ak]at aN ⊢;have ba:aa.dk.bytes.length=7808:=by
  rw[ak];unfold Mod.Stv.putRecord Mod.Dk.put;simp only
  split
  ·exact D.len
  ·split
   ·exact D.len
   ·simp only
    rw[Mod.length_setSec (Mod.length_sealB _ _ (by rw[Mod.length_recIn];simp;omega)) (by rw[D.len];omega)];exact D.len
 have bb:=t' (And.intro aA (And.intro u (And.intro aB ak)));have bt:(0:Int)<=(i:Int):=by omega
 have bu:(i:Int) < 3:=by omega
 have U:=t' D;have ao:=t' aJ;clear D aJ aA u aB ak aK;unfold y' at *;go_enter Tryz.func222,Tryz.ntmps222;go_upto_region 2 with fail;refine Q' (by kernel_rfl)
  [fun v _=>v= .pointer (some ⟨p,0,none⟩),fun v _=>v= .pointer (some ⟨p,0,none⟩),fun v _=>v= .pointer (some ⟨p,0,none⟩),fun v _=>v= .pointer (some ⟨c.s,0,none⟩),fun v _=>v= .pointer (some ⟨p,0,none⟩),fun v _=>v= .int .i64 n,fun v _=>v= .int .i64 i,fun v _=>v= .pointer (some ⟨p,2+i * 3,none⟩),fun v _=>v= .int .i64 q,fun v _=>v= .string b,
   fun v _=>v= .agg #[.int .i64 i, .int .i64 q, .string b],fun v y=>v= .int .i64 Z/\∃O,cC' y c.s c.dp aa c.dlv O/\Loc w c.duv O,fun v _=>v= .int .i64 Z]
  [[(0,none)],[(14,some 0)],[(15,some 1)],[(16,some 2)],[(0,none)],[(18,some 4)],[(1,none)],[(7,none)],[(21,some 7)],[(2,none)],[(20,some 6),(22,some 8),(23,some 9)],[(17,some 3),(19,some 5),(24,some 10)],[(25,some 11)]] [some 14,some 15,some 16,some 17,some 18,some 19,some 20,some 21,some 22,some 23,some 24,some 25,some 8] [false,false,false,false,false,false,false,false,true,false,false,false,false,false,true,true,true,true,true,true,true,true,true,true,true,true,false,false,false,false,false,false,false,false,false,false,false,false,false]
  [(11,StU c.s c.dp c.dlv c.duv)]
  (by kernel_rfl) (by kernel_rfl) (by kernel_rfl) (by kernel_rfl) (by kernel_rfl) ?_ ?_ ?_ ?_
 ·repeat' (first|exact J' _|exact(fun _ _ _ h z=>⟨h.1,h.2.imp fun _ h=>⟨h.1.far (A' (E:=fun _=>False) z) (fun _ _ h=>h),h.2⟩⟩)|exact trivial|apply And.intro)
 ·repeat' (first|exact trivial|exact .inl rfl|exact .inr (.inr (ak' _ _))|apply And.intro)
 ·refine⟨?_,?_,?_,?_,?_,?_,?_,?_,?_,?_,?_,?_,?_,trivial⟩;all_goals
   intro a f z Q;simp only[I',List.getD_cons_zero,List.getD_cons_succ,Array.getD_eq_getD_getElem?]at Q;try simp at Q
  iterate 3
   ·clear z;go_simp;exact⟨_,rfl,Far.refl _ _,rfl⟩
  ·have z0:f.cell? ⟨p,0,none⟩=some (.pointer (some ⟨c.s,0,none⟩)):=by have:=z.blk (i' U).ks.blk (aa' (by intro q u;simp at u;subst u;exact fun h=>(i' U).sep p (.inl rfl) h));rw[m' this,(i' U).ks.a0];rfl
   clear z;go_simp;exact⟨_,rfl,Far.refl _ _,rfl⟩
  ·clear z;go_simp;exact⟨_,rfl,Far.refl _ _,rfl⟩
  ·have J:=eI' z (by intro q u;simp at u;subst u;show ar' _ 11 5=true;decide+kernel);have ah:=t' (i' (aM f J));clear z J;go_simp;refine(i' ah).mono ?_;rintro aj aO ⟨rfl,rfl⟩;exact⟨_,rfl,Far.refl _ _,rfl⟩
  iterate 2
   ·clear z;go_simp;exact⟨_,rfl,Far.refl _ _,rfl⟩
  ·have J:=eI' z (by intro q u;simp at u;subst u;show ar' _ 11 8=true;decide+kernel);have ah:=t' (i' (aL f J));clear z J;go_simp;refine(i' ah).mono ?_;rintro aj aO ⟨rfl,rfl⟩;exact⟨_,rfl,Far.refl _ _,rfl⟩
  iterate 2
   ·clear z;go_simp;exact⟨_,rfl,Far.refl _ _,rfl⟩
  ·have J:Below w.heap.size w f:=z.below (Nat.le_refl _) (by rintro j _ ⟨q,u,g1,g2,bw⟩;simp at u;subst u;exact g1 rfl);have ah:=t' (i' (aN f J));have bc:=J.size;clear z J;go_simp;refine(i' ah).mono ?_;rintro aj aO ⟨rfl,O,k1,k2,k3⟩;exact⟨_,rfl,ac' (.head _) k3,rfl,O,k1,bw' k2 bc⟩
  ·clear z;obtain⟨Q,_⟩:=Q;go_simp;exact⟨_,rfl,Far.refl _ _,rfl⟩
 ·intro H f hF aC;obtain⟨_,O,k1,k2⟩:=aC.2.2.2.2.2.2.2.2.2.2.2.1;have bd:=aC.2.2.2.2.2.2.2.2.2.2.2.2.1;have hF:Far (StU c.s c.dp c.dlv c.duv) w f:=hF.mono (fun k _ h=>by obtain⟨q,u,h⟩:=h;simp at u;subst u;exact h);have aP:aL' f p e logs sh aa {c with duv:=O}:=⟨(i' U).ks.far hF (fun k r h=>(i' U).sep k r h),k1,(i' U).rl.far hF (fun g M h=>((i' U).sepr g M).2 h),ba⟩;have V:=t' aP;have be:=t' hF;have bf:=t' k2;clear aC hF k1 k2 aP;simp only[R',bd];generalize H 14=bz;generalize H 15=bA;generalize H 16=bB;generalize H 17=bC;generalize H 18=bD;generalize H 19=bE;generalize H 20=bF;generalize H 21=bG;generalize H 22=bH;generalize H 23=bI;generalize H 24=bJ;generalize H 25=bK;have ap:∀ (aD:Nat->List ByteArray) (aq:World) (aE:Array Value) (au:Nat->Value),fy' aq p e aD sh aE c.s au c.nv c.mv c.rv->Far (fun k=>k=p\/(c.lv i).ownBlock=some k) f aq->(∀j,j < 3->Loc f (c.lv j) (au j))->bg' w aq p e aD sh aa c:=by
   intro aD aq aE au bg Q hl;have F:=i' V;have aQ:=i' be;refine⟨{c with arr:=aE,lv:=au,duv:=O},⟨bg,F.stt.far Q (fun k r X=>?_),F.rl.far Q (fun g M X=>?_),F.len⟩,?_,?_,rfl,rfl⟩
   ·rcases X with rfl|X
    ·exact F.sep _ (.inl rfl) r
    ·exact F.sep k (.inr (.inl ⟨i,hi,X⟩)) r
   ·rcases X with rfl|X
    ·exact(F.sepr _ M).1 (.inl rfl)
    ·exact(F.sepr _ M).1 (.inr (.inl ⟨i,hi,X⟩))
   ·exact(aQ.mono (fun _ _ h=> .inr (.inl h))).trans Q (fun k _ h=>h.elim (fun h=> .inl (.inl h)) (fun h=> .inl (.inr (.inl ⟨i,hi,h⟩))))
   ·have bL:=aQ.size;have bh:=i' bf;rintro k ((rfl|⟨j,hj,r⟩|r)|(rfl|rfl|r|r)|r)
    ·exact .inl (.inl (.inl rfl))
    ·rcases hl j hj with h|h|⟨g,h,M⟩
     ·rw[h]at r;cases r
     ·exact .inl (.inl (.inr (.inl ⟨j,hj,by rw[<-h];exact r⟩)))
     ·rw[h]at r;cases r;exact .inr (by omega)
    ·exact .inl (.inl (.inr (.inr r)))
    ·exact .inl (.inr (.inl (.inl rfl)))
    ·exact .inl (.inr (.inl (.inr (.inl rfl))))
    ·exact .inl (.inr (.inl (.inr (.inr (.inl r)))))
    ·rcases bh with h|h|⟨g,h,M⟩
     ·rw[h]at r;cases r
     ·exact .inl (.inr (.inl (.inr (.inr (.inr (by rw[<-h];exact r))))))
     ·rw[h]at r;cases r;exact .inr M
    ·exact .inl (.inr (.inr r))
  by_cases h0:Z=0
  ·subst h0;have F:=(i' V).ks;have bi:f.cell? ⟨p,2+i * 3,none⟩=some (.slice G (logs i).length cap):=by rw[m' F.blk,F.al i hi,i' ao]
   have bM:f.frozen? ⟨p,2+i * 3,none⟩=false:=D' (i:=2+i * 3) F.blk;have aR:=F.lgs i hi;have bj:=t' aR;have aF:=t' ap;clear F aR ap;have bk:(logs i).length<=1000:=by omega
   have av:ao' f 9 1 (.slice G (logs i).length cap) (logs i).length (aK' (logs i)):=by have:=i' bj;rw[show({c with duv:=O}:Sv).lv i= .slice G (logs i).length cap from i' ao]at this;exact this
   have aS:=fun ai=>t' (av.keep (w':=f.alloc ai) (fun g M=>hao _ _ (av.lt g M)));obtain⟨m,ab⟩:∃m,m=(logs i).length:=⟨_,rfl⟩;obtain⟨ac,aG⟩:∃ac,ac=aK' (logs i):=⟨_,rfl⟩;rw[<-ab]at bk bi;rw[<-ab,<-aG]at aS;have bl:=t' (And.intro ab aG);have bm:∀ai Y I,ao' I 9 1 Y (m+1) (ac++[.string b])->App (f.alloc ai) I (.slice G m cap) Y->∃ax ay,Y= .slice ax (m+1) ay/\I.cell? ⟨p,2+i * 3,none⟩=some (.slice G m cap)/\I.frozen? ⟨p,2+i * 3,none⟩=false/\
     Hid (ao' I 9 1 Y (m+1) (ac++[.string b])/\Loc f (.slice G m cap) Y/\Far (fun k=>(Value.slice G m cap).ownBlock=some k) f I):=by
    intro ai Y I h1 h2;obtain⟨ax,ay,bn,_⟩:=h1.shape;have aT:Far (fun k=>(Value.slice G m cap).ownBlock=some k) f I:=(A' (E:=fun k=>(Value.slice G m cap).ownBlock=some k) ((Below.refl _ _).alloc (Nat.le_refl _) ai)).trans (bl' h2.grown) (fun _ _ h=>h);have aU:(Value.slice G m cap).ownBlock≠some p:=by rw[ab];exact av.ne (i' V).ks.blk (by decide)
    have aV:=aT.blk (i' V).ks.blk aU;refine⟨ax,ay,bn,?_,D' (i:=2+i * 3) aV,t' ⟨h1,gQ' (w:=f) (by simp) h2,aT⟩⟩;rw[m' aV,(i' V).ks.al i hi,ab];exact congrArg some (i' ao)
   clear av ab aG;go_upto_region 6 with (at_builtin;refine gU' rfl (.tmp 33) (.tmp 35) 45 rfl 9 _ 1 16 Tryz.underlying45 mX' rfl _ m ac (i' (aS _)) rfl ⟨f.heap.size,0,none⟩ 1 1 [.string b] rfl rfl bP' (by intro bN hu;simp at hu;subst hu;rfl) (by omega) (by omega) (by omega) ?_;intro Y I h1 h2;obtain⟨ax,ay,rfl,bO,bP,bo⟩:=bm _ _ _ h1 h2;clear h1 h2;go_simp);go_wp2;go_ret;obtain⟨bp,aW,aX⟩:=i' bo;obtain⟨aY,bq⟩:=i' bl;have az:c.lv i= .slice G m cap:=by rw[aY];exact i' ao
   refine⟨rfl,(i' aF) _ _ _ _ (oE' (i' V).ks i hi b _ ?_ ?_ ?_ ?_) ?_ ?_⟩
   ·show Far (fun k=>(c.lv i).ownBlock=some k) f I;rw[az];exact aX
   ·rw[<-aY,show aK' (logs i++[b])=ac++[.string b] by rw[bq];simp[aK']];exact bp
   ·show Loc f (c.lv i) _;rw[az];exact aW
   ·rw[<-(i' bb).1];exact aI
   ·rw[az];exact(aX.mono (fun _ _ h=> .inr h)).trans (O' I p (2+i * 3) _) (fun _ _ h=> .inl h)
   ·intro j hj;show Loc f (c.lv j) (if j=i then _ else c.lv j);by_cases aH:j=i
    ·rw[if_pos aH,aH,az];exact aW
    ·rw[if_neg aH];exact .inr (.inl rfl)
  ·have aU:(Z==0)=false:=by simpa using h0
   have aF:=t' (ap logs f c.arr c.lv (i' V).ks (Far.refl _ _) (fun _ _=> .inr (.inl rfl)));clear ap;go_wp2;go_ret;exact⟨rfl,i' aF⟩
def gE':List (Nat×Value)->Nat->List (Nat×Value)
 |[],_=>[]
 |x::f,n=>if x.1=n then f else x::gE' f n
theorem fz':∀ (l:List (Nat×Value)) (n:Nat),(gE' l n).Sublist l
 |[],_=>List.Sublist.refl _
 |x::f,n=>by
  unfold gE';split
  ·exact List.sublist_cons_self _ _
  ·exact(fz' f n).cons_cons _
theorem mr' {l:List (Nat×Value)} (hs:(l.map (·.1)).Pairwise (· < ·)) (n:Nat):an' (gE' l n)=lH' (an' l) n:=by
 induction l with
 |nil=>funext k;simp[gE',an',lH']
 |cons x r ih=>
  rw[List.map_cons,List.pairwise_cons]at hs;unfold gE';split
  ·rename_i h;subst h;exact(kj' (fun y f=>hs.1 y.1 (List.mem_map.2 ⟨y,f,rfl⟩))).symm
  ·rename_i h;funext k;have:=congrFun (ih hs.2) k;unfold lH' at this ⊢;rw[bQ',bQ',this];by_cases h1:k=(x.1:Int)
   ·rw[if_pos h1,if_pos h1,if_neg (by omega)]
   ·rw[if_neg h1,if_neg h1]
theorem sq' {l:List (Nat×Value)} (hs:(l.map (·.1)).Pairwise (· < ·)) {n:Nat} (f:(l.map (·.1)).contains n=true):
  (gE' l n).map (·.1)=(l.map (·.1)).take ((l.map (·.1)).countP (· < n))++(l.map (·.1)).drop ((l.map (·.1)).countP (· < n)+1):=by
 induction l with
 |nil=>simp at f
 |cons x r ih=>
  have H:=hs;rw[List.map_cons,List.pairwise_cons]at hs;unfold gE';split
  ·rename_i h;subst h;have z:(r.map (·.1)).countP (· < x.1)=0:=fo' (fun y D=>by have:=hs.1 y D;omega);rw[List.map_cons,List.countP_cons,z];simp
  ·rename_i h;have u:(r.map (·.1)).contains n=true:=by
    rw[List.map_cons,List.contains_cons]at f;have F:(n==x.1)=false:=by simp;omega
    rw[F,Bool.false_or]at f;exact f
   have G:x.1 < n:=by
    have:n∈r.map (·.1):=by simpa using u
    exact hs.1 n this
   rw[List.map_cons,ih hs.2 u,List.map_cons,List.countP_cons];simp[G]
theorem qy' {w:World} {p o:Nat} {t:TypeId} {arr:Array Value} {nv mv:Value} {l:List (Nat×Value)} (S:ew' w p o t arr nv mv l) (n:Nat) (r:an' l n=none):
  Calls Tryz.prog 223 #[.pointer (some ⟨p,o,none⟩), .int .i64 n] w fun e w'=>e= .returned (.tuple #[rD', .bool false])/\Below w.heap.size w w':=by
 have z:=lt_of_block S.blk;have c1:∀f,(w.alloc f).cell? ⟨p,o+1,none⟩=some mv:=fun f=>(World.cell?_alloc_lt w _ ⟨p,o+1,none⟩ z).trans ((m' S.blk).trans S.c1);have u:=fun f=>(bf' (P:=Tryz.prog) (w:=w.alloc f) (t:=168) Tryz.underlying168 Tryz.underlying3 (qv' _) (S.sh.map.keep (fun g D=>hao _ _ (S.sh.lt g (.inr D)))) n).1;rw[r]at u;simp only[Option.getD_none,Option.isSome_none,rD']at u ⊢;clear S r;go_enter Tryz.func223,Tryz.ntmps223;go_wp2;refine bodyPost_ret (v:= .tuple #[.agg #[.string ⟨#[]⟩], .bool false]) (by simp[results,Tryz.results223,go_sem]) rfl ⟨rfl,?_⟩;exact((Below.refl _ _).alloc (Nat.le_refl _) _).alloc (by simp) _
theorem qz' {w:World} {p o:Nat} {t:TypeId} {arr:Array Value} {nv mv:Value} {l:List (Nat×Value)} (S:ew' w p o t arr nv mv l) (n:Nat) (b:ByteArray) (M:an' l n=some (dg' b)):
  Calls Tryz.prog 223 #[.pointer (some ⟨p,o,none⟩), .int .i64 n] w fun e w'=>e= .returned (.tuple #[dg' b, .bool true])/\dA' w w' p o t arr nv mv (gE' l n):=by
 have bg:o < arr.size:=(Array.getElem?_eq_some_iff.1 S.c0).1;have bB:o+1 < arr.size:=(Array.getElem?_eq_some_iff.1 S.c1).1;have aC:=lt_of_block S.blk;have Y:(l.map (·.1)).contains n=true:=by
  obtain⟨x,aD,h1,_⟩:=cZ' M;have:x.1=n:=by omega
  simp only[List.contains_eq_mem,decide_eq_true_eq];exact List.mem_map.2 ⟨x,aD,this⟩
 have bC:l.length<=1000:=S.sh.len;have ac:(l.map (·.1)).countP (· < n)+1<=(l.map (·.1)).length:=by
  have h1:(l.map (·.1)).countP (· < n)≠(l.map (·.1)).length:=by intro e;have h2:=List.countP_eq_length.1 e n (by simpa using Y);simp at h2
  have h2:(l.map (·.1)).countP (· < n)<=(l.map (·.1)).length:=List.countP_le_length;omega
 obtain⟨f,rfl,I⟩:∃f,mv= .map (some f)/\aT' w f (an' l):=by
  rcases S.sh.map with ⟨_,h⟩|⟨f,h1,h2⟩
  ·rw[h]at M;cases M
  ·exact⟨f,h1,h2⟩
 have bD:=I.lt;have aE:p≠f:=fun e=>I.not_cells (by rw[<-e];exact S.blk);have bh:=S.sh.nums.notMap I;have aF:nv.ownBlock≠some p:=fun e=>S.sh.ne S.blk S.ty (.inl e);obtain⟨bE,cap,aq,_⟩:=(ao'.of_own S.sh.nums).shape;rw[List.length_map]at aq;have c1:∀O,(w.alloc O).cell? ⟨p,o+1,none⟩=some (.map (some f)):=fun O=>(World.cell?_alloc_lt w _ ⟨p,o+1,none⟩ aC).trans ((m' S.blk).trans S.c1);have au:=fun O=>(bf' (P:=Tryz.prog) (w:=w.alloc O) (t:=168) Tryz.underlying168 Tryz.underlying3 (qv' _) (S.sh.map.keep (fun g r=>hao _ _ (S.sh.lt g (.inr r)))) n).1;rw[M]at au;simp only[Option.getD_some,Option.isSome_some,dg']at au ⊢;have ad:=t' S;have bF:=t' M;have aG:=t' Y;have bG:=t' aq;clear S M I Y aq;go_enter Tryz.func223,Tryz.ntmps223;go_upto_region 3 with fail;refine C' (fun x=>x.heap[w.heap.size]? =some (.cells #[.string ⟨#[]⟩] 235 (0,0))/\x.heap[w.heap.size+1]? =some (.cells #[.string b] 235 (0,0))/\Below w.heap.size w x) (bS' _ _ _) ?_;rintro x ⟨h0,h1,Z⟩;have G:ew' x p o t arr nv (.map (some f)) l:=by have S:=i' ad;exact⟨(Z.block _ aC).trans S.blk,S.c0,S.c1,S.sh.far (A' (E:=fun _=>False) Z) (fun _ _ h=>h),S.ty⟩
 have aH:x.cell? ⟨p,o,none⟩=some nv:=(m' G.blk).trans G.c0;have aD:=Z.size;have bH:=lt_of_block h1;obtain⟨k,Q⟩:∃k,k=(l.map (·.1)).countP (· < n):=⟨_,rfl⟩;have av:=t' (cu' G.sh.nums G.sh.sorted (by rw[List.length_map];omega) n);rw[<-Q,i' aG]at av;rw[<-Q]at ac;have ah:=fun q=>t' (dy' (w:=x.drewN q) G.sh.nums k (k+1) (by omega) ac);have ai:=sq' G.sh.sorted (i' aG);rw[<-Q]at ai;rw[<-ai]at ah;have bI:=t' (And.intro Q ai);have bi:=t' h0;have bj:=t' h1;have bk:=t' Z;have aj:=t' G;have bl:IntKind.i64.wrap ((k:Int)+1)=(k:Int)+1:=by rw[IntKind.wrap_i64];rw[List.length_map]at ac;omega
 have aI:((k:Nat):Int)+1=((k+1:Nat):Int):=by omega
 obtain⟨k1,aJ⟩:∃k1,k1=k+1:=⟨_,rfl⟩;rw[<-aJ]at ah aI;rw[aI]at bl;clear h0 h1 Z G c1 au Q ai aJ ac;go_upto_region 4 with (go_at_call 132;refine(i' av).mono ?_;rintro e y ⟨rfl,q,rfl⟩);have bJ:(x.drewN q).cell? ⟨p,o,none⟩=some nv:=aH;have aK:=t' (ah q);have aL:∀u nv',aF' u nv' ((gE' l n).map (·.1))->Far (fun g=>nv.ownBlock=some g) (x.drewN q) u->nv'.ownBlock=nv.ownBlock->∃aa ax ab,nv'= .slice aa ax ab/\u.cell? ⟨p,o,none⟩=some nv/\u.frozen? ⟨p,o,none⟩=false/\u.cell? ⟨p,o+1,none⟩=some (.map (some f))/\
   Hid (aF' u nv' ((gE' l n).map (·.1))/\Far (fun g=>nv.ownBlock=some g) x u/\nv'.ownBlock=nv.ownBlock/\u.heap[p]? =some (.cells arr t (0,0))):=by
  intro u nv' H U V;obtain⟨aa,ab,h2,_⟩:=(ao'.of_own H).shape;have aM:Far (fun g=>nv.ownBlock=some g) x u:=(A' (E:=fun g=>nv.ownBlock=some g) (below_drewN (Below.refl _ _) q)).trans U (fun _ _ h=>h);have X:=aM.blk (i' aj).blk aF;exact⟨aa,_,ab,h2,(m' X).trans (i' aj).c0,by simp[World.frozen?,X],(m' X).trans (i' aj).c1,t' ⟨H,aM,V,X⟩⟩
 clear aH ah av;go_upto_region 5 with (go_at_call 221;refine(i' (i' aK)).mono ?_;rintro e u ⟨nv',rfl,H,U,V⟩;obtain⟨aa,ax,ab,rfl,z0,bm,bn,ak⟩:=aL _ _ H U V;clear H U V);obtain⟨D,aN⟩:∃D,D=Value.slice aa ax ab:=⟨_,rfl⟩;rw[<-aN]at ak ⊢;refine C' (fun F=>F.heap[p]? =some (.cells (arr.setIfInBounds o D) t (0,0))/\aF' F D ((gE' l n).map (·.1))/\aT' F f (an' l)/\Far (fun g=>g=p\/nv.ownBlock=some g) x F) ?_ ?_
 ·obtain⟨H,U,V,X⟩:=i' ak;have J:=O' u p o D;have aO:Far (fun g=>g=p\/nv.ownBlock=some g) x (u.setCell ⟨p,o,none⟩ D):=(U.mono (fun _ _ h=> .inr h)).trans J (fun _ _ h=> .inl h);refine⟨af' X,H.keep (fun g r=>J.rest g (World.ownsRow.lt H g r).2 (fun e=>aF (by rw[<-V,r,e]))),?_,aO⟩;have I:aT' x f (an' l):=by
   rcases(i' aj).sh.map with ⟨h,_⟩|⟨bK,h1,h2⟩
   ·cases h
   ·cases h1;exact h2
  exact I.keep (aO.rest f I.lt (fun e=>e.elim (fun e=>aE e.symm) (fun e=>bh e)))
 have aP:D.ownBlock=nv.ownBlock:=(i' ak).2.2.1;clear z0 bm bn ak aL aK aN;rintro F ⟨ay,aQ,ao,az⟩;have bo:F.cell? ⟨p,o+1,none⟩=some (.map (some f)):=by rw[m' ay,Array.getElem?_setIfInBounds_ne (by omega)];exact(i' ad).c1
 obtain⟨O,aR,aS⟩:=eJ' (P:=Tryz.prog) (w:=F) (t:=168) (K':=3) Tryz.underlying168 Tryz.underlying3 ao n;have bp:=fun ty=>aR ty F rfl;have bL:=az.size;have bM:=ao.lt;have aT:=t' ay;have ap:=t' aQ;have aU:=t' aS;have bq:=t' ao;have aV:=t' az;clear ay aQ ao az aR aS;go_upto_region 6 with fail;have aW:∀g,nv.ownBlock=some g->g < w.heap.size:=fun g r=>(i' ad).sh.lt g (.inl r);refine C' (fun z=>z.heap[p]? =some (.cells (arr.setIfInBounds o D) t (0,0))/\aF' z D ((gE' l n).map (·.1))/\aT' z f (lH' (an' l) n)/\Far (fun g=>(g=p\/nv.ownBlock=some g)\/g=f) x z/\z.heap[w.heap.size]? =some (.cells #[.string ⟨#[]⟩] 235 (0,0))/\z.heap[w.heap.size+1]? =some (.cells #[.string b] 235 (0,0))) ?_ ?_
 ·have aA:=aW' (w:=F) f O;have hF:=(i' aV).mono (E':=fun g=>(g=p\/nv.ownBlock=some g)\/g=f) (fun _ _ h=> .inl h) |>.trans aA (fun _ _ h=> .inr h);have aX:∀g,w.heap.size<=g->¬ ((g=p\/nv.ownBlock=some g)\/g=f):=by
   rintro g r ((h|h)|h)
   ·omega
   ·have:=aW g h;omega
   ·omega
  refine⟨aA.blk (i' aT) aE,(i' ap).keep (fun g r=>aA.rest g (World.ownsRow.lt (i' ap) g r).2 ?_),i' aU,hF,hF.blk (i' bi) (aX _ (Nat.le_refl _)),hF.blk (i' bj) (aX _ (by omega))⟩;rintro rfl;obtain⟨aY,Y⟩:∃aY,F.heap[g]? =some (.cells aY 3 (0,0)):=by
   rcases(i' ap).cases with ⟨e,_⟩|⟨g',bN,bO,e,br,_⟩
   ·rw[e]at r;cases r
   ·rw[e]at r;cases r;exact⟨_,br⟩
  exact(i' bq).not_cells Y
 rintro z ⟨aZ,ba,bb,bc,aB,bd⟩;have bt:z.cell? ⟨w.heap.size,0,none⟩=some (.string ⟨#[]⟩):=m' (i:=0) aB;have bP:z.cell? ⟨w.heap.size+1,0,none⟩=some (.string b):=m' (i:=0) bd;have bQ:z.frozen? ⟨w.heap.size,0,none⟩=false:=D' (i:=0) aB;have bu:=t' aZ;have be:=t' ba;have bf:=t' bb;have bw:=t' bc;clear aZ ba bb bc aB bd aT ap aU aV bp bo;go_wp2;refine bodyPost_ret (v:= .tuple #[.agg #[.string b], .bool true]) (by simp[results,Tryz.results223,go_sem,bt]) rfl ⟨rfl,?_⟩;have J:=O' z w.heap.size 0 (.string b);have S:=i' ad;have bz:p≠w.heap.size:=by omega
 refine⟨⟨D,⟨J.blk (i' bu) bz,by simp[bg],by rw[Array.getElem?_setIfInBounds_ne (by omega)];exact S.c1,⟨(i' be).keep (fun g r=>J.rest g (World.ownsRow.lt (i' be) g r).2 (fun e=>?_)), .inr ⟨f,rfl,?_⟩,?_,?_⟩,S.ty⟩,aP⟩,?_⟩
 ·rw[aP]at r;have:=aW g r;omega
 ·rw[mr' S.sh.sorted n];exact(i' bf).keep (J.rest f (i' bf).lt (by omega))
 ·exact S.sh.sorted.sublist ((fz' l n).map _)
 ·exact Nat.le_trans (fz' l n).length_le S.sh.len
 ·have bA:Far (fun k=>k=p\/ShU nv (.map (some f)) k) w z:=(A' (E:=fun k=>k=p\/ShU nv (.map (some f)) k) (i' bk)).trans (i' bw) (fun k _ h=>by
   rcases h with (h|h)|h
   ·exact .inl h
   ·exact .inr (.inl h)
   ·exact .inr (.inr (by rw[h];rfl)))
  exact bA.trans J (fun k Q h=>by omega)
end Go.Proofs.YtamafdcnbcoegaaGreat
namespace Go.Proofs.YtamafdcnbcoegaaGreat
def da' (held:List (Nat×Nat×ByteArray)) (sh:Nat->List (Nat×Value)):Prop:=∀s,s < 3->∀ (q:Nat) (b:ByteArray),an' (sh s) (q:Int)=some (dg' b) ↔ (s,q,b) ∈held
structure bh' (a:Mod.Sk):Prop where
 bod:∀h∈a.held,h.2.2.size<=20
 nxt:a.count < 120->∀s,s < 3->∀b,(s,(a.logs s).length+1,b) ∉a.held
theorem kt' {st q:Nat}:∀ {l:List (Nat×Nat×ByteArray)} {i k:Nat},Mod.ixFrom st q i l=some k->∃ (h:k - i < l.length),l[k - i].1=st/\l[k - i].2.1=q/\i<=k
 |[],_,_,h=>by simp[Mod.ixFrom]at h
 |x::l,i,k,h=>by
  rw[Mod.ixFrom]at h;split at h
  ·rename_i f;injection h with h;subst h;simpa using f
  ·obtain⟨h1,h2,h3,h4⟩:=kt' h;have e:k - i=(k - (i+1))+1:=by omega
   simp only[e];exact⟨by simp;omega,by simpa using h2,by simpa using h3,by omega⟩
theorem eZ' {st q:Nat}:∀ {l:List (Nat×Nat×ByteArray)} {i:Nat},Mod.ixFrom st q i l=none->∀b,(st,q,b) ∉l
 |[],_,_=>by simp
 |x::l,i,h=>by
  rw[Mod.ixFrom]at h;split at h
  ·cases h
  ·rename_i r;intro b f;cases f with
   |head=>exact r ⟨rfl,rfl⟩
   |tail _ f=>exact eZ' h b f
theorem jN' {a:Mod.Sk} {st q i:Nat} (h:a.ix st q=some i):(st,q,(a.held.getD i (0,0,⟨#[]⟩)).2.2) ∈a.held:=by
 obtain⟨h1,h2,h3,h4⟩:=kt' h;simp only[Nat.sub_zero]at h1 h2 h3;rw[List.getD_eq_getElem?_getD,List.getElem?_eq_getElem h1,Option.getD_some];have:=List.getElem_mem h1;rw[show(st,q,a.held[i].2.2)=a.held[i] by rw[<-h2,<-h3]];exact this
theorem jO' {a:Mod.Sk} {st q:Nat} (h:a.ix st q=none):∀b,(st,q,b) ∉a.held:=eZ' h
theorem sr' {a:Mod.Sk} (z:ay' a) {s q:Nat} {b u:ByteArray} (h:(s,q,b) ∈a.held) (f:(s,q,u) ∈a.held):b=u:=by
 have r:=z.once;have:∀ (l:List (Nat×Nat×ByteArray)),(l.map fun h=>(h.1,h.2.1)).Nodup->(s,q,b) ∈l->(s,q,u) ∈l->b=u:=by
  intro l;induction l with
  |nil=>intro _ h;cases h
  |cons x D ih=>
   intro r h f;rw[List.map_cons,List.nodup_cons]at r;cases h with
   |head=>
    cases f with
    |head=>rfl
    |tail _ f=>exact absurd (List.mem_map.2 ⟨_,f,rfl⟩) r.1
   |tail _ h=>
    cases f with
    |head=>exact absurd (List.mem_map.2 ⟨_,h,rfl⟩) r.1
    |tail _ f=>exact ih r.2 h f
 exact this a.held r h f
structure qA' (a:Mod.Sk) (s q:Nat) (b:ByteArray) (out:List ByteArray) (sh:Nat->List (Nat×Value)):Prop where
 on:∀t,t < 3->∀ (n:Nat) (c:ByteArray),an' (sh t) (n:Int)=some (dg' c) ↔ ((t,n,c) ∈a.held/\(t=s->(a.logs s).length+out.length < n))
 are:∀t,t < 3->gD' (sh t)
 pos:0 < out.length
 len:a.count+out.length<=120
 run:a.commitFrom s q a.count (121 - out.length) out=a.commitFrom s q a.count 120 [b]
 bod:∀c∈out,c.size<=20
theorem qB' {a:Mod.Sk} {sh:Nat->List (Nat×Value)} (r:ay' a) (u:bh' a) (z:da' a.held sh) (A:∀t,t < 3->gD' (sh t)) (s:Nat) (b:ByteArray) (hs:s < 3) (D:b.size<=20) (F:a.count < 120):qA' a s ((a.logs s).length+1) b [b] sh:=by
 refine⟨fun t f n c=>?_,A,by simp,by simp;omega,by simp,by simpa using D⟩;rw[z t f n c];constructor
 ·intro h;refine⟨h,fun e=>?_⟩;subst e;have h1:=(r.held _ h).2.1;have h2:=u.nxt F t f c;simp only[List.length_singleton]at h1 ⊢;rcases Nat.lt_or_ge ((a.logs t).length+1) n with h3|h3
  ·exact h3
  ·have:n=(a.logs t).length+1:=by omega
   subst this;exact absurd h h2
 ·exact fun h=>h.1
theorem ss' {a:Mod.Sk} {s:Nat} {b:ByteArray} {out:List ByteArray} {sh:Nat->List (Nat×Value)} (D:ay' a) (F:bh' a) (hs:s < 3) (f:qA' a s ((a.logs s).length+1) b out sh) (G:a.count+out.length < 120) {c:ByteArray} (H:((sh s).map (·.1)).Pairwise (· < ·))
  (hl:an' (sh s) (((a.logs s).length+out.length+1:Nat):Int)=some (dg' c)):
  qA' a s ((a.logs s).length+1) b (out++[c]) (fun t=>if t=s then gE' (sh s) ((a.logs s).length+out.length+1)else sh t):=by
 have u:=((f.on s hs _ c).1 hl).1;refine⟨fun t r n d=>?_,fun t r=>?_,by simp,by simp;omega,?_,?_⟩
 ·by_cases e:t=s
  ·subst e;rw[if_pos rfl,mr' H];unfold lH';by_cases h1:(n:Int)=(((a.logs t).length+out.length+1:Nat):Int)
   ·rw[if_pos h1];simp;intro _;omega
   ·rw[if_neg h1,f.on t r n d];simp;intro _;omega
  ·rw[if_neg e,f.on t r n d];simp[e]
 ·show gD' (if t=s then _ else sh t);by_cases e:t=s
  ·rw[if_pos e];exact fun x I=>f.are s hs x ((fz' _ _).subset I)
  ·rw[if_neg e];exact f.are t r
 ·rw[<-f.run];have J:(out++[c]).length=out.length+1:=by simp
  rw[J];have M:121 - out.length=(121 - (out.length+1))+1:=by have:=f.len;omega
  rw[M];have z:(a.logs s).length+1+out.length=(a.logs s).length+out.length+1:=by omega
  cases hi:a.ix s ((a.logs s).length+1+out.length)with
  |none=>have:=jO' hi c;rw[z]at this;exact absurd u this
  |some i=>rw[Mod.Sk.commitFrom_some G hi];have h2:=jN' hi;rw[z]at h2;rw[sr' D u h2]
 ·intro d hd;rw[List.mem_append,List.mem_singleton]at hd;rcases hd with hd|rfl
  ·exact f.bod d hd
  ·exact F.bod _ u
theorem ms' {a:Mod.Sk} {s:Nat} {b:ByteArray} {out:List ByteArray} {sh:Nat->List (Nat×Value)} (hs:s < 3) (f:qA' a s ((a.logs s).length+1) b out sh)
  (h:¬a.count+out.length < 120\/an' (sh s) (((a.logs s).length+out.length+1:Nat):Int)=none):out=a.commitFrom s ((a.logs s).length+1) a.count 120 [b]:=by
 rw[<-f.run];rcases h with h|h
 ·exact(Mod.Sk.commitFrom_stop h).symm
 ·by_cases r:a.count+out.length < 120
  ·refine(Mod.Sk.commitFrom_none r ?_).symm;cases hi:a.ix s ((a.logs s).length+1+out.length)with
   |none=>rfl
   |some i=>have h2:=jN' hi;rw[show(a.logs s).length+1+out.length=(a.logs s).length+out.length+1 by omega]at h2;have:=(f.on s hs _ _).2 ⟨h2,fun _=>by omega⟩;rw[h]at this;cases this
  ·exact(Mod.Sk.commitFrom_stop r).symm
theorem uK' {a:Mod.Sk} {s:Nat} {b:ByteArray} {out:List ByteArray} {sh:Nat->List (Nat×Value)} (f:qA' a s ((a.logs s).length+1) b out sh):da' (bT' a s out).held sh:=by
 intro t r n c;rw[f.on t r n c];show _↔ _∈ (a.held.filter (Mod.keeps s (a.logs s++out).length));rw[List.mem_filter,List.length_append];unfold Mod.keeps;by_cases e:t=s
 ·subst e;simp
 ·simp[e]
end Go.Proofs.YtamafdcnbcoegaaGreat
namespace Go.Proofs.YtamafdcnbcoegaaGreat
open Go.RowKit
section
variable {w x y:World} {p e e2:Nat} {logs logs2:Nat->List ByteArray} {sh sh2:Nat->List (Nat×Value)} {st st2:Mod.Stv} {c:Sv}
theorem oF' (f:aL' w p e logs sh st c):bg' w w p e logs sh st c:=⟨c,f,Far.refl _ _,fun _ h=> .inl h,rfl,rfl⟩
theorem bg'.trans (h:bg' w x p e logs sh st c) (u:∀f,aL' x p e logs sh st f->bg' x y p e2 logs2 sh2 st2 f):bg' w y p e2 logs2 sh2 st2 c:=by
 obtain⟨c1,h1,h2,h3,h4,h5⟩:=h;obtain⟨c2,k1,k2,k3,k4,k5⟩:=u c1 h1;refine⟨c2,k1,h2.trans k2 (fun k r hu=>(h3 k hu).elim id (fun h=>by omega)),fun k r=>?_,k4.trans h4,k5.trans h5⟩;rcases k3 k r with h|h
 ·exact h3 k h
 ·exact .inr (Nat.le_trans h2.size h)
theorem bg'.below (h:bg' w x p e logs sh st c) (f:Below x.heap.size x y):bg' w y p e logs sh st c:=
 h.trans (fun r u=>⟨r,u.far (A' (E:=fun _=>False) f) (fun _ _ h=>h),A' f,fun _ h=> .inl h,rfl,rfl⟩)
theorem aL'.shAt (f:aL' w p e logs sh st c) {i:Nat} (hi:i < 3):ew' w p (2+i * 3+1) 176 c.arr (c.nv i) (c.mv i) (sh i):=
 ⟨f.ks.blk,f.ks.an i hi,f.ks.am i hi,f.ks.shs i hi,by decide⟩
theorem rE' (f:aL' w p e logs sh st c) {i:Nat} (hi:i < 3) {F:List (Nat×Value)} {nv' mv':Value} (S:ew' x p (2+i * 3+1) 176 ((c.arr.setIfInBounds (2+i * 3+1) nv').setIfInBounds (2+i * 3+1+1) mv') nv' mv' F) (O:Loc w (c.nv i) nv')
  (Q:aQ' mv'=aQ' (c.mv i)\/∃g,aQ' mv'=some g/\w.heap.size<=g) (hF:Far (fun k=>k=p\/ShU (c.nv i) (c.mv i) k) w x) (A:gD' F):
  aL' x p e logs (fun t=>if t=i then F else sh t) st {c with arr:=(c.arr.setIfInBounds (2+i * 3+1) nv').setIfInBounds (2+i * 3+1+1) mv',nv:=fun t=>if t=i then nv' else c.nv t,mv:=fun t=>if t=i then mv' else c.mv t}/\
   (∀k,ShU nv' mv' k->ShU (c.nv i) (c.mv i) k\/w.heap.size<=k):=by
 have M:∀k,(k=p\/ShU (c.nv i) (c.mv i) k)->KsU p c.lv c.nv c.mv k:=fun k r=>r.elim .inl (fun h=> .inr (.inr ⟨i,hi,h⟩));have U:=f.stt.far hF (fun k r h=>f.sep k (M k h) r);have V:=f.rl.far hF (fun g z h=>(f.sepr g z).1 (M g h));have X:=f.ks.sz;have D:∀j,j≠2+i * 3+1->j≠2+i * 3+2->((c.arr.setIfInBounds (2+i * 3+1) nv').setIfInBounds (2+i * 3+1+1) mv')[j]? =c.arr[j]? :=fun j h1 h2=>by rw[Array.getElem?_setIfInBounds_ne (by omega),Array.getElem?_setIfInBounds_ne (by omega)]
 have J:∀k,ShU nv' mv' k->ShU (c.nv i) (c.mv i) k\/w.heap.size<=k:=by
  rintro k (r|r)
  ·rcases O with h|h|⟨g,h,z⟩
   ·rw[h]at r;cases r
   ·exact .inl (.inl (by rw[<-h];exact r))
   ·rw[h]at r;cases r;exact .inr z
  ·rcases Q with h|⟨g,h,z⟩
   ·exact .inl (.inr (by rw[<-h];exact r))
   ·rw[h]at r;cases r;exact .inr z
 refine⟨⟨⟨S.blk,by simpa using X,?_,?_,?_,?_,?_,?_,?_,?_,?_,f.ks.apl,?_,f.ks.cnt,f.ks.ep⟩,U,V,f.len⟩,J⟩
 ·rw[D _ (by omega) (by omega)];exact f.ks.a0
 ·rw[D _ (by omega) (by omega)];exact f.ks.a1
 ·intro j hj;rw[D _ (by omega) (by omega)];exact f.ks.al j hj
 ·intro j hj;show _=some (if j=i then nv' else c.nv j);by_cases e:j=i
  ·subst e;rw[if_pos rfl];exact S.c0
  ·rw[if_neg e,D _ (by omega) (by omega)];exact f.ks.an j hj
 ·intro j hj;show _=some (if j=i then mv' else c.mv j);by_cases e:j=i
  ·subst e;rw[if_pos rfl];exact S.c1
  ·rw[if_neg e,D _ (by omega) (by omega)];exact f.ks.am j hj
 ·rw[D _ (by omega) (by omega)];exact f.ks.ar
 ·intro j hj;refine(f.ks.lgs j hj).far hF (fun g z h=>?_);obtain⟨Z,Y⟩:=cy' (f.ks.lgs j hj) z;rcases h with h|h
  ·exact(f.ks.lgs j hj).ne f.ks.blk (by decide) (by rw[z,h])
  ·exact(f.ks.shs i hi).ne Y (by decide) h
 ·intro j hj;show aJ' x (if j=i then nv' else c.nv j) (if j=i then mv' else c.mv j) (if j=i then F else sh j);by_cases e:j=i
  ·rw[if_pos e,if_pos e,if_pos e];exact S.sh
  ·rw[if_neg e,if_neg e,if_neg e];refine(f.ks.shs j hj).far hF (fun k r h=>?_);rcases h with h|h
   ·exact(f.ks.shs j hj).ne f.ks.blk (by decide) (by rw[<-h];exact r)
   ·exact f.ks.aps j i hj hi e k r h
 ·intro j hj;show gD' (if j=i then F else sh j);by_cases e:j=i
  ·rw[if_pos e];exact A
  ·rw[if_neg e];exact f.ks.are j hj
 ·intro j u hj H G k r;replace r:ShU (if j=i then nv' else c.nv j) (if j=i then mv' else c.mv j) k:=r;show ¬ShU (if u=i then nv' else c.nv u) (if u=i then mv' else c.mv u) k;by_cases h1:j=i
  ·subst h1;rw[if_pos rfl,if_pos rfl]at r;rw[if_neg (fun e=>G e.symm),if_neg (fun e=>G e.symm)];intro I;rcases J k r with h|h
   ·exact f.ks.aps j u hj H G k h I
   ·have:=(f.ks.shs u H).lt k I;omega
  ·rw[if_neg h1,if_neg h1]at r;by_cases h2:u=i
   ·subst h2;rw[if_pos rfl,if_pos rfl];intro I;rcases J k I with h|h
    ·exact f.ks.aps j u hj H G k r h
    ·have:=(f.ks.shs j hj).lt k r;omega
   ·rw[if_neg h2,if_neg h2];exact f.ks.aps j u hj H G k r
theorem mt' (u:aL' w p e logs sh st c) {i:Nat} (hi:i < 3) {r:List (Nat×Value)} (h:bY' w x p (2+i * 3+1) 176 c.arr (c.nv i) (c.mv i) r) (A:gD' r):
  bg' w x p e logs (fun t=>if t=i then r else sh t) st c:=by
 obtain⟨⟨nv',mv',S,z,D⟩,hF⟩:=h;have F:∀k,(k=p\/ShU (c.nv i) (c.mv i) k)->KsU p c.lv c.nv c.mv k:=fun k f=>f.elim .inl (fun h=> .inr (.inr ⟨i,hi,h⟩));obtain⟨G,H⟩:=rE' u hi S z D hF A;refine⟨_,G,?_,?_,rfl,rfl⟩
 ·exact hF.mono (fun k _ h=> .inl (F k h))
 ·rintro k ((rfl|f|⟨j,hj,f⟩)|f|f)
  ·exact .inl (.inl (.inl rfl))
  ·exact .inl (.inl (.inr (.inl f)))
  ·have f:ShU (if j=i then nv' else c.nv j) (if j=i then mv' else c.mv j) k:=f;by_cases e:j=i
   ·rw[if_pos e,if_pos e]at f;exact(H k f).elim (fun h=> .inl (.inl (.inr (.inr ⟨i,hi,h⟩)))) .inr
   ·rw[if_neg e,if_neg e]at f;exact .inl (.inl (.inr (.inr ⟨j,hj,f⟩)))
  ·exact .inl (.inr (.inl f))
  ·exact .inl (.inr (.inr f))
def su' (w r:World) (p e:Nat) (logs:Nat->List ByteArray) (sh:Nat->List (Nat×Value)) (st:Mod.Stv) (c:Sv):Prop:=
 ∃f,aL' r p e logs sh st f/\(∀k,PkU p f k->PkU p c k)/\Far (PkU p c) w r/\f.s=c.s/\f.rv=c.rv
theorem su'.far {E:Nat->Prop} (h:su' w x p e logs sh st c) (u:∀k,PkU p c k->k < w.heap.size) (hF:Far E x y) (f:∀k,E k->w.heap.size<=k):su' w y p e logs sh st c:=by
 obtain⟨z,h1,h2,h3,h4,h5⟩:=h;exact⟨z,h1.far hF (fun k r e=>by have:=u k (h2 k r);have:=f k e;omega),h2,h3.trans hF (fun k r e=>by have:=f k e;omega),h4,h5⟩
theorem sv' (u:aL' w p e logs sh st c) {i:Nat} (hi:i < 3) {r:List (Nat×Value)} (h:dA' w x p (2+i * 3+1) 176 c.arr (c.nv i) (c.mv i) r) (A:gD' r):
  su' w x p e logs (fun t=>if t=i then r else sh t) st c:=by
 obtain⟨⟨nv',S,z⟩,hF⟩:=h;have e2:(c.arr.setIfInBounds (2+i * 3+1) nv').setIfInBounds (2+i * 3+1+1) (c.mv i)=c.arr.setIfInBounds (2+i * 3+1) nv':=bb' (by rw[Array.getElem?_setIfInBounds_ne (by omega)];exact u.ks.am i hi);obtain⟨D,_⟩:=rE' (nv':=nv') (mv':=c.mv i) u hi (by rw[e2];exact S) (.inr (.inl z)) (.inl rfl) hF A;have F:∀k,ShU nv' (c.mv i) k->ShU (c.nv i) (c.mv i) k:=fun k f=>f.elim (fun h=> .inl (by rw[<-z];exact h)) .inr;refine⟨_,D,?_,hF.mono (fun k _ h=> .inl (h.elim .inl (fun h=> .inr (.inr ⟨i,hi,h⟩)))),rfl,rfl⟩;rintro k ((rfl|f|⟨j,hj,f⟩)|f|f)
 ·exact .inl (.inl rfl)
 ·exact .inl (.inr (.inl f))
 ·have f:ShU (if j=i then nv' else c.nv j) (if j=i then c.mv i else c.mv j) k:=f;by_cases e:j=i
  ·rw[if_pos e,if_pos e]at f;exact .inl (.inr (.inr ⟨i,hi,F k f⟩))
  ·rw[if_neg e,if_neg e]at f;exact .inl (.inr (.inr ⟨j,hj,f⟩))
 ·exact .inr (.inl f)
 ·exact .inr (.inr f)
end
def vu' (st:Mod.Stv):Prop:=st.dk.dead=false/\st.dk.armed=0
structure iB' (w:World) (p:Nat) (g:Nat->Nat) (tk:Nat) (wel fen:Bool) (free:List Nat) (sh:Nat->List (Nat×Value)) (arr:Array Value) (s:Nat) (nv mv:Nat->Value) (fv rv:Value):Prop where
 blk:w.heap[p]? =some (.cells arr 151 (0,0))
 sz:arr.size=27
 a0:arr[0]? =some (y' s)
 ag:∀i,i < 3->arr[1+i]? =some (.int .i64 (g i))
 an:∀k,k < 9->arr[4+k * 2]? =some (nv k)
 am:∀k,k < 9->arr[4+k * 2+1]? =some (mv k)
 af:arr[22]? =some fv
 at':arr[23]? =some (.int .i64 tk)
 aw:arr[24]? =some (.bool wel)
 ae:arr[25]? =some (.bool fen)
 ar:arr[26]? =some rv
 fr:ao' w 3 1 fv free.length (H' free)
 shs:∀k,k < 9->aJ' w (nv k) (mv k) (sh k)
 apf:∀k,k < 9->∀j,ShU (nv k) (mv k) j->fv.ownBlock≠some j
 aps:∀j k,j < 9->k < 9->j≠k->∀b,ShU (nv j) (mv j) b->¬ShU (nv k) (mv k) b
def KaU (p:Nat) (nv mv:Nat->Value) (fv:Value) (k:Nat):Prop:=k=p\/fv.ownBlock=some k\/∃i,i < 9/\ShU (nv i) (mv i) k
structure Av where
 arr:Array Value
 s:Nat
 dp:Nat
 nv:Nat->Value
 mv:Nat->Value
 fv:Value
 rv:Value
 dlv:Value
 duv:Value
def aD' (p:Nat):List Value:=[.int .i64 2, .func (.func 104) #[y' p] #[], .int .i64 4, .func (.func 105) #[y' p] #[], .int .i64 5, .func (.func 106) #[y' p] #[]]
structure aA' (w:World) (p:Nat) (g:Nat->Nat) (tk:Nat) (wel fen:Bool) (free:List Nat) (sh:Nat->List (Nat×Value)) (st:Mod.Stv) (c:Av):Prop where
 ks:iB' w p g tk wel fen free sh c.arr c.s c.nv c.mv c.fv c.rv
 stt:cC' w c.s c.dp st c.dlv c.duv
 rl:ao' w 183 2 c.rv 3 (aD' p)
 len:st.dk.bytes.length=1664
def PaU (p:Nat) (c:Av) (k:Nat):Prop:=KaU p c.nv c.mv c.fv k\/StU c.s c.dp c.dlv c.duv k\/c.rv.ownBlock=some k
section
variable {w x y:World} {p:Nat} {g g2:Nat->Nat} {tk tk2:Nat} {wel wel2 fen fen2:Bool} {free free2:List Nat} {sh sh2:Nat->List (Nat×Value)} {arr:Array Value} {s:Nat} {nv mv:Nat->Value} {fv rv:Value} {st st2:Mod.Stv} {c:Av}
theorem iB'.far {E:Nat->Prop} (h:iB' w p g tk wel fen free sh arr s nv mv fv rv) (f:Far E w x) (r:∀k,KaU p nv mv fv k->¬E k):iB' x p g tk wel fen free sh arr s nv mv fv rv:=
 ⟨f.blk h.blk (r p (.inl rfl)),h.sz,h.a0,h.ag,h.an,h.am,h.af,h.at',h.aw,h.ae,h.ar,h.fr.far f (fun g u=>r g (.inr (.inl u))),fun i hi=>(h.shs i hi).far f (fun k z=>r k (.inr (.inr ⟨i,hi,z⟩))),h.apf,h.aps⟩
theorem iB'.lt (h:iB' w p g tk wel fen free sh arr s nv mv fv rv):∀k,KaU p nv mv fv k->k < w.heap.size:=by
 rintro k (rfl|f|⟨i,hi,f⟩)
 ·exact lt_of_block h.blk
 ·exact h.fr.lt k f
 ·exact(h.shs i hi).lt k f
theorem ci' (h:iB' w p g tk wel fen free sh arr s nv mv fv rv) {q:Nat} {u:Array Value} {t:TypeId} {fr:Nat×Nat} (f:w.heap[q]? =some (.cells u t fr)) (h1:t≠151) (h3:t≠3):¬KaU p nv mv fv q:=by
 rintro(rfl|r|⟨i,hi,r⟩)
 ·have:=h.blk;rw[f]at this;injection this with this;injection this with _ this _;exact h1 this
 ·exact h.fr.ne f (fun e=>h3 e.symm) r
 ·exact(h.shs i hi).ne f h3 r
theorem aA'.lt (h:aA' w p g tk wel fen free sh st c):∀k,PaU p c k->k < w.heap.size:=by
 rintro k (f|f|f)
 ·exact h.ks.lt k f
 ·exact h.stt.lt k f
 ·exact h.rl.lt k f
theorem aA'.far {E:Nat->Prop} (h:aA' w p g tk wel fen free sh st c) (f:Far E w x) (r:∀k,PaU p c k->¬E k):aA' x p g tk wel fen free sh st c:=
 ⟨h.ks.far f (fun k u=>r k (.inl u)),h.stt.far f (fun k u=>r k (.inr (.inl u))),h.rl.far f (fun g z=>r g (.inr (.inr z))),h.len⟩
theorem aA'.below (h:aA' w p g tk wel fen free sh st c) (f:Below w.heap.size w x):aA' x p g tk wel fen free sh st c:=h.far (A' (E:=fun _=>False) f) (fun _ _ h=>h)
theorem aA'.sep (h:aA' w p g tk wel fen free sh st c):∀k,KaU p c.nv c.mv c.fv k->¬StU c.s c.dp c.dlv c.duv k:=by
 rintro k f (hs|hs|hs|hs)
 ·subst hs;exact ci' h.ks h.stt.blk (by decide) (by decide) f
 ·subst hs;exact ci' h.ks h.stt.dk.blk (by decide) (by decide) f
 ·obtain⟨u,r⟩:=cy' (ao'.of_own h.stt.dk.row) hs;exact ci' h.ks r (by decide) (by decide) f
 ·obtain⟨u,r⟩:=cy' h.stt.dk.un hs;exact ci' h.ks r (by decide) (by decide) f
theorem aA'.sepr (h:aA' w p g tk wel fen free sh st c):∀k,c.rv.ownBlock=some k->¬KaU p c.nv c.mv c.fv k/\¬StU c.s c.dp c.dlv c.duv k:=by
 intro k r;obtain⟨u,f⟩:=cy' h.rl r;refine⟨ci' h.ks f (by decide) (by decide),?_⟩;rintro(hs|hs)
 ·rw[hs,h.stt.blk]at f;injection f with f;injection f with _ f _;exact absurd f (by decide)
 ·exact dY' h.stt.dk f (by decide) (by decide) (by decide) hs
theorem cG' (f:aA' w p g tk wel fen free sh st c) {q:Nat} {u:Array Value} {t:TypeId} {fr:Nat×Nat} (r:w.heap[q]? =some (.cells u t fr))
  (h1:t≠151) (h3:t≠3) (h4:t≠203) (h5:t≠252) (z:t≠5) (D:t≠261) (F:t≠183):¬PaU p c q:=by
 rintro(h|(h|h)|h)
 ·exact ci' f.ks r h1 h3 h
 ·subst h;have:=f.stt.blk;rw[r]at this;injection this with this;injection this with _ this _;exact h4 this
 ·exact dY' f.stt.dk r (fun e=>h5 e.symm) (fun e=>z e.symm) (fun e=>D e.symm) h
 ·exact f.rl.ne r (fun e=>F e.symm) h
def az' (w x:World) (p:Nat) (g:Nat->Nat) (tk:Nat) (wel fen:Bool) (free:List Nat) (sh:Nat->List (Nat×Value)) (st:Mod.Stv) (c:Av):Prop:=
 ∃f,aA' x p g tk wel fen free sh st f/\Far (PaU p c) w x/\(∀k,PaU p f k->PaU p c k\/w.heap.size<=k)/\f.s=c.s/\f.rv=c.rv
theorem ji' (f:aA' w p g tk wel fen free sh st c):az' w w p g tk wel fen free sh st c:=⟨c,f,Far.refl _ _,fun _ h=> .inl h,rfl,rfl⟩
theorem az'.trans (h:az' w x p g tk wel fen free sh st c) (u:∀f,aA' x p g tk wel fen free sh st f->az' x y p g2 tk2 wel2 fen2 free2 sh2 st2 f):az' w y p g2 tk2 wel2 fen2 free2 sh2 st2 c:=by
 obtain⟨c1,h1,h2,h3,h4,h5⟩:=h;obtain⟨c2,k1,k2,k3,k4,k5⟩:=u c1 h1;refine⟨c2,k1,h2.trans k2 (fun k r hu=>(h3 k hu).elim id (fun h=>by omega)),fun k r=>?_,k4.trans h4,k5.trans h5⟩;rcases k3 k r with h|h
 ·exact h3 k h
 ·exact .inr (Nat.le_trans h2.size h)
theorem az'.below (h:az' w x p g tk wel fen free sh st c) (f:Below x.heap.size x y):az' w y p g tk wel fen free sh st c:=
 h.trans (fun r u=>⟨r,u.below f,A' f,fun _ h=> .inl h,rfl,rfl⟩)
theorem az'.behind (h:az' x y p g tk wel fen free sh st c) (f:Below w.heap.size w x):az' w y p g tk wel fen free sh st c:=by
 obtain⟨r,h1,h2,h3,h4,h5⟩:=h;exact⟨r,h1,(A' (E:=PaU p c) f).trans h2 (fun _ _ h=>h),fun k u=>(h3 k u).imp id (fun h=>Nat.le_trans f.size h),h4,h5⟩
theorem aA'.shAt (f:aA' w p g tk wel fen free sh st c) {i:Nat} (hi:i < 9):ew' w p (4+i * 2) 151 c.arr (c.nv i) (c.mv i) (sh i):=
 ⟨f.ks.blk,f.ks.an i hi,f.ks.am i hi,f.ks.shs i hi,by decide⟩
theorem cz' (r:aA' w p g tk wel fen free sh st c) {i:Nat} (hi:i < 9) {M:List (Nat×Value)} (h:bY' w x p (4+i * 2) 151 c.arr (c.nv i) (c.mv i) M):
  az' w x p g tk wel fen free (fun t=>if t=i then M else sh t) st c:=by
 obtain⟨⟨nv',mv',S,Q,U⟩,hF⟩:=h;have O:∀k,(k=p\/ShU (c.nv i) (c.mv i) k)->KaU p c.nv c.mv c.fv k:=fun k f=>f.elim .inl (fun h=> .inr (.inr ⟨i,hi,h⟩));have V:=r.ks.sz;have u:∀j,j≠4+i * 2->j≠4+i * 2+1->((c.arr.setIfInBounds (4+i * 2) nv').setIfInBounds (4+i * 2+1) mv')[j]? =c.arr[j]? :=fun j h1 h2=>by rw[Array.getElem?_setIfInBounds_ne (by omega),Array.getElem?_setIfInBounds_ne (by omega)]
 have H:∀k,ShU nv' mv' k->ShU (c.nv i) (c.mv i) k\/w.heap.size<=k:=by
  rintro k (f|f)
  ·rcases Q with h|h|⟨g,h,D⟩
   ·rw[h]at f;cases f
   ·exact .inl (.inl (by rw[<-h];exact f))
   ·rw[h]at f;cases f;exact .inr D
  ·rcases U with h|⟨g,h,D⟩
   ·exact .inl (.inr (by rw[<-h];exact f))
   ·rw[h]at f;cases f;exact .inr D
 have X:c.fv.ownBlock≠some p:=r.ks.fr.ne r.ks.blk (by decide);refine⟨{c with arr:=(c.arr.setIfInBounds (4+i * 2) nv').setIfInBounds (4+i * 2+1) mv',nv:=fun t=>if t=i then nv' else c.nv t,mv:=fun t=>if t=i then mv' else c.mv t},
  ⟨⟨S.blk,by simpa using V,?_,?_,?_,?_,?_,?_,?_,?_,?_,?_,?_,?_,?_⟩,r.stt.far hF (fun k f h=>r.sep k (O k h) f),r.rl.far hF (fun g D h=>(r.sepr g D).1 (O g h)),r.len⟩,hF.mono (fun k _ h=> .inl (O k h)),?_,rfl,rfl⟩
 ·rw[u _ (by omega) (by omega)];exact r.ks.a0
 ·intro j hj;rw[u _ (by omega) (by omega)];exact r.ks.ag j hj
 ·intro j hj;show _=some (if j=i then nv' else c.nv j);by_cases e:j=i
  ·subst e;rw[if_pos rfl];exact S.c0
  ·rw[if_neg e,u _ (by omega) (by omega)];exact r.ks.an j hj
 ·intro j hj;show _=some (if j=i then mv' else c.mv j);by_cases e:j=i
  ·subst e;rw[if_pos rfl];exact S.c1
  ·rw[if_neg e,u _ (by omega) (by omega)];exact r.ks.am j hj
 ·rw[u _ (by omega) (by omega)];exact r.ks.af
 ·rw[u _ (by omega) (by omega)];exact r.ks.at'
 ·rw[u _ (by omega) (by omega)];exact r.ks.aw
 ·rw[u _ (by omega) (by omega)];exact r.ks.ae
 ·rw[u _ (by omega) (by omega)];exact r.ks.ar
 ·exact r.ks.fr.far hF (fun g D h=>h.elim (fun h=>X (by rw[D,h])) (fun h=>r.ks.apf i hi g h D))
 ·intro j hj;show aJ' x (if j=i then nv' else c.nv j) (if j=i then mv' else c.mv j) (if j=i then M else sh j);by_cases e:j=i
  ·rw[if_pos e,if_pos e,if_pos e];exact S.sh
  ·rw[if_neg e,if_neg e,if_neg e];refine(r.ks.shs j hj).far hF (fun k f h=>?_);rcases h with h|h
   ·exact(r.ks.shs j hj).ne r.ks.blk (by decide) (by rw[<-h];exact f)
   ·exact r.ks.aps j i hj hi e k f h
 ·intro j hj b F;replace F:ShU (if j=i then nv' else c.nv j) (if j=i then mv' else c.mv j) b:=F;by_cases e:j=i
  ·rw[if_pos e,if_pos e]at F;rcases H b F with h|h
   ·exact r.ks.apf i hi b h
   ·intro Y;have:=r.ks.fr.lt b Y;omega
  ·rw[if_neg e,if_neg e]at F;exact r.ks.apf j hj b F
 ·intro j z hj I G k f;replace f:ShU (if j=i then nv' else c.nv j) (if j=i then mv' else c.mv j) k:=f;show ¬ShU (if z=i then nv' else c.nv z) (if z=i then mv' else c.mv z) k;by_cases h1:j=i
  ·subst h1;rw[if_pos rfl,if_pos rfl]at f;rw[if_neg (fun e=>G e.symm),if_neg (fun e=>G e.symm)];intro J;rcases H k f with h|h
   ·exact r.ks.aps j z hj I G k h J
   ·have:=(r.ks.shs z I).lt k J;omega
  ·rw[if_neg h1,if_neg h1]at f;by_cases h2:z=i
   ·subst h2;rw[if_pos rfl,if_pos rfl];intro J;rcases H k J with h|h
    ·exact r.ks.aps j z hj I G k f h
    ·have:=(r.ks.shs j hj).lt k f;omega
   ·rw[if_neg h2,if_neg h2];exact r.ks.aps j z hj I G k f
 ·rintro k ((rfl|f|⟨j,hj,f⟩)|f|f)
  ·exact .inl (.inl (.inl rfl))
  ·exact .inl (.inl (.inr (.inl f)))
  ·have f:ShU (if j=i then nv' else c.nv j) (if j=i then mv' else c.mv j) k:=f;by_cases e:j=i
   ·rw[if_pos e,if_pos e]at f;exact(H k f).elim (fun h=> .inl (.inl (.inr (.inr ⟨i,hi,h⟩)))) .inr
   ·rw[if_neg e,if_neg e]at f;exact .inl (.inl (.inr (.inr ⟨j,hj,f⟩)))
  ·exact .inl (.inr (.inl f))
  ·exact .inl (.inr (.inr f))
theorem ec' (f:aA' w p g tk wel fen free sh st c) (i:Nat) (v:Value) (hi:(1<=i/\i < 4)\/(23<=i/\i < 26))
  (r:∀j,j < 3->(c.arr.setIfInBounds i v)[1+j]? =some (.int .i64 (g2 j))) (D:(c.arr.setIfInBounds i v)[23]? =some (.int .i64 tk2)) (F:(c.arr.setIfInBounds i v)[24]? =some (.bool wel2)) (G:(c.arr.setIfInBounds i v)[25]? =some (.bool fen2)):
  az' w (w.setCell ⟨p,i,none⟩ v) p g2 tk2 wel2 fen2 free sh st c:=by
 have hs:=O' w p i v;have u:∀j,j≠i->(c.arr.setIfInBounds i v)[j]? =c.arr[j]? :=fun j hj=>Array.getElem?_setIfInBounds_ne (fun e=>hj e.symm);have H:c.fv.ownBlock≠some p:=f.ks.fr.ne f.ks.blk (by decide);refine⟨{c with arr:=c.arr.setIfInBounds i v},⟨⟨af' f.ks.blk,by simpa using f.ks.sz,?_,r,?_,?_,?_,D,F,G,?_,?_,?_,f.ks.apf,f.ks.aps⟩,f.stt.far hs (fun k z h=>f.sep k (.inl h) z),f.rl.far hs (fun g r h=>(f.sepr g r).1 (.inl h)),f.len⟩,hs.mono (fun k _ h=> .inl (.inl h)),fun k z=> .inl z,rfl,rfl⟩
 ·rw[u _ (by omega)];exact f.ks.a0
 ·intro j hj;rw[u _ (by omega)];exact f.ks.an j hj
 ·intro j hj;rw[u _ (by omega)];exact f.ks.am j hj
 ·rw[u _ (by omega)];exact f.ks.af
 ·rw[u _ (by omega)];exact f.ks.ar
 ·exact f.ks.fr.far hs (fun g r h=>H (by rw[r,h]))
 ·intro j hj;exact(f.ks.shs j hj).far hs (fun k z h=>(f.ks.shs j hj).ne f.ks.blk (by decide) (by rw[<-h];exact z))
theorem jj' (f:aA' w p g tk wel fen free sh st c) (v:Value) (hF:Far (fun k=>c.fv.ownBlock=some k) w x) (H:ao' x 3 1 v free2.length (H' free2)) (hl:Loc w c.fv v):
  az' w (x.setCell ⟨p,22,none⟩ v) p g tk wel fen free2 sh st c:=by
 have hs:=O' x p 22 v;have u:∀j,j≠22->(c.arr.setIfInBounds 22 v)[j]? =c.arr[j]? :=fun j hj=>Array.getElem?_setIfInBounds_ne (fun e=>hj e.symm);have O:22 < c.arr.size:=by rw[f.ks.sz];omega
 have Q:c.fv.ownBlock≠some p:=f.ks.fr.ne f.ks.blk (by decide);have I:=hF.blk f.ks.blk Q;have U:v.ownBlock≠some p:=H.ne I (by decide);have D:Far (fun k=>k=p\/c.fv.ownBlock=some k) w (x.setCell ⟨p,22,none⟩ v):=(hF.mono (fun _ _ h=> .inr h)).trans hs (fun _ _ h=> .inl h);have F:∀k,(k=p\/c.fv.ownBlock=some k)->KaU p c.nv c.mv c.fv k:=fun k h=>h.elim .inl (fun h=> .inr (.inl h));refine⟨{c with arr:=c.arr.setIfInBounds 22 v,fv:=v},⟨⟨af' I,by simpa using f.ks.sz,?_,?_,?_,?_,?_,?_,?_,?_,?_,?_,?_,?_,f.ks.aps⟩,f.stt.far D (fun k r h=>f.sep k (F k h) r),f.rl.far D (fun g G h=>(f.sepr g G).1 (F g h)),f.len⟩,D.mono (fun k _ h=> .inl (F k h)),?_,rfl,rfl⟩
 ·rw[u _ (by omega)];exact f.ks.a0
 ·intro j hj;rw[u _ (by omega)];exact f.ks.ag j hj
 ·intro j hj;rw[u _ (by omega)];exact f.ks.an j hj
 ·intro j hj;rw[u _ (by omega)];exact f.ks.am j hj
 ·simp[O]
 ·rw[u _ (by omega)];exact f.ks.at'
 ·rw[u _ (by omega)];exact f.ks.aw
 ·rw[u _ (by omega)];exact f.ks.ae
 ·rw[u _ (by omega)];exact f.ks.ar
 ·exact H.far hs (fun g G e=>U (by rw[G,e]))
 ·intro j hj;refine(f.ks.shs j hj).far D (fun k r e=>?_);rcases e with rfl|e
  ·exact(f.ks.shs j hj).ne f.ks.blk (by decide) r
  ·exact f.ks.apf j hj k r e
 ·intro j hj b J z;rcases hl with h|h|⟨g',h,M⟩
  ·rw[h]at z;cases z
  ·rw[h]at z;exact f.ks.apf j hj b J z
  ·rw[h]at z;cases z;have:=(f.ks.shs j hj).lt b J;omega
 ·rintro k ((rfl|r|r)|r|r)
  ·exact .inl (.inl (.inl rfl))
  ·rcases hl with h|h|⟨g',h,M⟩
   ·rw[h]at r;cases r
   ·exact .inl (.inl (.inr (.inl (by rw[<-h];exact r))))
   ·rw[h]at r;cases r;exact .inr M
  ·exact .inl (.inl (.inr (.inr r)))
  ·exact .inl (.inr (.inl r))
  ·exact .inl (.inr (.inr r))
end
def aB':Nat->List (ByteArray×Nat)->List Nat->List (Nat×Value)
 |b,x::f,q::r=>(b+1,bZ' x.1 q)::aB' (b+1) f r
 | _,_,_=>[]
theorem aM' (b:Nat) (x:ByteArray×Nat) (f:List (ByteArray×Nat)) (q:Nat) (r:List Nat):aB' b (x::f) (q::r)=(b+1,bZ' x.1 q)::aB' (b+1) f r:=rfl
theorem do':∀ (b:Nat) (k:List (ByteArray×Nat)) (p:List Nat),p.length=k.length->(aB' b k p).length=k.length
 |b,[],[],_=>rfl
 |b,x::f,q::r,h=>by rw[aM',List.length_cons,do' (b+1) f r (by simpa using h),List.length_cons]
theorem iC':∀ (b:Nat) (k:List (ByteArray×Nat)) (p:List Nat) (j:Nat),p.length=k.length->∀ (hj:j < k.length),(aB' b k p)[j]? =some (b+1+j,bZ' k[j].1 (p.getD j 0))
 |b,[],_,j,_,hj=>by simp at hj
 |b,x::f,[],j,h,_=>by simp at h
 |b,x::f,q::r,0,h,hj=>by simp[aB']
 |b,x::f,q::r,j+1,h,hj=>by rw[aM',List.getElem?_cons_succ,iC' (b+1) f r j (by simpa using h) (by simpa using hj)];simp;omega
theorem iD':∀ (b:Nat) (k f:List (ByteArray×Nat)) (p r:List Nat),p.length=k.length->aB' b (k++f) (p++r)=aB' b k p++aB' (b+k.length) f r
 |b,[],f,[],r,_=>by simp[aB']
 |b,[],f,q::z,r,h=>by simp at h
 |b,x::u,f,[],r,h=>by simp at h
 |b,x::u,f,q::z,r,h=>by show aB' b (x::(u++f)) (q::(z++r))= _;rw[aM',aM',iD' (b+1) u f z r (by simpa using h),show b+1+u.length=b+(u.length+1) by omega];rfl
theorem eM':∀ (b:Nat) (k f:List (ByteArray×Nat)) (p:List Nat),k.map (·.1)=f.map (·.1)->aB' b k p=aB' b f p
 | _,[],[],_,_=>rfl
 |b,[],_:: _,p,h=>by simp at h
 |b,_:: _,[],p,h=>by simp at h
 |b,x::r,y::s,[],_=>by simp[aB']
 |b,x::r,y::s,q::u,h=>by simp only[List.map_cons,List.cons.injEq]at h;rw[aM',aM',h.1,eM' (b+1) r s u h.2]
theorem mu':∀ (b:Nat) (k:List (ByteArray×Nat)) (p:List Nat),∀x∈aB' b k p,b < x.1
 |b,[],_,x,f=>by simp[aB']at f
 |b,_:: _,[],x,f=>by simp[aB']at f
 |b,y::r,q::u,x,f=>by
  rw[aM']at f;cases f with
  |head=>show b < b+1;omega
  |tail _ f=>have:=mu' (b+1) r u x f;omega
theorem oG':∀ (b:Nat) (k:List (ByteArray×Nat)) (p:List Nat),∀x∈aB' b k p,x.1<=b+k.length
 |b,[],_,x,f=>by simp[aB']at f
 |b,_:: _,[],x,f=>by simp[aB']at f
 |b,y::r,q::u,x,f=>by
  rw[aM']at f;cases f with
  |head=>show b+1<= _;simp
  |tail _ f=>have:=oG' (b+1) r u x f;simp at this ⊢;omega
theorem ga':∀ (b:Nat) (k:List (ByteArray×Nat)) (p:List Nat),na' (aB' b k p)
 |b,[],_,x,f=>by simp[aB']at f
 |b,_:: _,[],x,f=>by simp[aB']at f
 |b,y::r,q::u,x,f=>by
  rw[aM']at f;cases f with
  |head=>exact⟨y.1,q,rfl⟩
  |tail _ f=>exact ga' (b+1) r u x f
theorem qC' (b:Nat) (k:List (ByteArray×Nat)) (p:List Nat) (h:p.length=k.length):max (match(aB' b k p).getLast? with|none=>0|some x=>x.1) b=b+k.length:=by
 rcases List.eq_nil_or_concat k with rfl|⟨f,x,rfl⟩
 ·simp[aB']
 ·rcases List.eq_nil_or_concat p with rfl|⟨r,q,rfl⟩
  ·simp at h
  ·have u:r.length=f.length:=by simpa using h
   have:(aB' b (f++[x]) (r++[q])).getLast?=some (b+f.length+1,bZ' x.1 q):=by rw[iD' b f [x] r [q] u];simp[aB']
   rw[List.concat_eq_append,List.concat_eq_append]at *;rw[this];simp;omega
theorem oH':∀ (l:List (Nat×Value)) (n:Nat) (v:Value),(∀x∈l,x.1 < n)->aV' l n v=l++[(n,v)]
 |[],n,v,_=>rfl
 |x::f,n,v,h=>by have h0:=h x (.head _);unfold aV';rw[if_neg (by omega),if_neg (by omega),oH' f n v (fun y r=>h y (.tail _ r))];rfl
theorem sw' (b:Nat) (k:List (ByteArray×Nat)) (p:List Nat) (h:p.length=k.length) (s:ByteArray) (t q:Nat):aV' (aB' b k p) (b+k.length+1) (bZ' s q)=aB' b (k++[(s,t)]) (p++[q]):=by
 rw[oH' _ _ _ (fun x f=>by have:=oG' b k p x f;omega),iD' b k [(s,t)] p [q] h];simp[aB']
theorem ku':∀ (n b:Nat) (k:List (ByteArray×Nat)) (p:List Nat),n<=k.length->p.length=k.length->(aB' b k p).drop n=aB' (b+n) (k.drop n) (p.drop n)
 |0,b,k,p,_,_=>rfl
 |n+1,b,[],p,h,_=>by simp at h
 |n+1,b,x::f,[],_,h=>by simp at h
 |n+1,b,x::f,q::r,h,h2=>by show(aB' b (x::f) (q::r)).drop (n+1)=aB' (b+(n+1)) (f.drop n) (r.drop n);rw[aM',List.drop_succ_cons,ku' n (b+1) f r (by simpa using h) (by simpa using h2),show b+1+n=b+(n+1) by omega]
theorem gb':∀ (n b:Nat) (k:List (ByteArray×Nat)) (p:List Nat),n<=k.length->p.length=k.length->bm' (aB' b k p) (b+n)=n
 |0,b,k,p,_,_=>by unfold bm';rw[List.countP_eq_zero];intro x r;have:=mu' b k p x r;simp;omega
 |n+1,b,[],p,h,_=>by simp at h
 |n+1,b,x::f,[],_,h=>by simp at h
 |n+1,b,x::f,q::u,h,h2=>by have ih:=gb' n (b+1) f u (by simpa using h) (by simpa using h2);unfold bm' at ih ⊢;rw[aM',List.countP_cons,show b+(n+1)=b+1+n by omega,ih];simp
def cH' (f:Mod.Flow) (n:Nat):Option Value:=
 if n<=f.base then none else match f.kept[n - f.base - 1]? with
  |some x=>if x.2=0 then none else some (dm' x.2)
  |none=>none
structure aO' (a:Mod.Ag) (op:Nat) (g:Nat->Nat) (free:List Nat) (sh:Nat->List (Nat×Value)) (pl:Nat->List Nat):Prop where
 ep:op=a.epoch
 bs:∀i,i < 3->g i=(a.fl i).base
 pn:∀i,i < 3->(pl i).length=(a.fl i).kept.length
 kp:∀i,i < 3->sh (i * 3)=aB' (a.fl i).base (a.fl i).kept (pl i)
 sn:∀i,i < 3->∀n:Nat,an' (sh (i * 3+1)) (n:Int)=cH' (a.fl i) n
 si:∀i,i < 3->kr' (sh (i * 3+1))
 hd:∀i,i < 3->∀n:Nat,(an' (sh (i * 3+2)) (n:Int)).isSome=(a.fl i).held.contains n
 hu:∀i,i < 3->nf' (sh (i * 3+2))
 hl:∀i,i < 3->(sh (i * 3+2)).length<=3
 nd:(free++pl 0++pl 1++pl 2).Nodup
 lt:∀x∈free++pl 0++pl 1++pl 2,x < 24
 sum:free.length+a.room=24
theorem ng' {a:Mod.Ag} {i:Nat} (hi:i < 3):(a.fl i).kept.length<=a.room:=by
 obtain rfl|rfl|rfl:i=0\/i=1\/i=2:=by omega
 all_goals
  unfold Mod.Ag.room;omega
theorem aO'.small {a:Mod.Ag} {op:Nat} {g:Nat->Nat} {free:List Nat} {sh:Nat->List (Nat×Value)} {f:Nat->List Nat} (r:aO' a op g free sh f) {i:Nat} (hi:i < 3):(a.fl i).kept.length<=24:=by
 have:=ng' (a:=a) hi;have:=r.sum;omega
theorem qD' {f:Mod.Flow} {l:List (Nat×Value)} (hs:(l.map (·.1)).Pairwise (· < ·)) (h:∀n:Nat,an' l (n:Int)=cH' f n):l.length<=f.kept.length:=by
 have u:∀n∈l.map (·.1),f.base < n/\n<=f.base+f.kept.length:=by
  intro n z;have r:(an' l (n:Int)).isSome=true:=by rw[fn'];simpa using z
  rw[h n]at r;unfold cH' at r;split at r
  ·cases r
  ·split at r
   ·rename_i x D;have:=(List.getElem?_eq_some_iff.1 D).1;omega
   ·cases r
 have h1:((l.map (·.1)).map fun n=>n - f.base - 1).Nodup:=by rw[List.Nodup,List.pairwise_map];refine hs.imp_of_mem (fun {x y} D F H e=>?_);have I:=u x D;have J:=u y F;omega
 have h2:=hp' f.kept.length _ h1 (fun n z=>by obtain⟨m,G,rfl⟩:=List.mem_map.1 z;have:=u m G;omega);simpa using h2
section
variable {a:Mod.Ag} {op:Nat} {g:Nat->Nat} {free:List Nat} {sh:Nat->List (Nat×Value)} {pl:Nat->List Nat}
theorem qE' (f:Mod.Flow) (s:ByteArray) (n:Nat):cH' {f with kept:=f.kept++[(s,0)]} n=cH' f n:=by
 unfold cH';simp only
 split
 ·rfl
 ·by_cases h:n - f.base - 1 < f.kept.length
  ·rw[List.getElem?_append_left h]
  ·rw[List.getElem?_append_right (by omega)];have h2:f.kept[n - f.base - 1]? =none:=List.getElem?_eq_none (by omega);rw[h2];by_cases h3:n - f.base - 1 - f.kept.length=0
   ·rw[h3];rfl
   ·have:([(s,0)]:List (ByteArray×Nat))[n - f.base - 1 - f.kept.length]? =none:=List.getElem?_eq_none (by simp;omega);rw[this]
theorem jP' {i:Nat} (hi:i < 3) (f:List Nat) (fr:List Nat) (h:(fr++f).Perm (free++pl i)):
  (fr++(fun t=>if t=i then f else pl t) 0++(fun t=>if t=i then f else pl t) 1++(fun t=>if t=i then f else pl t) 2).Perm (free++pl 0++pl 1++pl 2):=by
 obtain rfl|rfl|rfl:i=0\/i=1\/i=2:=by omega
 ·simp only[if_pos,if_neg (show ¬ (1:Nat)=0 by omega),if_neg (show ¬ (2:Nat)=0 by omega)];exact(h.append_right _).append_right _
 ·simp only[if_neg (show ¬ (0:Nat)=1 by omega),if_pos,if_neg (show ¬ (2:Nat)=1 by omega)];refine List.Perm.append_right _ ?_;have h1:(fr++pl 0++f).Perm (fr++f++pl 0):=by rw[List.append_assoc,List.append_assoc];exact List.perm_append_comm.append_left _
  have h2:(free++pl 1++pl 0).Perm (free++pl 0++pl 1):=by rw[List.append_assoc,List.append_assoc];exact List.perm_append_comm.append_left _
  exact(h1.trans (h.append_right _)).trans h2
 ·simp only[if_neg (show ¬ (0:Nat)=2 by omega),if_neg (show ¬ (1:Nat)=2 by omega),if_pos];have h1:(fr++pl 0++pl 1++f).Perm (fr++f++(pl 0++pl 1)):=by rw[List.append_assoc fr,List.append_assoc,List.append_assoc fr f];exact List.perm_append_comm.append_left _
  have h2:(free++pl 2++(pl 0++pl 1)).Perm (free++pl 0++pl 1++pl 2):=by rw[List.append_assoc free (pl 0),List.append_assoc,List.append_assoc];exact List.perm_append_comm.append_left _
  exact(h1.trans (h.append_right _)).trans h2
theorem hv' {i:Nat} (hi:i < 3) (f:Mod.Flow):(Mod.Ag.room {a with fl:=Mod.upd a.fl i f})+(a.fl i).kept.length=a.room+f.kept.length:=by
 obtain rfl|rfl|rfl:i=0\/i=1\/i=2:=by omega
 all_goals
  simp[Mod.Ag.room,Mod.upd];omega
theorem oI' {fr:List Nat} {q:Nat} (f:aO' a op g (fr++[q]) sh pl) {i:Nat} (hi:i < 3) (s:ByteArray):
  aO' (a.submit i s) op g fr (fun t=>if t=i * 3 then aV' (sh (i * 3)) ((a.fl i).base+(a.fl i).kept.length+1) (bZ' s q)else sh t) (fun t=>if t=i then pl i++[q]else pl t):=by
 have r:∀j,(a.submit i s).fl j=if j=i then {a.fl i with kept:=(a.fl i).kept++[(s,0)]}else a.fl j:=fun j=>rfl
 refine⟨f.ep,fun j hj=>?_,fun j hj=>?_,fun j hj=>?_,fun j hj n=>?_,fun j hj=>?_,fun j hj n=>?_,fun j hj=>?_,fun j hj=>?_,?_,?_,?_⟩
 ·rw[r];by_cases e:j=i
  ·subst e;rw[if_pos rfl];exact f.bs j hj
  ·rw[if_neg e];exact f.bs j hj
 ·rw[r];show(if j=i then pl i++[q]else pl j).length= _;by_cases e:j=i
  ·subst e;rw[if_pos rfl,if_pos rfl];simp[f.pn j hj]
  ·rw[if_neg e,if_neg e];exact f.pn j hj
 ·rw[r];show(if j * 3=i * 3 then _ else sh (j * 3))=aB' _ _ (if j=i then pl i++[q]else pl j);by_cases e:j=i
  ·subst e;rw[if_pos rfl,if_pos rfl,if_pos rfl,f.kp j hj];exact sw' _ _ _ (f.pn j hj) s 0 q
  ·rw[if_neg (by omega),if_neg e,if_neg e];exact f.kp j hj
 ·show an' (if j * 3+1=i * 3 then _ else sh (j * 3+1)) _= _;rw[if_neg (by omega),r,f.sn j hj n];by_cases e:j=i
  ·subst e;rw[if_pos rfl,qE']
  ·rw[if_neg e]
 ·show kr' (if j * 3+1=i * 3 then _ else sh (j * 3+1));rw[if_neg (by omega)];exact f.si j hj
 ·show(an' (if j * 3+2=i * 3 then _ else sh (j * 3+2)) _).isSome= _;rw[if_neg (by omega),r,f.hd j hj n];by_cases e:j=i
  ·subst e;rw[if_pos rfl]
  ·rw[if_neg e]
 ·show nf' (if j * 3+2=i * 3 then _ else sh (j * 3+2));rw[if_neg (by omega)];exact f.hu j hj
 ·show(if j * 3+2=i * 3 then _ else sh (j * 3+2)).length<=3;rw[if_neg (by omega)];exact f.hl j hj
 ·refine(jP' hi (pl i++[q]) fr ?_).nodup_iff.2 f.nd;rw[List.append_assoc fr [q]];exact List.perm_append_comm.append_left _
 ·intro x D;refine f.lt x ((jP' hi (pl i++[q]) fr ?_).mem_iff.1 D);rw[List.append_assoc fr [q]];exact List.perm_append_comm.append_left _
 ·have h1:=f.sum;obtain⟨u,z⟩:∃u,u=({a.fl i with kept:=(a.fl i).kept++[(s,0)]}:Mod.Flow):=⟨_,rfl⟩;have F:u.kept.length=(a.fl i).kept.length+1:=by rw[z];simp
  have h3:(a.submit i s).room=Mod.Ag.room {a with fl:=Mod.upd a.fl i u}:=by rw[z];rfl
  have h2:=hv' (a:=a) hi u;rw[F]at h2;rw[h3];rw[List.length_append,List.length_singleton]at h1;omega
theorem nh' {l:List (Nat×Value)} (hs:(l.map (·.1)).Pairwise (· < ·)) (m n:Nat):an' (l.drop (bm' l m)) (n:Int)=if n<=m then none else an' l (n:Int):=by
 obtain⟨h1,h2⟩:=sm' (n:=m) hs;have F:∀ (f r:List (Nat×Value)) (k:Int),an' (f++r) k=match an' f k with|some v=>some v|none=>an' r k:=by
  intro f r k;induction f with
  |nil=>rfl
  |cons x G ih=>
   show an' (x::(G++r)) k= _;rw[bQ',bQ'];by_cases h:k=(x.1:Int)
   ·rw[if_pos h,if_pos h]
   ·rw[if_neg h,if_neg h,ih]
 have hl:l=l.take (bm' l m)++l.drop (bm' l m):=(List.take_append_drop _ _).symm;by_cases D:n<=m
 ·rw[if_pos D];cases u:an' (l.drop (bm' l m)) (n:Int)with
  |none=>rfl
  |some v=>obtain⟨x,z,e,_⟩:=cZ' u;have:=h2 x z;omega
 ·rw[if_neg D];conv=>rhs;rw[hl]
  rw[F];cases u:an' (l.take (bm' l m)) (n:Int)with
  |none=>rfl
  |some v=>obtain⟨x,z,e,_⟩:=cZ' u;have:=h1 x z;omega
theorem qF' (f:Mod.Flow) (m n:Nat):cH' (f.drop m) n=if n<=f.base+m then none else cH' f n:=by
 unfold cH' Mod.Flow.drop;simp only
 by_cases h:n<=f.base+m
 ·rw[if_pos h,if_pos h]
 ·rw[if_neg h,if_neg h,if_neg (by omega),List.getElem?_drop,show m+(n - (f.base+m) - 1)=n - f.base - 1 by omega]
theorem qG' (f:aO' a op g free sh pl) {i n:Nat} (hi:i < 3) (z:n<=(a.fl i).kept.length) (hs:((sh (i * 3+1)).map (·.1)).Pairwise (· < ·)):
  aO' {a with fl:=Mod.upd a.fl i ((a.fl i).drop n)} op (fun t=>(Mod.upd a.fl i ((a.fl i).drop n) t).base) (free++(pl i).take n)
   (fun t=>if t=i * 3+1 then(sh (i * 3+1)).drop (bm' (sh (i * 3+1)) ((a.fl i).base+n))else(fun t=>if t=i * 3 then(sh (i * 3)).drop (bm' (sh (i * 3)) ((a.fl i).base+n))else sh t) t) (fun t=>if t=i then(pl i).drop n else pl t):=by
 have r:∀j,Mod.upd a.fl i ((a.fl i).drop n) j=if j=i then(a.fl i).drop n else a.fl j:=fun j=>rfl
 refine⟨f.ep,fun j hj=>rfl,fun j hj=>?_,fun j hj=>?_,fun j hj m=>?_,fun j hj=>?_,fun j hj m=>?_,fun j hj=>?_,fun j hj=>?_,?_,?_,?_⟩
 ·show(if j=i then(pl i).drop n else pl j).length=(Mod.upd a.fl i ((a.fl i).drop n) j).kept.length;rw[r];by_cases e:j=i
  ·subst e;rw[if_pos rfl,if_pos rfl];simp[Mod.Flow.drop,f.pn j hj]
  ·rw[if_neg e,if_neg e];exact f.pn j hj
 ·show(if j * 3=i * 3+1 then _ else if j * 3=i * 3 then _ else sh (j * 3))=aB' (Mod.upd a.fl i ((a.fl i).drop n) j).base (Mod.upd a.fl i ((a.fl i).drop n) j).kept (if j=i then(pl i).drop n else pl j);rw[r,if_neg (by omega)];by_cases e:j=i
  ·subst e;rw[if_pos rfl,if_pos rfl,if_pos rfl,f.kp j hj,gb' n _ _ _ z (f.pn j hj)];exact ku' n _ _ _ z (f.pn j hj)
  ·rw[if_neg (by omega),if_neg e,if_neg e];exact f.kp j hj
 ·show an' (if j * 3+1=i * 3+1 then _ else if j * 3+1=i * 3 then _ else sh (j * 3+1)) _=cH' (Mod.upd a.fl i ((a.fl i).drop n) j) m;rw[r];by_cases e:j=i
  ·subst e;rw[if_pos rfl,if_pos rfl,nh' hs,qF',f.sn j hj m]
  ·rw[if_neg (by omega),if_neg (by omega),if_neg e];exact f.sn j hj m
 ·show kr' (if j * 3+1=i * 3+1 then _ else if j * 3+1=i * 3 then _ else sh (j * 3+1));by_cases e:j=i
  ·subst e;rw[if_pos rfl];exact fun x u=>f.si j hj x (List.mem_of_mem_drop u)
  ·rw[if_neg (by omega),if_neg (by omega)];exact f.si j hj
 ·show(an' (if j * 3+2=i * 3+1 then _ else if j * 3+2=i * 3 then _ else sh (j * 3+2)) _).isSome=(Mod.upd a.fl i ((a.fl i).drop n) j).held.contains m;rw[r,if_neg (by omega),if_neg (by omega),f.hd j hj m];by_cases e:j=i
  ·subst e;rw[if_pos rfl];rfl
  ·rw[if_neg e]
 ·show nf' (if j * 3+2=i * 3+1 then _ else if j * 3+2=i * 3 then _ else sh (j * 3+2));rw[if_neg (by omega),if_neg (by omega)];exact f.hu j hj
 ·show(if j * 3+2=i * 3+1 then _ else if j * 3+2=i * 3 then _ else sh (j * 3+2)).length<=3;rw[if_neg (by omega),if_neg (by omega)];exact f.hl j hj
 ·refine(jP' hi ((pl i).drop n) (free++(pl i).take n) ?_).nodup_iff.2 f.nd;rw[List.append_assoc,List.take_append_drop]
 ·intro x u;refine f.lt x ((jP' hi ((pl i).drop n) (free++(pl i).take n) ?_).mem_iff.1 u);rw[List.append_assoc,List.take_append_drop]
 ·have h1:=f.sum;have h2:=hv' (a:=a) hi ((a.fl i).drop n);have h3:=f.pn i hi;have h4:((a.fl i).drop n).kept.length=(a.fl i).kept.length - n:=by simp[Mod.Flow.drop]
  rw[h4]at h2;rw[List.length_append,List.length_take];omega
end
section
variable {w:World} {p:Nat} {g:Nat->Nat} {tk:Nat} {wel fen:Bool} {free:List Nat} {sh:Nat->List (Nat×Value)} {st:Mod.Stv} {c:Av} {a:Mod.Ag} {op:Nat} {go:Nat->Nat} {pl:Nat->List Nat}
theorem bk' (f:aA' w p g tk wel fen free sh st c):
  Calls Tryz.prog 66 #[y' p] w fun r w'=>r= .returned (.int .i64 st.opening)/\w'=w:=by
 have c0:w.cell? ⟨p,0,none⟩=some (y' c.s):=by rw[m' f.ks.blk,f.ks.a0]
 have u:=t' (iw' f.stt);clear f;unfold y' at *;go_enter Tryz.func66,Tryz.ntmps66;go_wp2_with (go_at_call 111;refine(i' u).mono ?_;rintro r y ⟨rfl,rfl⟩);go_ret;exact⟨rfl,rfl⟩
theorem cO' (u:aA' w p g tk wel fen free sh st c) (z:aO' a op go free sh pl) {i:Nat} (hi:i < 3) (D:g i=(a.fl i).base):
  Calls Tryz.prog 88 #[y' p, .int .i64 i] w fun F w'=>F= .returned (.int .i64 ((a.fl i).base+(a.fl i).kept.length:Nat))/\∃n,w'=w.drewN n:=by
 have f:=mn' u.ks.blk (u.ks.an (i * 3) (by omega)) (u.ks.shs (i * 3) (by omega));rw[z.kp i hi,show 4+i * 3 * 2=4+i * 6 by omega]at f;have r:=qC' (a.fl i).base (a.fl i).kept (pl i) (z.pn i hi);obtain⟨m,G,r,f⟩:∃ (m:Nat) (G:Bool),max m (a.fl i).base=(a.fl i).base+(a.fl i).kept.length/\Calls Tryz.prog 129 #[.pointer (some ⟨p,4+i * 6,none⟩)] w fun e w'=>e= .returned (.tuple #[.int .i64 m, .bool G])/\∃n,w'=w.drewN n:=by
  cases H:(aB' (a.fl i).base (a.fl i).kept (pl i)).getLast? with
  |none=>rw[H]at f r;exact⟨0,false,r,f⟩
  |some x=>rw[H]at f r;exact⟨x.1,true,r,f⟩
 have I:w.cell? ⟨p,1+i,none⟩=some (.int .i64 (g i)):=by rw[m' u.ks.blk,u.ks.ag i hi]
 rw[D]at I;obtain⟨n,J⟩:∃n,n=(a.fl i).base+(a.fl i).kept.length:=⟨_,rfl⟩;rw[<-J]at r ⊢;obtain⟨b,M⟩:∃b,b=(a.fl i).base:=⟨_,rfl⟩;rw[<-M]at r I;have O:max (m:Int) (b:Int)=(n:Int):=by omega
 have Q:=t' f;have U:(0:Int)<=(i:Int):=by omega
 have V:(i:Int) < 3:=by omega
 clear u z f J M r D;unfold y';go_enter Tryz.func88,Tryz.ntmps88;go_wp2_with (go_at_call 129;refine(i' Q).mono ?_;rintro F y ⟨rfl,q,rfl⟩);go_ret;exact⟨by first|rfl|simp[O],q,rfl⟩
theorem sx' (u:aA' w p g tk wel fen free sh st c) (z:aO' a op go free sh pl) {i:Nat} (hi:i < 3) (j:Nat) (hj:j < (a.fl i).kept.length) (tick t:Nat) (Q:(a.fl i).kept[j].2=t) (aa:t<=1000000000000) (ab:tick<=1000000000000):
  Calls Tryz.prog 138 #[.pointer (some ⟨p,4+i * 6,none⟩), .int .i64 ((a.fl i).base+1+j:Nat), .int .i64 tick] w fun r w'=>r= .returned (.bool (Mod.due (a.fl i) tick j t))/\Below w.heap.size w w':=by
 obtain⟨n,J⟩:∃n,n=(a.fl i).base+1+j:=⟨_,rfl⟩;have H:=tz' u.ks.blk (u.ks.am (i * 3+2) (by omega)) (u.ks.shs (i * 3+2) (by omega)) (z.hu i hi) (n:Int);rw[z.hd i hi n,show 4+(i * 3+2) * 2=4+i * 6+4 by omega]at H;have M:=fun y (f:Below w.heap.size w y)=>tD' (u.below f).ks.blk (u.ks.am (i * 3+1) (by omega)) ((u.below f).ks.shs (i * 3+1) (by omega)) (z.si i hi) (n:Int);have U:cH' (a.fl i) n=if t=0 then none else some (dm' t):=by unfold cH';rw[if_neg (by omega),show n - (a.fl i).base - 1=j by omega,List.getElem?_eq_getElem hj];simp only[Q]
 rw[z.sn i hi n,U,show 4+(i * 3+1) * 2=4+i * 6+2 by omega]at M;have V:Mod.due (a.fl i) tick j t=(!((a.fl i).held.contains n) && (t==0||decide (t+4<=tick))):=by unfold Mod.due;rw[<-J]
 rw[V,<-J];obtain⟨O,X⟩:∃O,O=(a.fl i).held.contains n:=⟨_,rfl⟩;rw[<-X]at H ⊢;have I:=t' H;have D:=fun y f=>t' (M y f);clear u z H M U V X Q J;cases O
 ·by_cases h0:t=0
  ·simp only[h0,if_true,Option.getD_none,Option.isSome_none,rC']at D;go_enter Tryz.func138,Tryz.ntmps138;go_wp2_with (first|(go_at_call 190;refine(i' I).mono ?_;rintro r y ⟨rfl,f⟩)|(go_at_call 191;refine(i' (D _ f)).mono ?_;rintro r F ⟨rfl,G⟩;obtain rfl:y=F:=G.symm));go_ret;exact⟨by simp[h0],f⟩
  ·simp only[h0,if_false,Option.getD_some,Option.isSome_some,dm']at D;have ac:IntKind.i64.wrap ((tick:Int) - (t:Int))=(tick:Int) - (t:Int):=by rw[IntKind.wrap_i64];omega
   by_cases h4:t+4<=tick
   ·have Y:(4:Int)<=(tick:Int) - (t:Int):=by omega
    go_enter Tryz.func138,Tryz.ntmps138;go_wp2_with (first|(go_at_call 190;refine(i' I).mono ?_;rintro r y ⟨rfl,f⟩)|(go_at_call 191;refine(i' (D _ f)).mono ?_;rintro r F ⟨rfl,G⟩;obtain rfl:y=F:=G.symm));go_ret;exact⟨by simp[h4],f⟩
   ·have Y:¬ (4:Int)<=(tick:Int) - (t:Int):=by omega
    go_enter Tryz.func138,Tryz.ntmps138;go_wp2_with (first|(go_at_call 190;refine(i' I).mono ?_;rintro r y ⟨rfl,f⟩)|(go_at_call 191;refine(i' (D _ f)).mono ?_;rintro r F ⟨rfl,G⟩;obtain rfl:y=F:=G.symm));go_ret;have Z:(t==0)=false:=by simp[h0]
    exact⟨by simp[h4,Z];omega,f⟩
 ·go_enter Tryz.func138,Tryz.ntmps138;go_wp2_with (go_at_call 190;refine(i' I).mono ?_;rintro r y ⟨rfl,f⟩);go_ret;exact⟨by simp,f⟩
theorem ni' (s:ByteArray) (w:World) (hs:s.size<=1000):Calls Tryz.prog 91 #[.string s] w fun f w'=>f= .returned (.string s)/\Below w.heap.size w w':=by
 have r:=t' (Tryz.stringslite_Clone s w (by omega));go_enter Tryz.func91,Tryz.ntmps91;go_wp2_with (go_at_call 134;refine(i' r).mono ?_;rintro f y ⟨rfl,u⟩);go_ret;exact⟨rfl,u⟩
end
theorem ao'.init {w:World} {e:TypeId} {n g o cap:Nat} {xs:List Value} (h:ao' w e 1 (.slice (some ⟨g,o,none⟩) (n+1) cap) (n+1) xs):ao' w e 1 (.slice (some ⟨g,o,none⟩) n cap) n (xs.take n):=by
 obtain⟨h1,⟨h2,_⟩|⟨g',D,F,f,h2,r,G,u,hs,z⟩⟩:=h
 ·cases h2
 ·injection h2 with h2 _ h3;injection h2 with h2;injection h2 with h2 h4;subst h2 h3 h4;refine⟨by simp;omega, .inr ⟨g,o,cap,f,rfl,r,by omega,u,hs,?_⟩⟩;rw[<-z,List.take_take];congr 1;omega
section
variable {w x y:World} {p:Nat} {g:Nat->Nat} {tk:Nat} {wel fen:Bool} {free:List Nat} {sh:Nat->List (Nat×Value)} {st st2:Mod.Stv} {c:Av} {a:Mod.Ag} {op:Nat} {pl:Nat->List Nat}
theorem dp' (r:aA' w p g tk wel fen free sh st c) {u:Value} (k1:cC' y c.s c.dp st2 c.dlv u) (k2:Loc w c.duv u) (k3:Far (StU c.s c.dp c.dlv c.duv) w y) (hl:st2.dk.bytes.length=1664):az' w y p g tk wel fen free sh st2 c:=by
 refine⟨{c with duv:=u},⟨r.ks.far k3 (fun k f h=>r.sep k f h),k1,r.rl.far k3 (fun g z h=>(r.sepr g z).2 h),hl⟩,k3.mono (fun k _ h=> .inr (.inl h)),?_,rfl,rfl⟩;have D:=k3.size;rintro k (f|(rfl|rfl|f|f)|f)
 ·exact .inl (.inl f)
 ·exact .inl (.inr (.inl (.inl rfl)))
 ·exact .inl (.inr (.inl (.inr (.inl rfl))))
 ·exact .inl (.inr (.inl (.inr (.inr (.inl f)))))
 ·rcases k2 with h|h|⟨g,h,z⟩
  ·rw[h]at f;cases f
  ·exact .inl (.inr (.inl (.inr (.inr (.inr (by rw[<-h];exact f))))))
  ·rw[h]at f;cases f;exact .inr z
 ·exact .inl (.inr (.inr f))
theorem ed' {f:World} {c1:Av} (r:Far (PaU p c) w f) (N:∀k,PaU p c1 k->PaU p c k\/w.heap.size<=k) (z:c1.s=c.s) (D:c1.rv=c.rv) (h:az' f y p g tk wel fen free sh st c1):az' w y p g tk wel fen free sh st c:=by
 obtain⟨F,h1,h2,h3,h4,h5⟩:=h;refine⟨F,h1,r.trans h2 (fun k u hu=>(N k hu).elim id (fun h=>by omega)),fun k u=>?_,h4.trans z,h5.trans D⟩;rcases h3 k u with h|h
 ·exact N k h
 ·exact .inr (Nat.le_trans r.size h)
theorem gk' {st:Mod.Stv} (n i q:Nat) (b:List UInt8) (f:b.length<=20) (h:64 * (2+n)+64<=st.dk.bytes.length):(st.putRecord n i q b).2.dk.bytes.length=st.dk.bytes.length:=by
 unfold Mod.Stv.putRecord Mod.Dk.put;simp only
 split
 ·rfl
 ·split
  ·rfl
  ·simp only
   exact Mod.length_setSec (Mod.length_sealB _ _ (by rw[Mod.length_recIn];omega)) h
theorem fA' {st:Mod.Stv} (a b d:Nat) (f:st.head<=1) (h:128<=st.dk.bytes.length):(st.putNumbers a b d).2.dk.bytes.length=st.dk.bytes.length:=by
 unfold Mod.Stv.putNumbers Mod.Dk.put;simp only
 split
 ·rfl
 ·split
  ·rfl
  ·simp only
   exact Mod.length_setSec (Mod.length_sealB _ _ (by rw[Mod.length_headIn];omega)) (by omega)
theorem dE' {st:Mod.Stv} (a b d:Nat):(st.putNumbers a b d).2.opening=st.opening:=rfl
end
end Go.Proofs.YtamafdcnbcoegaaGreat
