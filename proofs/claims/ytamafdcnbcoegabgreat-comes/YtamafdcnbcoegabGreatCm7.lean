/-
  Part 7 of a proof: K2, K3, K4, K5, K6, L1, L2, L3, L4, L5.
-/
import Derived.Test.YtamafdcnbcoegabGreatCm6
set_option maxRecDepth 100000
set_option maxHeartbeats 40000000
namespace Go.Proofs.YtamafdcnbcoegabGreat
open Go.RowKit
structure Sv where
 arr:Array Value
 s:Nat
 dp:Nat
 lv:Nat->Value
 nv:Nat->Value
 mv:Nat->Value
 rv:Value
 dlv:Value
 duv:Value
def bf' (p:Nat):List Value:=[.int .i64 1, .func (.func 87) #[A' p] #[], .int .i64 3, .func (.func 88) #[A' p] #[]]
structure aN' (w:World) (p e:Nat) (logs:Nat->List ByteArray) (sh:Nat->List (Nat×Value)) (st:Mod.Stv) (c:Sv):Prop where
 ks:fP' w p e logs sh c.arr c.s c.lv c.nv c.mv c.rv
 stt:cM' w c.s c.dp st c.dlv c.duv
 rl:as' w 130 2 c.rv 2 (bf' p)
 len:st.dk.bytes.length=7808
def PkU (p:Nat) (c:Sv) (k:Nat):Prop:=KsU p c.lv c.nv c.mv k\/StU c.s c.dp c.dlv c.duv k\/c.rv.ownBlock=some k
section
variable {w x y:World} {p e:Nat} {logs:Nat->List ByteArray} {sh:Nat->List (Nat×Value)} {st:Mod.Stv} {c:Sv}
theorem aN'.lt (h:aN' w p e logs sh st c):∀k,PkU p c k->k < w.heap.size:=by
 rintro k (r|r|r)
 ·exact h.ks.lt k r
 ·exact h.stt.lt k r
 ·exact h.rl.lt k r
theorem aN'.far {E:Nat->Prop} (h:aN' w p e logs sh st c) (r:Far E w x) (z:∀k,PkU p c k->¬E k):aN' x p e logs sh st c:=
 ⟨h.ks.far r (fun k D=>z k (.inl D)),h.stt.far r (fun k D=>z k (.inr (.inl D))),h.rl.far r (fun g F=>z g (.inr (.inr F))),h.len⟩
theorem cn' {arr:Array Value} {s:Nat} {lv nv mv:Nat->Value} {rv:Value} (h:fP' w p e logs sh arr s lv nv mv rv) {q:Nat} {D:Array Value} {t:TypeId} {fr:Nat×Nat} (z:w.heap[q]? =some (.cells D t fr)) (h1:t≠125) (h2:t≠9) (h3:t≠3):¬KsU p lv nv mv q:=by
 rintro(rfl|⟨i,hi,r⟩|⟨i,hi,r⟩)
 ·have:=h.blk;rw[z]at this;injection this with this;injection this with _ this _;exact h1 this
 ·exact(h.lgs i hi).ne z (fun e=>h2 e.symm) r
 ·rcases r with r|r
  ·exact(as'.of_own (h.shs i hi).nums).ne z (fun e=>h3 e.symm) r
  ·rcases(h.shs i hi).map with ⟨e,_⟩|⟨b,e,F⟩
   ·rw[e]at r;cases r
   ·rw[e]at r;cases r;exact F.not_cells z
theorem cI' {z:TypeId} {size n:Nat} {v:Value} {xs:List Value} (h:as' w z size v n xs) {g:Nat} (D:v.ownBlock=some g):∃r,w.heap[g]? =some (.cells r z (0,0)):=by
 obtain⟨_,h2⟩:=h;rcases h2 with ⟨rfl,_⟩|⟨g',o,cap,r,rfl,F,_⟩
 ·cases D
 ·cases D;exact⟨r,F⟩
theorem aN'.sep (h:aN' w p e logs sh st c):∀k,KsU p c.lv c.nv c.mv k->¬StU c.s c.dp c.dlv c.duv k:=by
 rintro k r (hs|hs|hs|hs)
 ·subst hs;exact cn' h.ks h.stt.blk (by decide) (by decide) (by decide) r
 ·subst hs;exact cn' h.ks h.stt.dk.blk (by decide) (by decide) (by decide) r
 ·obtain⟨D,z⟩:=cI' (as'.of_own h.stt.dk.row) hs;exact cn' h.ks z (by decide) (by decide) (by decide) r
 ·obtain⟨D,z⟩:=cI' h.stt.dk.un hs;exact cn' h.ks z (by decide) (by decide) (by decide) r
theorem aN'.sepr (h:aN' w p e logs sh st c):∀k,c.rv.ownBlock=some k->¬KsU p c.lv c.nv c.mv k/\¬StU c.s c.dp c.dlv c.duv k:=by
 intro k z;obtain⟨D,r⟩:=cI' h.rl z;refine⟨cn' h.ks r (by decide) (by decide) (by decide),?_⟩;rintro(hs|hs)
 ·rw[hs,h.stt.blk]at r;injection r with r;injection r with _ r _;exact absurd r (by decide)
 ·exact el' h.stt.dk r (by decide) (by decide) (by decide) hs
end
def bn' (w x:World) (p e:Nat) (logs:Nat->List ByteArray) (sh:Nat->List (Nat×Value)) (st:Mod.Stv) (c:Sv):Prop:=
 ∃r,aN' x p e logs sh st r/\Far (PkU p c) w x/\(∀k,PkU p r k->PkU p c k\/w.heap.size<=k)/\r.s=c.s/\r.rv=c.rv
theorem pG' {x y:World} {p e s:Nat} {logs:Nat->List ByteArray} {sh:Nat->List (Nat×Value)} {arr:Array Value} {lv nv mv:Nat->Value} {rv:Value} (h:fP' x p e logs sh arr s lv nv mv rv) (i:Nat) (hi:i < 3) (b:ByteArray) (z:Value)
  (hF:Far (fun k=>(lv i).ownBlock=some k) x y) (O:as' y 9 1 z ((logs i).length+1) (aV' (logs i++[b]))) (hl:Loc x (lv i) z) (Q:(logs 0).length+(logs 1).length+(logs 2).length < 120):
  fP' (y.setCell ⟨p,2+i * 3,none⟩ z) p e (fun j=>if j=i then logs i++[b]else logs j) sh (arr.setIfInBounds (2+i * 3) z) s (fun j=>if j=i then z else lv j) nv mv rv:=by
 have U:∀j,j < 3->(lv j).ownBlock≠some p:=fun j hj=>(h.lgs j hj).ne h.blk (by decide);have V:=hF.blk h.blk (U i hi);have hs:=S' y p (2+i * 3) z;have X:Far (fun k=>k=p\/(lv i).ownBlock=some k) x (y.setCell ⟨p,2+i * 3,none⟩ z):=(hF.mono (fun _ _ h=> .inr h)).trans hs (fun _ _ h=> .inl h);have Z:z.ownBlock≠some p:=O.ne V (by decide);have F:∀j,j≠2+i * 3->(arr.setIfInBounds (2+i * 3) z)[j]? =arr[j]? :=fun j hj=>Array.getElem?_setIfInBounds_ne (fun e=>hj e.symm);refine⟨ah' V,by simpa using h.sz,?_,?_,?_,?_,?_,?_,?_,?_,h.are,?_,h.aps,?_,h.ep⟩
 ·rw[F _ (by omega)];exact h.a0
 ·rw[F _ (by omega)];exact h.a1
 ·intro j hj;by_cases G:j=i
  ·subst G;have aa:2+j * 3 < arr.size:=by rw[h.sz];omega
   simp[aa]
  ·rw[if_neg G,F _ (by omega)];exact h.al j hj
 ·intro j hj;rw[F _ (by omega)];exact h.an j hj
 ·intro j hj;rw[F _ (by omega)];exact h.am j hj
 ·rw[F _ (by omega)];exact h.ar
 ·intro j hj;by_cases G:j=i
  ·subst G;have:=O.far hs (fun g r e=>Z (by rw[r,e]));simpa using this
  ·simp only[if_neg G];exact(h.lgs j hj).far X (fun g r e=>e.elim (fun e=>U j hj (by rw[r,e])) (fun e=>h.apl j i hj hi G g r e))
 ·intro j hj;refine(h.shs j hj).far X (fun k ab e=>?_);have Q:∃Y t,x.heap[k]? =some (.cells Y t (0,0))/\t≠3:=by
   rcases e with rfl|e
   ·exact⟨_,_,h.blk,by decide⟩
   ·obtain⟨ai,M⟩:=cI' (h.lgs i hi) e;exact⟨_,_,M,by decide⟩
  obtain⟨Y,t,M,ac⟩:=Q;exact(h.shs j hj).ne M ac ab
 ·intro j H hj I J g r;by_cases h1:j=i
  ·subst h1;rw[if_pos rfl]at r;rw[if_neg (fun e=>J e.symm)];intro D;rcases hl with hl|hl|⟨ad,hl,ah⟩
   ·rw[hl]at r;cases r
   ·rw[hl]at r;exact h.apl j H hj I J g r D
   ·rw[hl]at r;cases r;have:=(h.lgs H I).lt g D;omega
  ·rw[if_neg h1]at r;by_cases h2:H=i
   ·subst h2;rw[if_pos rfl];intro D;rcases hl with hl|hl|⟨ad,hl,ah⟩
    ·rw[hl]at D;cases D
    ·rw[hl]at D;exact h.apl j H hj I J g r D
    ·rw[hl]at D;cases D;have:=(h.lgs j hj).lt g r;omega
   ·rw[if_neg h2];exact h.apl j H hj I J g r
 ·obtain rfl|rfl|rfl:i=0\/i=1\/i=2:=by omega
  all_goals
   simp;omega
theorem rF' {w:World} {p e:Nat} {logs:Nat->List ByteArray} {sh:Nat->List (Nat×Value)} {st:Mod.Stv} {c:Sv} (G:aN' w p e logs sh st c) (i:Nat) (hi:i < 3) (b:ByteArray) (F:b.size<=20)
  (aJ:(logs 0).length+(logs 1).length+(logs 2).length < 120):
  Calls Tryz.prog 203 #[A' p, .int .i64 i, .string b] w fun ak w'=>
   ak= .returned (.int .i64 (st.putRecord ((logs 0).length+(logs 1).length+(logs 2).length) i ((logs i).length+1) b.data.toList).1)/\
   bn' w w' p e (if(st.putRecord ((logs 0).length+(logs 1).length+(logs 2).length) i ((logs i).length+1) b.data.toList).1=0 then fun j=>if j=i then logs i++[b]else logs j else logs) sh
    (st.putRecord ((logs 0).length+(logs 1).length+(logs 2).length) i ((logs i).length+1) b.data.toList).2 c:=by
 obtain⟨n,aB⟩:∃n,n=(logs 0).length+(logs 1).length+(logs 2).length:=⟨_,rfl⟩;obtain⟨q,D⟩:∃q,q=(logs i).length+1:=⟨_,rfl⟩;obtain⟨I,cap,aK,aL⟩:=G.ks.logc hi;have bu:=G.ks.loglen hi;have ba:=lt_of_block G.ks.blk;have aM:=fun y (ah:Below w.heap.size w y)=>y' (dE' y p (2+i * 3) _ cap I ((ah.cell (p:=⟨p,2+i * 3,none⟩) ba).trans aL) (by omega));have aN:=fun y (ah:Below w.heap.size w y)=>y' (eA' (G.ks.far (C' (E:=fun _=>False) ah) (fun _ _ h=>h)));rw[<-D]at aM;rw[<-aB]at aN aJ ⊢;rw[<-D];have aO:=fun y (ah:Below w.heap.size w y)=>y' (ds' y c.s c.dp st c.dlv c.duv (G.stt.far (C' (E:=fun _=>False) ah) (fun _ _ h=>h)) n i q b (by rw[G.len];omega) (by omega) (by omega) F);have c0:w.cell? ⟨p,0,none⟩=some (A' c.s):=by rw[t' G.ks.blk,G.ks.a0]
 obtain⟨aa,aC⟩:∃aa,aa=(st.putRecord n i q b.data.toList).1:=⟨_,rfl⟩;obtain⟨ab,ao⟩:∃ab,ab=(st.putRecord n i q b.data.toList).2:=⟨_,rfl⟩;rw[<-aC,<-ao]at aO ⊢;have bb:ab.dk.bytes.length=7808:=by
  rw[ao];unfold Mod.Stv.putRecord Mod.Dk.put;simp only
  split
  ·exact G.len
  ·split
   ·exact G.len
   ·simp only
    rw[Mod.length_setSec (Mod.length_sealB _ _ (by rw[Mod.length_recIn];simp;omega)) (by rw[G.len];omega)];exact G.len
 have bc:=y' (And.intro aB (And.intro D (And.intro aC ao)));have bw:(0:Int)<=(i:Int):=by omega
 have bz:(i:Int) < 3:=by omega
 have V:=y' G;have ap:=y' aK;clear G aK aB D aC ao aL;unfold A' at *;go_enter Tryz.func203,Tryz.ntmps203;go_upto_region 2 with fail;refine Z' (by kernel_rfl)
  [fun v _=>v= .pointer (some ⟨p,0,none⟩),fun v _=>v= .pointer (some ⟨p,0,none⟩),fun v _=>v= .pointer (some ⟨p,0,none⟩),fun v _=>v= .pointer (some ⟨c.s,0,none⟩),fun v _=>v= .pointer (some ⟨p,0,none⟩),fun v _=>v= .int .i64 n,fun v _=>v= .int .i64 i,fun v _=>v= .pointer (some ⟨p,2+i * 3,none⟩),fun v _=>v= .int .i64 q,fun v _=>v= .string b,
   fun v _=>v= .agg #[.int .i64 i, .int .i64 q, .string b],fun v y=>v= .int .i64 aa/\∃Q,cM' y c.s c.dp ab c.dlv Q/\Loc w c.duv Q,fun v _=>v= .int .i64 aa]
  [[(0,none)],[(14,some 0)],[(15,some 1)],[(16,some 2)],[(0,none)],[(18,some 4)],[(1,none)],[(7,none)],[(21,some 7)],[(2,none)],[(20,some 6),(22,some 8),(23,some 9)],[(17,some 3),(19,some 5),(24,some 10)],[(25,some 11)]] [some 14,some 15,some 16,some 17,some 18,some 19,some 20,some 21,some 22,some 23,some 24,some 25,some 8] [false,false,false,false,false,false,false,false,true,false,false,false,false,false,true,true,true,true,true,true,true,true,true,true,true,true,false,false,false,false,false,false,false,false,false,false,false,false,false]
  [(11,StU c.s c.dp c.dlv c.duv)]
  (by kernel_rfl) (by kernel_rfl) (by kernel_rfl) (by kernel_rfl) (by kernel_rfl) ?_ ?_ ?_ ?_
 ·repeat' (first|exact O' _|exact(fun _ _ _ h F=>⟨h.1,h.2.imp fun _ h=>⟨h.1.far (C' (E:=fun _=>False) F) (fun _ _ h=>h),h.2⟩⟩)|exact trivial|apply And.intro)
 ·repeat' (first|exact trivial|exact .inl rfl|exact .inr (.inr (an' _ _))|apply And.intro)
 ·refine⟨?_,?_,?_,?_,?_,?_,?_,?_,?_,?_,?_,?_,?_,trivial⟩;all_goals
   intro a r F U;simp only[M',List.getD_cons_zero,List.getD_cons_succ,Array.getD_eq_getD_getElem?]at U;try simp at U
  iterate 3
   ·clear F;go_simp;exact⟨_,rfl,Far.refl _ _,rfl⟩
  ·have z0:r.cell? ⟨p,0,none⟩=some (.pointer (some ⟨c.s,0,none⟩)):=by have:=F.blk (i' V).ks.blk (ae' (by intro q D;simp at D;subst D;exact fun h=>(i' V).sep p (.inl rfl) h));rw[t' this,(i' V).ks.a0];rfl
   clear F;go_simp;exact⟨_,rfl,Far.refl _ _,rfl⟩
  ·clear F;go_simp;exact⟨_,rfl,Far.refl _ _,rfl⟩
  ·have M:=eY' F (by intro q D;simp at D;subst D;show av' _ 11 5=true;decide+kernel);have ai:=y' (i' (aN r M));clear F M;go_simp;refine(i' ai).mono ?_;rintro ak aP ⟨rfl,rfl⟩;exact⟨_,rfl,Far.refl _ _,rfl⟩
  iterate 2
   ·clear F;go_simp;exact⟨_,rfl,Far.refl _ _,rfl⟩
  ·have M:=eY' F (by intro q D;simp at D;subst D;show av' _ 11 8=true;decide+kernel);have ai:=y' (i' (aM r M));clear F M;go_simp;refine(i' ai).mono ?_;rintro ak aP ⟨rfl,rfl⟩;exact⟨_,rfl,Far.refl _ _,rfl⟩
  iterate 2
   ·clear F;go_simp;exact⟨_,rfl,Far.refl _ _,rfl⟩
  ·have M:Below w.heap.size w r:=F.below (Nat.le_refl _) (by rintro j _ ⟨q,D,g1,g2,bA⟩;simp at D;subst D;exact g1 rfl);have ai:=y' (i' (aO r M));have be:=M.size;clear F M;go_simp;refine(i' ai).mono ?_;rintro ak aP ⟨rfl,Q,k1,k2,k3⟩;exact⟨_,rfl,aj' (.head _) k3,rfl,Q,k1,bH' k2 be⟩
  ·clear F;obtain⟨U,_⟩:=U;go_simp;exact⟨_,rfl,Far.refl _ _,rfl⟩
 ·intro f r hF aD;obtain⟨_,Q,k1,k2⟩:=aD.2.2.2.2.2.2.2.2.2.2.2.1;have bf:=aD.2.2.2.2.2.2.2.2.2.2.2.2.1;have hF:Far (StU c.s c.dp c.dlv c.duv) w r:=hF.mono (fun k _ h=>by obtain⟨q,D,h⟩:=h;simp at D;subst D;exact h);have aQ:aN' r p e logs sh ab {c with duv:=Q}:=⟨(i' V).ks.far hF (fun k z h=>(i' V).sep k z h),k1,(i' V).rl.far hF (fun g O h=>((i' V).sepr g O).2 h),bb⟩;have X:=y' aQ;have bg:=y' hF;have bh:=y' k2;clear aD hF k1 k2 aQ;simp only[Y',bf];generalize f 14=bB;generalize f 15=bC;generalize f 16=bD;generalize f 17=bE;generalize f 18=bF;generalize f 19=bG;generalize f 20=bH;generalize f 21=bI;generalize f 22=bJ;generalize f 23=bK;generalize f 24=bL;generalize f 25=bM;have aq:∀ (aE:Nat->List ByteArray) (au:World) (aF:Array Value) (av:Nat->Value),fP' au p e aE sh aF c.s av c.nv c.mv c.rv->Far (fun k=>k=p\/(c.lv i).ownBlock=some k) r au->(∀j,j < 3->Loc r (c.lv j) (av j))->bn' w au p e aE sh ab c:=by
   intro aE au aF av bi U hl;have H:=i' X;have aR:=i' bg;refine⟨{c with arr:=aF,lv:=av,duv:=Q},⟨bi,H.stt.far U (fun k z Y=>?_),H.rl.far U (fun g O Y=>?_),H.len⟩,?_,?_,rfl,rfl⟩
   ·rcases Y with rfl|Y
    ·exact H.sep _ (.inl rfl) z
    ·exact H.sep k (.inr (.inl ⟨i,hi,Y⟩)) z
   ·rcases Y with rfl|Y
    ·exact(H.sepr _ O).1 (.inl rfl)
    ·exact(H.sepr _ O).1 (.inr (.inl ⟨i,hi,Y⟩))
   ·exact(aR.mono (fun _ _ h=> .inr (.inl h))).trans U (fun k _ h=>h.elim (fun h=> .inl (.inl h)) (fun h=> .inl (.inr (.inl ⟨i,hi,h⟩))))
   ·have bN:=aR.size;have bj:=i' bh;rintro k ((rfl|⟨j,hj,z⟩|z)|(rfl|rfl|z|z)|z)
    ·exact .inl (.inl (.inl rfl))
    ·rcases hl j hj with h|h|⟨g,h,O⟩
     ·rw[h]at z;cases z
     ·exact .inl (.inl (.inr (.inl ⟨j,hj,by rw[<-h];exact z⟩)))
     ·rw[h]at z;cases z;exact .inr (by omega)
    ·exact .inl (.inl (.inr (.inr z)))
    ·exact .inl (.inr (.inl (.inl rfl)))
    ·exact .inl (.inr (.inl (.inr (.inl rfl))))
    ·exact .inl (.inr (.inl (.inr (.inr (.inl z)))))
    ·rcases bj with h|h|⟨g,h,O⟩
     ·rw[h]at z;cases z
     ·exact .inl (.inr (.inl (.inr (.inr (.inr (by rw[<-h];exact z))))))
     ·rw[h]at z;cases z;exact .inr O
    ·exact .inl (.inr (.inr z))
  by_cases h0:aa=0
  ·subst h0;have H:=(i' X).ks;have bk:r.cell? ⟨p,2+i * 3,none⟩=some (.slice I (logs i).length cap):=by rw[t' H.blk,H.al i hi,i' ap]
   have bO:r.frozen? ⟨p,2+i * 3,none⟩=false:=I' (i:=2+i * 3) H.blk;have aS:=H.lgs i hi;have bl:=y' aS;have aG:=y' aq;clear H aS aq;have bm:(logs i).length<=1000:=by omega
   have ax:as' r 9 1 (.slice I (logs i).length cap) (logs i).length (aV' (logs i)):=by have:=i' bl;rw[show({c with duv:=Q}:Sv).lv i= .slice I (logs i).length cap from i' ap]at this;exact this
   have aT:=fun aj=>y' (ax.keep (w':=r.alloc aj) (fun g O=>hao _ _ (ax.lt g O)));obtain⟨m,ac⟩:∃m,m=(logs i).length:=⟨_,rfl⟩;obtain⟨ad,aH⟩:∃ad,ad=aV' (logs i):=⟨_,rfl⟩;rw[<-ac]at bm bk;rw[<-ac,<-aH]at aT;have bn:=y' (And.intro ac aH);have bo:∀aj Z J,as' J 9 1 Z (m+1) (ad++[.string b])->App (r.alloc aj) J (.slice I m cap) Z->∃ay az,Z= .slice ay (m+1) az/\J.cell? ⟨p,2+i * 3,none⟩=some (.slice I m cap)/\J.frozen? ⟨p,2+i * 3,none⟩=false/\
     Hid (as' J 9 1 Z (m+1) (ad++[.string b])/\Loc r (.slice I m cap) Z/\Far (fun k=>(Value.slice I m cap).ownBlock=some k) r J):=by
    intro aj Z J h1 h2;obtain⟨ay,az,bp,_⟩:=h1.shape;have aU:Far (fun k=>(Value.slice I m cap).ownBlock=some k) r J:=(C' (E:=fun k=>(Value.slice I m cap).ownBlock=some k) ((Below.refl _ _).alloc (Nat.le_refl _) aj)).trans (br' h2.grown) (fun _ _ h=>h);have aV:(Value.slice I m cap).ownBlock≠some p:=by rw[ac];exact ax.ne (i' X).ks.blk (by decide)
    have aW:=aU.blk (i' X).ks.blk aV;refine⟨ay,az,bp,?_,I' (i:=2+i * 3) aW,y' ⟨h1,hS' (w:=r) (by simp) h2,aU⟩⟩;rw[t' aW,(i' X).ks.al i hi,ac];exact congrArg some (i' ap)
   clear ax ac aH;go_upto_region 6 with (at_builtin;refine hY' rfl (.tmp 33) (.tmp 35) 33 rfl 9 _ 1 16 Tryz.underlying33 nY' rfl _ m ad (i' (aT _)) rfl ⟨r.heap.size,0,none⟩ 1 1 [.string b] rfl rfl bX' (by intro u hu;simp at hu;subst hu;rfl) (by omega) (by omega) (by omega) ?_;intro Z J h1 h2;obtain⟨ay,az,rfl,bP,bQ,bq⟩:=bo _ _ _ h1 h2;clear h1 h2;go_simp);go_wp2;go_ret;obtain⟨br,aX,aY⟩:=i' bq;obtain⟨aZ,bt⟩:=i' bn;have aA:c.lv i= .slice I m cap:=by rw[aZ];exact i' ap
   refine⟨rfl,(i' aG) _ _ _ _ (pG' (i' X).ks i hi b _ ?_ ?_ ?_ ?_) ?_ ?_⟩
   ·show Far (fun k=>(c.lv i).ownBlock=some k) r J;rw[aA];exact aY
   ·rw[<-aZ,show aV' (logs i++[b])=ad++[.string b] by rw[bt];simp[aV']];exact br
   ·show Loc r (c.lv i) _;rw[aA];exact aX
   ·rw[<-(i' bc).1];exact aJ
   ·rw[aA];exact(aY.mono (fun _ _ h=> .inr h)).trans (S' J p (2+i * 3) _) (fun _ _ h=> .inl h)
   ·intro j hj;show Loc r (c.lv j) (if j=i then _ else c.lv j);by_cases aI:j=i
    ·rw[if_pos aI,aI,aA];exact aX
    ·rw[if_neg aI];exact .inr (.inl rfl)
  ·have aV:(aa==0)=false:=by simpa using h0
   have aG:=y' (aq logs r c.arr c.lv (i' X).ks (Far.refl _ _) (fun _ _=> .inr (.inl rfl)));clear aq;go_wp2;go_ret;exact⟨rfl,i' aG⟩
def hs':List (Nat×Value)->Nat->List (Nat×Value)
 |[],_=>[]
 |x::r,n=>if x.1=n then r else x::hs' r n
theorem fQ':∀ (l:List (Nat×Value)) (n:Nat),(hs' l n).Sublist l
 |[],_=>List.Sublist.refl _
 |x::r,n=>by
  unfold hs';split
  ·exact List.sublist_cons_self _ _
  ·exact(fQ' r n).cons_cons _
theorem nk' {l:List (Nat×Value)} (hs:(l.map (·.1)).Pairwise (· < ·)) (n:Nat):ar' (hs' l n)=mt' (ar' l) n:=by
 induction l with
 |nil=>funext k;simp[hs',ar',mt']
 |cons x z ih=>
  rw[List.map_cons,List.pairwise_cons]at hs;unfold hs';split
  ·rename_i h;subst h;exact(kV' (fun y r=>hs.1 y.1 (List.mem_map.2 ⟨y,r,rfl⟩))).symm
  ·rename_i h;funext k;have:=congrFun (ih hs.2) k;unfold mt' at this ⊢;rw[bY',bY',this];by_cases h1:k=(x.1:Int)
   ·rw[if_pos h1,if_pos h1,if_neg (by omega)]
   ·rw[if_neg h1,if_neg h1]
theorem tO' {l:List (Nat×Value)} (hs:(l.map (·.1)).Pairwise (· < ·)) {n:Nat} (r:(l.map (·.1)).contains n=true):
  (hs' l n).map (·.1)=(l.map (·.1)).take ((l.map (·.1)).countP (· < n))++(l.map (·.1)).drop ((l.map (·.1)).countP (· < n)+1):=by
 induction l with
 |nil=>simp at r
 |cons x z ih=>
  have J:=hs;rw[List.map_cons,List.pairwise_cons]at hs;unfold hs';split
  ·rename_i h;subst h;have F:(z.map (·.1)).countP (· < x.1)=0:=fE' (fun y G=>by have:=hs.1 y G;omega);rw[List.map_cons,List.countP_cons,F];simp
  ·rename_i h;have D:(z.map (·.1)).contains n=true:=by
    rw[List.map_cons,List.contains_cons]at r;have H:(n==x.1)=false:=by simp;omega
    rw[H,Bool.false_or]at r;exact r
   have I:x.1 < n:=by
    have:n∈z.map (·.1):=by simpa using D
    exact hs.1 n this
   rw[List.map_cons,ih hs.2 D,List.map_cons,List.countP_cons];simp[I]
theorem rG' {w:World} {p o:Nat} {t:TypeId} {arr:Array Value} {nv mv:Value} {l:List (Nat×Value)} (S:eJ' w p o t arr nv mv l) (n:Nat) (z:ar' l n=none):
  Calls Tryz.prog 204 #[.pointer (some ⟨p,o,none⟩), .int .i64 n] w fun e w'=>e= .returned (.tuple #[sW', .bool false])/\Below w.heap.size w w':=by
 have F:=lt_of_block S.blk;have c1:∀r,(w.alloc r).cell? ⟨p,o+1,none⟩=some mv:=fun r=>(World.cell?_alloc_lt w _ ⟨p,o+1,none⟩ F).trans ((t' S.blk).trans S.c1);have D:=fun r=>(bm' (P:=Tryz.prog) (w:=w.alloc r) (t:=117) Tryz.underlying117 Tryz.underlying3 (rD' _) (S.sh.map.keep (fun g G=>hao _ _ (S.sh.lt g (.inr G)))) n).1;rw[z]at D;simp only[Option.getD_none,Option.isSome_none,sW']at D ⊢;clear S z;go_enter Tryz.func204,Tryz.ntmps204;go_wp2;refine bodyPost_ret (v:= .tuple #[.agg #[.string ⟨#[]⟩], .bool false]) (by simp[results,Tryz.results204,go_sem]) rfl ⟨rfl,?_⟩;exact((Below.refl _ _).alloc (Nat.le_refl _) _).alloc (by simp) _
theorem rH' {w:World} {p o:Nat} {t:TypeId} {arr:Array Value} {nv mv:Value} {l:List (Nat×Value)} (S:eJ' w p o t arr nv mv l) (n:Nat) (b:ByteArray) (Q:ar' l n=some (du' b)):
  Calls Tryz.prog 204 #[.pointer (some ⟨p,o,none⟩), .int .i64 n] w fun e w'=>e= .returned (.tuple #[du' b, .bool true])/\dS' w w' p o t arr nv mv (hs' l n):=by
 have bj:o < arr.size:=(Array.getElem?_eq_some_iff.1 S.c0).1;have bE:o+1 < arr.size:=(Array.getElem?_eq_some_iff.1 S.c1).1;have aE:=lt_of_block S.blk;have aa:(l.map (·.1)).contains n=true:=by
  obtain⟨x,aF,h1,_⟩:=dm' Q;have:x.1=n:=by omega
  simp only[List.contains_eq_mem,decide_eq_true_eq];exact List.mem_map.2 ⟨x,aF,this⟩
 have bF:l.length<=1000:=S.sh.len;have ah:(l.map (·.1)).countP (· < n)+1<=(l.map (·.1)).length:=by
  have h1:(l.map (·.1)).countP (· < n)≠(l.map (·.1)).length:=by intro e;have h2:=List.countP_eq_length.1 e n (by simpa using aa);simp at h2
  have h2:(l.map (·.1)).countP (· < n)<=(l.map (·.1)).length:=List.countP_le_length;omega
 obtain⟨r,rfl,M⟩:∃r,mv= .map (some r)/\aZ' w r (ar' l):=by
  rcases S.sh.map with ⟨_,h⟩|⟨r,h1,h2⟩
  ·rw[h]at Q;cases Q
  ·exact⟨r,h1,h2⟩
 have bG:=M.lt;have aG:p≠r:=fun e=>M.not_cells (by rw[<-e];exact S.blk);have bk:=S.sh.nums.notMap M;have aH:nv.ownBlock≠some p:=fun e=>S.sh.ne S.blk S.ty (.inl e);obtain⟨bH,cap,av,_⟩:=(as'.of_own S.sh.nums).shape;rw[List.length_map]at av;have c1:∀U,(w.alloc U).cell? ⟨p,o+1,none⟩=some (.map (some r)):=fun U=>(World.cell?_alloc_lt w _ ⟨p,o+1,none⟩ aE).trans ((t' S.blk).trans S.c1);have ax:=fun U=>(bm' (P:=Tryz.prog) (w:=w.alloc U) (t:=117) Tryz.underlying117 Tryz.underlying3 (rD' _) (S.sh.map.keep (fun g z=>hao _ _ (S.sh.lt g (.inr z)))) n).1;rw[Q]at ax;simp only[Option.getD_some,Option.isSome_some,du']at ax ⊢;have ai:=y' S;have bI:=y' Q;have aI:=y' aa;have bJ:=y' av;clear S Q M aa av;go_enter Tryz.func204,Tryz.ntmps204;go_upto_region 3 with fail;refine H' (fun x=>x.heap[w.heap.size]? =some (.cells #[.string ⟨#[]⟩] 224 (0,0))/\x.heap[w.heap.size+1]? =some (.cells #[.string b] 224 (0,0))/\Below w.heap.size w x) (ca' _ _ _) ?_;rintro x ⟨h0,h1,ab⟩;have I:eJ' x p o t arr nv (.map (some r)) l:=by have S:=i' ai;exact⟨(ab.block _ aE).trans S.blk,S.c0,S.c1,S.sh.far (C' (E:=fun _=>False) ab) (fun _ _ h=>h),S.ty⟩
 have aJ:x.cell? ⟨p,o,none⟩=some nv:=(t' I.blk).trans I.c0;have aF:=ab.size;have bK:=lt_of_block h1;obtain⟨k,V⟩:∃k,k=(l.map (·.1)).countP (· < n):=⟨_,rfl⟩;have ay:=y' (cC' I.sh.nums I.sh.sorted (by rw[List.length_map];omega) n);rw[<-V,i' aI]at ay;rw[<-V]at ah;have aj:=fun q=>y' (dQ' (w:=x.drewN q) I.sh.nums k (k+1) (by omega) ah);have ak:=tO' I.sh.sorted (i' aI);rw[<-V]at ak;rw[<-ak]at aj;have bL:=y' (And.intro V ak);have bl:=y' h0;have bm:=y' h1;have bn:=y' ab;have ao:=y' I;have bo:IntKind.i64.wrap ((k:Int)+1)=(k:Int)+1:=by rw[IntKind.wrap_i64];rw[List.length_map]at ah;omega
 have aK:((k:Nat):Int)+1=((k+1:Nat):Int):=by omega
 obtain⟨k1,aL⟩:∃k1,k1=k+1:=⟨_,rfl⟩;rw[<-aL]at aj aK;rw[aK]at bo;clear h0 h1 ab I c1 ax V ak aL ah;go_upto_region 4 with (go_at_call 125;refine(i' ay).mono ?_;rintro e y ⟨rfl,q,rfl⟩);have bM:(x.drewN q).cell? ⟨p,o,none⟩=some nv:=aJ;have aM:=y' (aj q);have aN:∀D nv',aI' D nv' ((hs' l n).map (·.1))->Far (fun g=>nv.ownBlock=some g) (x.drewN q) D->nv'.ownBlock=nv.ownBlock->∃ac az ad,nv'= .slice ac az ad/\D.cell? ⟨p,o,none⟩=some nv/\D.frozen? ⟨p,o,none⟩=false/\D.cell? ⟨p,o+1,none⟩=some (.map (some r))/\
   Hid (aI' D nv' ((hs' l n).map (·.1))/\Far (fun g=>nv.ownBlock=some g) x D/\nv'.ownBlock=nv.ownBlock/\D.heap[p]? =some (.cells arr t (0,0))):=by
  intro D nv' J X Y;obtain⟨ac,ad,h2,_⟩:=(as'.of_own J).shape;have aO:Far (fun g=>nv.ownBlock=some g) x D:=(C' (E:=fun g=>nv.ownBlock=some g) (below_drewN (Below.refl _ _) q)).trans X (fun _ _ h=>h);have Z:=aO.blk (i' ao).blk aH;exact⟨ac,_,ad,h2,(t' Z).trans (i' ao).c0,by simp[World.frozen?,Z],(t' Z).trans (i' ao).c1,y' ⟨J,aO,Y,Z⟩⟩
 clear aJ aj ay;go_upto_region 5 with (go_at_call 199;refine(i' (i' aM)).mono ?_;rintro e D ⟨nv',rfl,J,X,Y⟩;obtain⟨ac,az,ad,rfl,z0,bp,bq,ap⟩:=aN _ _ J X Y;clear J X Y);obtain⟨G,aP⟩:∃G,G=Value.slice ac az ad:=⟨_,rfl⟩;rw[<-aP]at ap ⊢;refine H' (fun H=>H.heap[p]? =some (.cells (arr.setIfInBounds o G) t (0,0))/\aI' H G ((hs' l n).map (·.1))/\aZ' H r (ar' l)/\Far (fun g=>g=p\/nv.ownBlock=some g) x H) ?_ ?_
 ·obtain⟨J,X,Y,Z⟩:=i' ap;have O:=S' D p o G;have aQ:Far (fun g=>g=p\/nv.ownBlock=some g) x (D.setCell ⟨p,o,none⟩ G):=(X.mono (fun _ _ h=> .inr h)).trans O (fun _ _ h=> .inl h);refine⟨ah' Z,J.keep (fun g z=>O.rest g (World.ownsRow.lt J g z).2 (fun e=>aH (by rw[<-Y,z,e]))),?_,aQ⟩;have M:aZ' x r (ar' l):=by
   rcases(i' ao).sh.map with ⟨h,_⟩|⟨bN,h1,h2⟩
   ·cases h
   ·cases h1;exact h2
  exact M.keep (aQ.rest r M.lt (fun e=>e.elim (fun e=>aG e.symm) (fun e=>bk e)))
 have aR:G.ownBlock=nv.ownBlock:=(i' ap).2.2.1;clear z0 bp bq ap aN aM aP;rintro H ⟨aA,aS,aq,aB⟩;have br:H.cell? ⟨p,o+1,none⟩=some (.map (some r)):=by rw[t' aA,Array.getElem?_setIfInBounds_ne (by omega)];exact(i' ai).c1
 obtain⟨U,aT,aU⟩:=eZ' (P:=Tryz.prog) (w:=H) (t:=117) (K':=3) Tryz.underlying117 Tryz.underlying3 aq n;have bt:=fun ty=>aT ty H rfl;have bO:=aB.size;have bP:=aq.lt;have aV:=y' aA;have au:=y' aS;have aW:=y' aU;have bu:=y' aq;have aX:=y' aB;clear aA aS aq aB aT aU;go_upto_region 6 with fail;have aY:∀g,nv.ownBlock=some g->g < w.heap.size:=fun g z=>(i' ai).sh.lt g (.inl z);refine H' (fun F=>F.heap[p]? =some (.cells (arr.setIfInBounds o G) t (0,0))/\aI' F G ((hs' l n).map (·.1))/\aZ' F r (mt' (ar' l) n)/\Far (fun g=>(g=p\/nv.ownBlock=some g)\/g=r) x F/\F.heap[w.heap.size]? =some (.cells #[.string ⟨#[]⟩] 224 (0,0))/\F.heap[w.heap.size+1]? =some (.cells #[.string b] 224 (0,0))) ?_ ?_
 ·have aC:=be' (w:=H) r U;have hF:=(i' aX).mono (E':=fun g=>(g=p\/nv.ownBlock=some g)\/g=r) (fun _ _ h=> .inl h) |>.trans aC (fun _ _ h=> .inr h);have aZ:∀g,w.heap.size<=g->¬ ((g=p\/nv.ownBlock=some g)\/g=r):=by
   rintro g z ((h|h)|h)
   ·omega
   ·have:=aY g h;omega
   ·omega
  refine⟨aC.blk (i' aV) aG,(i' au).keep (fun g z=>aC.rest g (World.ownsRow.lt (i' au) g z).2 ?_),i' aW,hF,hF.blk (i' bl) (aZ _ (Nat.le_refl _)),hF.blk (i' bm) (aZ _ (by omega))⟩;rintro rfl;obtain⟨ba,aa⟩:∃ba,H.heap[g]? =some (.cells ba 3 (0,0)):=by
   rcases(i' au).cases with ⟨e,_⟩|⟨g',bQ,bR,e,bw,_⟩
   ·rw[e]at z;cases z
   ·rw[e]at z;cases z;exact⟨_,bw⟩
  exact(i' bu).not_cells aa
 rintro F ⟨bb,bc,be,bf,aD,bg⟩;have bz:F.cell? ⟨w.heap.size,0,none⟩=some (.string ⟨#[]⟩):=t' (i:=0) aD;have bS:F.cell? ⟨w.heap.size+1,0,none⟩=some (.string b):=t' (i:=0) bg;have bT:F.frozen? ⟨w.heap.size,0,none⟩=false:=I' (i:=0) aD;have bA:=y' bb;have bh:=y' bc;have bi:=y' be;have bB:=y' bf;clear bb bc be bf aD bg aV au aW aX bt br;go_wp2;refine bodyPost_ret (v:= .tuple #[.agg #[.string b], .bool true]) (by simp[results,Tryz.results204,go_sem,bz]) rfl ⟨rfl,?_⟩;have O:=S' F w.heap.size 0 (.string b);have S:=i' ai;have bC:p≠w.heap.size:=by omega
 refine⟨⟨G,⟨O.blk (i' bA) bC,by simp[bj],by rw[Array.getElem?_setIfInBounds_ne (by omega)];exact S.c1,⟨(i' bh).keep (fun g z=>O.rest g (World.ownsRow.lt (i' bh) g z).2 (fun e=>?_)), .inr ⟨r,rfl,?_⟩,?_,?_⟩,S.ty⟩,aR⟩,?_⟩
 ·rw[aR]at z;have:=aY g z;omega
 ·rw[nk' S.sh.sorted n];exact(i' bi).keep (O.rest r (i' bi).lt (by omega))
 ·exact S.sh.sorted.sublist ((fQ' l n).map _)
 ·exact Nat.le_trans (fQ' l n).length_le S.sh.len
 ·have bD:Far (fun k=>k=p\/ShU nv (.map (some r)) k) w F:=(C' (E:=fun k=>k=p\/ShU nv (.map (some r)) k) (i' bn)).trans (i' bB) (fun k _ h=>by
   rcases h with (h|h)|h
   ·exact .inl h
   ·exact .inr (.inl h)
   ·exact .inr (.inr (by rw[h];rfl)))
  exact bD.trans O (fun k V h=>by omega)
end Go.Proofs.YtamafdcnbcoegabGreat
namespace Go.Proofs.YtamafdcnbcoegabGreat
def dn' (held:List (Nat×Nat×ByteArray)) (sh:Nat->List (Nat×Value)):Prop:=∀s,s < 3->∀ (q:Nat) (b:ByteArray),ar' (sh s) (q:Int)=some (du' b) ↔ (s,q,b) ∈held
structure aR' (a:Mod.Sk):Prop where
 bod:∀h∈a.held,h.2.2.size<=20
 nxt:a.count < 120->∀s,s < 3->∀b,(s,(a.logs s).length+1,b) ∉a.held
theorem ld' {st q:Nat}:∀ {l:List (Nat×Nat×ByteArray)} {i k:Nat},Mod.ixFrom st q i l=some k->∃ (h:k - i < l.length),l[k - i].1=st/\l[k - i].2.1=q/\i<=k
 |[],_,_,h=>by simp[Mod.ixFrom]at h
 |x::l,i,k,h=>by
  rw[Mod.ixFrom]at h;split at h
  ·rename_i r;injection h with h;subst h;simpa using r
  ·obtain⟨h1,h2,h3,h4⟩:=ld' h;have e:k - i=(k - (i+1))+1:=by omega
   simp only[e];exact⟨by simp;omega,by simpa using h2,by simpa using h3,by omega⟩
theorem dv' {st q:Nat}:∀ {l:List (Nat×Nat×ByteArray)} {i:Nat},Mod.ixFrom st q i l=none->∀b,(st,q,b) ∉l
 |[],_,_=>by simp
 |x::l,i,h=>by
  rw[Mod.ixFrom]at h;split at h
  ·cases h
  ·rename_i z;intro b r;cases r with
   |head=>exact z ⟨rfl,rfl⟩
   |tail _ r=>exact dv' h b r
theorem gu' {a:Mod.Sk} {st q i:Nat} (h:a.ix st q=some i):(st,q,(a.held.getD i (0,0,⟨#[]⟩)).2.2) ∈a.held:=by
 obtain⟨h1,h2,h3,h4⟩:=ld' h;simp only[Nat.sub_zero]at h1 h2 h3;rw[List.getD_eq_getElem?_getD,List.getElem?_eq_getElem h1,Option.getD_some];have:=List.getElem_mem h1;rw[show(st,q,a.held[i].2.2)=a.held[i] by rw[<-h2,<-h3]];exact this
theorem kA' {a:Mod.Sk} {st q:Nat} (h:a.ix st q=none):∀b,(st,q,b) ∉a.held:=dv' h
theorem tP' {a:Mod.Sk} (F:aw' a) {s q:Nat} {b D:ByteArray} (h:(s,q,b) ∈a.held) (r:(s,q,D) ∈a.held):b=D:=by
 have z:=F.once;have:∀ (l:List (Nat×Nat×ByteArray)),(l.map fun h=>(h.1,h.2.1)).Nodup->(s,q,b) ∈l->(s,q,D) ∈l->b=D:=by
  intro l;induction l with
  |nil=>intro _ h;cases h
  |cons x G ih=>
   intro z h r;rw[List.map_cons,List.nodup_cons]at z;cases h with
   |head=>
    cases r with
    |head=>rfl
    |tail _ r=>exact absurd (List.mem_map.2 ⟨_,r,rfl⟩) z.1
   |tail _ h=>
    cases r with
    |head=>exact absurd (List.mem_map.2 ⟨_,h,rfl⟩) z.1
    |tail _ r=>exact ih z.2 h r
 exact this a.held z h r
structure rI' (a:Mod.Sk) (s q:Nat) (b:ByteArray) (out:List ByteArray) (sh:Nat->List (Nat×Value)):Prop where
 on:∀t,t < 3->∀ (n:Nat) (c:ByteArray),ar' (sh t) (n:Int)=some (du' c) ↔ ((t,n,c) ∈a.held/\(t=s->(a.logs s).length+out.length < n))
 are:∀t,t < 3->hp' (sh t)
 pos:0 < out.length
 len:a.count+out.length<=120
 run:a.commitFrom s q a.count (121 - out.length) out=a.commitFrom s q a.count 120 [b]
 bod:∀c∈out,c.size<=20
theorem rJ' {a:Mod.Sk} {sh:Nat->List (Nat×Value)} (z:aw' a) (D:aR' a) (F:dn' a.held sh) (A:∀t,t < 3->hp' (sh t)) (s:Nat) (b:ByteArray) (hs:s < 3) (G:b.size<=20) (H:a.count < 120):rI' a s ((a.logs s).length+1) b [b] sh:=by
 refine⟨fun t r n c=>?_,A,by simp,by simp;omega,by simp,by simpa using G⟩;rw[F t r n c];constructor
 ·intro h;refine⟨h,fun e=>?_⟩;subst e;have h1:=(z.held _ h).2.1;have h2:=D.nxt H t r c;simp only[List.length_singleton]at h1 ⊢;rcases Nat.lt_or_ge ((a.logs t).length+1) n with h3|h3
  ·exact h3
  ·have:n=(a.logs t).length+1:=by omega
   subst this;exact absurd h h2
 ·exact fun h=>h.1
theorem tQ' {a:Mod.Sk} {s:Nat} {b:ByteArray} {out:List ByteArray} {sh:Nat->List (Nat×Value)} (G:aw' a) (H:aR' a) (hs:s < 3) (r:rI' a s ((a.logs s).length+1) b out sh) (I:a.count+out.length < 120) {c:ByteArray} (J:((sh s).map (·.1)).Pairwise (· < ·))
  (hl:ar' (sh s) (((a.logs s).length+out.length+1:Nat):Int)=some (du' c)):
  rI' a s ((a.logs s).length+1) b (out++[c]) (fun t=>if t=s then hs' (sh s) ((a.logs s).length+out.length+1)else sh t):=by
 have D:=((r.on s hs _ c).1 hl).1;refine⟨fun t z n d=>?_,fun t z=>?_,by simp,by simp;omega,?_,?_⟩
 ·by_cases e:t=s
  ·subst e;rw[if_pos rfl,nk' J];unfold mt';by_cases h1:(n:Int)=(((a.logs t).length+out.length+1:Nat):Int)
   ·rw[if_pos h1];simp;intro _;omega
   ·rw[if_neg h1,r.on t z n d];simp;intro _;omega
  ·rw[if_neg e,r.on t z n d];simp[e]
 ·show hp' (if t=s then _ else sh t);by_cases e:t=s
  ·rw[if_pos e];exact fun x M=>r.are s hs x ((fQ' _ _).subset M)
  ·rw[if_neg e];exact r.are t z
 ·rw[<-r.run];have O:(out++[c]).length=out.length+1:=by simp
  rw[O];have Q:121 - out.length=(121 - (out.length+1))+1:=by have:=r.len;omega
  rw[Q];have F:(a.logs s).length+1+out.length=(a.logs s).length+out.length+1:=by omega
  cases hi:a.ix s ((a.logs s).length+1+out.length)with
  |none=>have:=kA' hi c;rw[F]at this;exact absurd D this
  |some i=>rw[Mod.Sk.commitFrom_some I hi];have h2:=gu' hi;rw[F]at h2;rw[tP' G D h2]
 ·intro d hd;rw[List.mem_append,List.mem_singleton]at hd;rcases hd with hd|rfl
  ·exact r.bod d hd
  ·exact H.bod _ D
theorem nl' {a:Mod.Sk} {s:Nat} {b:ByteArray} {out:List ByteArray} {sh:Nat->List (Nat×Value)} (hs:s < 3) (r:rI' a s ((a.logs s).length+1) b out sh)
  (h:¬a.count+out.length < 120\/ar' (sh s) (((a.logs s).length+out.length+1:Nat):Int)=none):out=a.commitFrom s ((a.logs s).length+1) a.count 120 [b]:=by
 rw[<-r.run];rcases h with h|h
 ·exact(Mod.Sk.commitFrom_stop h).symm
 ·by_cases z:a.count+out.length < 120
  ·refine(Mod.Sk.commitFrom_none z ?_).symm;cases hi:a.ix s ((a.logs s).length+1+out.length)with
   |none=>rfl
   |some i=>have h2:=gu' hi;rw[show(a.logs s).length+1+out.length=(a.logs s).length+out.length+1 by omega]at h2;have:=(r.on s hs _ _).2 ⟨h2,fun _=>by omega⟩;rw[h]at this;cases this
  ·exact(Mod.Sk.commitFrom_stop z).symm
theorem wv' {a:Mod.Sk} {s:Nat} {b:ByteArray} {out:List ByteArray} {sh:Nat->List (Nat×Value)} (r:rI' a s ((a.logs s).length+1) b out sh):dn' (bB' a s out).held sh:=by
 intro t z n c;rw[r.on t z n c];show _↔ _∈ (a.held.filter (Mod.keeps s (a.logs s++out).length));rw[List.mem_filter,List.length_append];unfold Mod.keeps;by_cases e:t=s
 ·subst e;simp
 ·simp[e]
end Go.Proofs.YtamafdcnbcoegabGreat
namespace Go.Proofs.YtamafdcnbcoegabGreat
open Go.RowKit
section
variable {w x y:World} {p e e2:Nat} {logs logs2:Nat->List ByteArray} {sh sh2:Nat->List (Nat×Value)} {st st2:Mod.Stv} {c:Sv}
theorem pH' (r:aN' w p e logs sh st c):bn' w w p e logs sh st c:=⟨c,r,Far.refl _ _,fun _ h=> .inl h,rfl,rfl⟩
theorem bn'.trans (h:bn' w x p e logs sh st c) (D:∀r,aN' x p e logs sh st r->bn' x y p e2 logs2 sh2 st2 r):bn' w y p e2 logs2 sh2 st2 c:=by
 obtain⟨c1,h1,h2,h3,h4,h5⟩:=h;obtain⟨c2,k1,k2,k3,k4,k5⟩:=D c1 h1;refine⟨c2,k1,h2.trans k2 (fun k z hu=>(h3 k hu).elim id (fun h=>by omega)),fun k z=>?_,k4.trans h4,k5.trans h5⟩;rcases k3 k z with h|h
 ·exact h3 k h
 ·exact .inr (Nat.le_trans h2.size h)
theorem bn'.below (h:bn' w x p e logs sh st c) (r:Below x.heap.size x y):bn' w y p e logs sh st c:=
 h.trans (fun z D=>⟨z,D.far (C' (E:=fun _=>False) r) (fun _ _ h=>h),C' r,fun _ h=> .inl h,rfl,rfl⟩)
theorem aN'.shAt (r:aN' w p e logs sh st c) {i:Nat} (hi:i < 3):eJ' w p (2+i * 3+1) 125 c.arr (c.nv i) (c.mv i) (sh i):=
 ⟨r.ks.blk,r.ks.an i hi,r.ks.am i hi,r.ks.shs i hi,by decide⟩
theorem sX' (r:aN' w p e logs sh st c) {i:Nat} (hi:i < 3) {H:List (Nat×Value)} {nv' mv':Value} (S:eJ' x p (2+i * 3+1) 125 ((c.arr.setIfInBounds (2+i * 3+1) nv').setIfInBounds (2+i * 3+1+1) mv') nv' mv' H) (U:Loc w (c.nv i) nv')
  (V:aT' mv'=aT' (c.mv i)\/∃g,aT' mv'=some g/\w.heap.size<=g) (hF:Far (fun k=>k=p\/ShU (c.nv i) (c.mv i) k) w x) (A:hp' H):
  aN' x p e logs (fun t=>if t=i then H else sh t) st {c with arr:=(c.arr.setIfInBounds (2+i * 3+1) nv').setIfInBounds (2+i * 3+1+1) mv',nv:=fun t=>if t=i then nv' else c.nv t,mv:=fun t=>if t=i then mv' else c.mv t}/\
   (∀k,ShU nv' mv' k->ShU (c.nv i) (c.mv i) k\/w.heap.size<=k):=by
 have Q:∀k,(k=p\/ShU (c.nv i) (c.mv i) k)->KsU p c.lv c.nv c.mv k:=fun k z=>z.elim .inl (fun h=> .inr (.inr ⟨i,hi,h⟩));have X:=r.stt.far hF (fun k z h=>r.sep k (Q k h) z);have Y:=r.rl.far hF (fun g F h=>(r.sepr g F).1 (Q g h));have Z:=r.ks.sz;have G:∀j,j≠2+i * 3+1->j≠2+i * 3+2->((c.arr.setIfInBounds (2+i * 3+1) nv').setIfInBounds (2+i * 3+1+1) mv')[j]? =c.arr[j]? :=fun j h1 h2=>by rw[Array.getElem?_setIfInBounds_ne (by omega),Array.getElem?_setIfInBounds_ne (by omega)]
 have O:∀k,ShU nv' mv' k->ShU (c.nv i) (c.mv i) k\/w.heap.size<=k:=by
  rintro k (z|z)
  ·rcases U with h|h|⟨g,h,F⟩
   ·rw[h]at z;cases z
   ·exact .inl (.inl (by rw[<-h];exact z))
   ·rw[h]at z;cases z;exact .inr F
  ·rcases V with h|⟨g,h,F⟩
   ·exact .inl (.inr (by rw[<-h];exact z))
   ·rw[h]at z;cases z;exact .inr F
 refine⟨⟨⟨S.blk,by simpa using Z,?_,?_,?_,?_,?_,?_,?_,?_,?_,r.ks.apl,?_,r.ks.cnt,r.ks.ep⟩,X,Y,r.len⟩,O⟩
 ·rw[G _ (by omega) (by omega)];exact r.ks.a0
 ·rw[G _ (by omega) (by omega)];exact r.ks.a1
 ·intro j hj;rw[G _ (by omega) (by omega)];exact r.ks.al j hj
 ·intro j hj;show _=some (if j=i then nv' else c.nv j);by_cases e:j=i
  ·subst e;rw[if_pos rfl];exact S.c0
  ·rw[if_neg e,G _ (by omega) (by omega)];exact r.ks.an j hj
 ·intro j hj;show _=some (if j=i then mv' else c.mv j);by_cases e:j=i
  ·subst e;rw[if_pos rfl];exact S.c1
  ·rw[if_neg e,G _ (by omega) (by omega)];exact r.ks.am j hj
 ·rw[G _ (by omega) (by omega)];exact r.ks.ar
 ·intro j hj;refine(r.ks.lgs j hj).far hF (fun g F h=>?_);obtain⟨ab,aa⟩:=cI' (r.ks.lgs j hj) F;rcases h with h|h
  ·exact(r.ks.lgs j hj).ne r.ks.blk (by decide) (by rw[F,h])
  ·exact(r.ks.shs i hi).ne aa (by decide) h
 ·intro j hj;show aM' x (if j=i then nv' else c.nv j) (if j=i then mv' else c.mv j) (if j=i then H else sh j);by_cases e:j=i
  ·rw[if_pos e,if_pos e,if_pos e];exact S.sh
  ·rw[if_neg e,if_neg e,if_neg e];refine(r.ks.shs j hj).far hF (fun k z h=>?_);rcases h with h|h
   ·exact(r.ks.shs j hj).ne r.ks.blk (by decide) (by rw[<-h];exact z)
   ·exact r.ks.aps j i hj hi e k z h
 ·intro j hj;show hp' (if j=i then H else sh j);by_cases e:j=i
  ·rw[if_pos e];exact A
  ·rw[if_neg e];exact r.ks.are j hj
 ·intro j D hj J I k z;replace z:ShU (if j=i then nv' else c.nv j) (if j=i then mv' else c.mv j) k:=z;show ¬ShU (if D=i then nv' else c.nv D) (if D=i then mv' else c.mv D) k;by_cases h1:j=i
  ·subst h1;rw[if_pos rfl,if_pos rfl]at z;rw[if_neg (fun e=>I e.symm),if_neg (fun e=>I e.symm)];intro M;rcases O k z with h|h
   ·exact r.ks.aps j D hj J I k h M
   ·have:=(r.ks.shs D J).lt k M;omega
  ·rw[if_neg h1,if_neg h1]at z;by_cases h2:D=i
   ·subst h2;rw[if_pos rfl,if_pos rfl];intro M;rcases O k M with h|h
    ·exact r.ks.aps j D hj J I k z h
    ·have:=(r.ks.shs j hj).lt k z;omega
   ·rw[if_neg h2,if_neg h2];exact r.ks.aps j D hj J I k z
theorem nm' (D:aN' w p e logs sh st c) {i:Nat} (hi:i < 3) {z:List (Nat×Value)} (h:cd' w x p (2+i * 3+1) 125 c.arr (c.nv i) (c.mv i) z) (A:hp' z):
  bn' w x p e logs (fun t=>if t=i then z else sh t) st c:=by
 obtain⟨⟨nv',mv',S,F,G⟩,hF⟩:=h;have H:∀k,(k=p\/ShU (c.nv i) (c.mv i) k)->KsU p c.lv c.nv c.mv k:=fun k r=>r.elim .inl (fun h=> .inr (.inr ⟨i,hi,h⟩));obtain⟨I,J⟩:=sX' D hi S F G hF A;refine⟨_,I,?_,?_,rfl,rfl⟩
 ·exact hF.mono (fun k _ h=> .inl (H k h))
 ·rintro k ((rfl|r|⟨j,hj,r⟩)|r|r)
  ·exact .inl (.inl (.inl rfl))
  ·exact .inl (.inl (.inr (.inl r)))
  ·have r:ShU (if j=i then nv' else c.nv j) (if j=i then mv' else c.mv j) k:=r;by_cases e:j=i
   ·rw[if_pos e,if_pos e]at r;exact(J k r).elim (fun h=> .inl (.inl (.inr (.inr ⟨i,hi,h⟩)))) .inr
   ·rw[if_neg e,if_neg e]at r;exact .inl (.inl (.inr (.inr ⟨j,hj,r⟩)))
  ·exact .inl (.inr (.inl r))
  ·exact .inl (.inr (.inr r))
def tR' (w z:World) (p e:Nat) (logs:Nat->List ByteArray) (sh:Nat->List (Nat×Value)) (st:Mod.Stv) (c:Sv):Prop:=
 ∃r,aN' z p e logs sh st r/\(∀k,PkU p r k->PkU p c k)/\Far (PkU p c) w z/\r.s=c.s/\r.rv=c.rv
theorem tR'.far {E:Nat->Prop} (h:tR' w x p e logs sh st c) (D:∀k,PkU p c k->k < w.heap.size) (hF:Far E x y) (r:∀k,E k->w.heap.size<=k):tR' w y p e logs sh st c:=by
 obtain⟨F,h1,h2,h3,h4,h5⟩:=h;exact⟨F,h1.far hF (fun k z e=>by have:=D k (h2 k z);have:=r k e;omega),h2,h3.trans hF (fun k z e=>by have:=r k e;omega),h4,h5⟩
theorem tS' (D:aN' w p e logs sh st c) {i:Nat} (hi:i < 3) {z:List (Nat×Value)} (h:dS' w x p (2+i * 3+1) 125 c.arr (c.nv i) (c.mv i) z) (A:hp' z):
  tR' w x p e logs (fun t=>if t=i then z else sh t) st c:=by
 obtain⟨⟨nv',S,F⟩,hF⟩:=h;have e2:(c.arr.setIfInBounds (2+i * 3+1) nv').setIfInBounds (2+i * 3+1+1) (c.mv i)=c.arr.setIfInBounds (2+i * 3+1) nv':=bi' (by rw[Array.getElem?_setIfInBounds_ne (by omega)];exact D.ks.am i hi);obtain⟨G,_⟩:=sX' (nv':=nv') (mv':=c.mv i) D hi (by rw[e2];exact S) (.inr (.inl F)) (.inl rfl) hF A;have H:∀k,ShU nv' (c.mv i) k->ShU (c.nv i) (c.mv i) k:=fun k r=>r.elim (fun h=> .inl (by rw[<-F];exact h)) .inr;refine⟨_,G,?_,hF.mono (fun k _ h=> .inl (h.elim .inl (fun h=> .inr (.inr ⟨i,hi,h⟩)))),rfl,rfl⟩;rintro k ((rfl|r|⟨j,hj,r⟩)|r|r)
 ·exact .inl (.inl rfl)
 ·exact .inl (.inr (.inl r))
 ·have r:ShU (if j=i then nv' else c.nv j) (if j=i then c.mv i else c.mv j) k:=r;by_cases e:j=i
  ·rw[if_pos e,if_pos e]at r;exact .inl (.inr (.inr ⟨i,hi,H k r⟩))
  ·rw[if_neg e,if_neg e]at r;exact .inl (.inr (.inr ⟨j,hj,r⟩))
 ·exact .inr (.inl r)
 ·exact .inr (.inr r)
end
def xb' (st:Mod.Stv):Prop:=st.dk.dead=false/\st.dk.armed=0
structure jh' (w:World) (p:Nat) (g:Nat->Nat) (tk:Nat) (wel fen:Bool) (free:List Nat) (sh:Nat->List (Nat×Value)) (arr:Array Value) (s:Nat) (nv mv:Nat->Value) (fv rv:Value):Prop where
 blk:w.heap[p]? =some (.cells arr 116 (0,0))
 sz:arr.size=27
 a0:arr[0]? =some (A' s)
 ag:∀i,i < 3->arr[1+i]? =some (.int .i64 (g i))
 an:∀k,k < 9->arr[4+k * 2]? =some (nv k)
 am:∀k,k < 9->arr[4+k * 2+1]? =some (mv k)
 af:arr[22]? =some fv
 at':arr[23]? =some (.int .i64 tk)
 aw:arr[24]? =some (.bool wel)
 ae:arr[25]? =some (.bool fen)
 ar:arr[26]? =some rv
 fr:as' w 3 1 fv free.length (J' free)
 shs:∀k,k < 9->aM' w (nv k) (mv k) (sh k)
 apf:∀k,k < 9->∀j,ShU (nv k) (mv k) j->fv.ownBlock≠some j
 aps:∀j k,j < 9->k < 9->j≠k->∀b,ShU (nv j) (mv j) b->¬ShU (nv k) (mv k) b
def KaU (p:Nat) (nv mv:Nat->Value) (fv:Value) (k:Nat):Prop:=k=p\/fv.ownBlock=some k\/∃i,i < 9/\ShU (nv i) (mv i) k
structure Av where
 arr:Array Value
 s:Nat
 dp:Nat
 nv:Nat->Value
 mv:Nat->Value
 fv:Value
 rv:Value
 dlv:Value
 duv:Value
def aH' (p:Nat):List Value:=[.int .i64 2, .func (.func 76) #[A' p] #[], .int .i64 4, .func (.func 77) #[A' p] #[], .int .i64 5, .func (.func 78) #[A' p] #[]]
structure aC' (w:World) (p:Nat) (g:Nat->Nat) (tk:Nat) (wel fen:Bool) (free:List Nat) (sh:Nat->List (Nat×Value)) (st:Mod.Stv) (c:Av):Prop where
 ks:jh' w p g tk wel fen free sh c.arr c.s c.nv c.mv c.fv c.rv
 stt:cM' w c.s c.dp st c.dlv c.duv
 rl:as' w 134 2 c.rv 3 (aH' p)
 len:st.dk.bytes.length=1664
def PaU (p:Nat) (c:Av) (k:Nat):Prop:=KaU p c.nv c.mv c.fv k\/StU c.s c.dp c.dlv c.duv k\/c.rv.ownBlock=some k
section
variable {w x y:World} {p:Nat} {g g2:Nat->Nat} {tk tk2:Nat} {wel wel2 fen fen2:Bool} {free free2:List Nat} {sh sh2:Nat->List (Nat×Value)} {arr:Array Value} {s:Nat} {nv mv:Nat->Value} {fv rv:Value} {st st2:Mod.Stv} {c:Av}
theorem jh'.far {E:Nat->Prop} (h:jh' w p g tk wel fen free sh arr s nv mv fv rv) (r:Far E w x) (z:∀k,KaU p nv mv fv k->¬E k):jh' x p g tk wel fen free sh arr s nv mv fv rv:=
 ⟨r.blk h.blk (z p (.inl rfl)),h.sz,h.a0,h.ag,h.an,h.am,h.af,h.at',h.aw,h.ae,h.ar,h.fr.far r (fun g D=>z g (.inr (.inl D))),fun i hi=>(h.shs i hi).far r (fun k F=>z k (.inr (.inr ⟨i,hi,F⟩))),h.apf,h.aps⟩
theorem jh'.lt (h:jh' w p g tk wel fen free sh arr s nv mv fv rv):∀k,KaU p nv mv fv k->k < w.heap.size:=by
 rintro k (rfl|r|⟨i,hi,r⟩)
 ·exact lt_of_block h.blk
 ·exact h.fr.lt k r
 ·exact(h.shs i hi).lt k r
theorem co' (h:jh' w p g tk wel fen free sh arr s nv mv fv rv) {q:Nat} {D:Array Value} {t:TypeId} {fr:Nat×Nat} (r:w.heap[q]? =some (.cells D t fr)) (h1:t≠116) (h3:t≠3):¬KaU p nv mv fv q:=by
 rintro(rfl|z|⟨i,hi,z⟩)
 ·have:=h.blk;rw[r]at this;injection this with this;injection this with _ this _;exact h1 this
 ·exact h.fr.ne r (fun e=>h3 e.symm) z
 ·exact(h.shs i hi).ne r h3 z
theorem aC'.lt (h:aC' w p g tk wel fen free sh st c):∀k,PaU p c k->k < w.heap.size:=by
 rintro k (r|r|r)
 ·exact h.ks.lt k r
 ·exact h.stt.lt k r
 ·exact h.rl.lt k r
theorem aC'.far {E:Nat->Prop} (h:aC' w p g tk wel fen free sh st c) (r:Far E w x) (z:∀k,PaU p c k->¬E k):aC' x p g tk wel fen free sh st c:=
 ⟨h.ks.far r (fun k D=>z k (.inl D)),h.stt.far r (fun k D=>z k (.inr (.inl D))),h.rl.far r (fun g F=>z g (.inr (.inr F))),h.len⟩
theorem aC'.below (h:aC' w p g tk wel fen free sh st c) (r:Below w.heap.size w x):aC' x p g tk wel fen free sh st c:=h.far (C' (E:=fun _=>False) r) (fun _ _ h=>h)
theorem aC'.sep (h:aC' w p g tk wel fen free sh st c):∀k,KaU p c.nv c.mv c.fv k->¬StU c.s c.dp c.dlv c.duv k:=by
 rintro k r (hs|hs|hs|hs)
 ·subst hs;exact co' h.ks h.stt.blk (by decide) (by decide) r
 ·subst hs;exact co' h.ks h.stt.dk.blk (by decide) (by decide) r
 ·obtain⟨D,z⟩:=cI' (as'.of_own h.stt.dk.row) hs;exact co' h.ks z (by decide) (by decide) r
 ·obtain⟨D,z⟩:=cI' h.stt.dk.un hs;exact co' h.ks z (by decide) (by decide) r
theorem aC'.sepr (h:aC' w p g tk wel fen free sh st c):∀k,c.rv.ownBlock=some k->¬KaU p c.nv c.mv c.fv k/\¬StU c.s c.dp c.dlv c.duv k:=by
 intro k z;obtain⟨D,r⟩:=cI' h.rl z;refine⟨co' h.ks r (by decide) (by decide),?_⟩;rintro(hs|hs)
 ·rw[hs,h.stt.blk]at r;injection r with r;injection r with _ r _;exact absurd r (by decide)
 ·exact el' h.stt.dk r (by decide) (by decide) (by decide) hs
theorem cR' (r:aC' w p g tk wel fen free sh st c) {q:Nat} {D:Array Value} {t:TypeId} {fr:Nat×Nat} (z:w.heap[q]? =some (.cells D t fr))
  (h1:t≠116) (h3:t≠3) (h4:t≠190) (h5:t≠233) (F:t≠5) (G:t≠254) (H:t≠134):¬PaU p c q:=by
 rintro(h|(h|h)|h)
 ·exact co' r.ks z h1 h3 h
 ·subst h;have:=r.stt.blk;rw[z]at this;injection this with this;injection this with _ this _;exact h4 this
 ·exact el' r.stt.dk z (fun e=>h5 e.symm) (fun e=>F e.symm) (fun e=>G e.symm) h
 ·exact r.rl.ne z (fun e=>H e.symm) h
def aA' (w x:World) (p:Nat) (g:Nat->Nat) (tk:Nat) (wel fen:Bool) (free:List Nat) (sh:Nat->List (Nat×Value)) (st:Mod.Stv) (c:Av):Prop:=
 ∃r,aC' x p g tk wel fen free sh st r/\Far (PaU p c) w x/\(∀k,PaU p r k->PaU p c k\/w.heap.size<=k)/\r.s=c.s/\r.rv=c.rv
theorem pI' (r:aC' w p g tk wel fen free sh st c):aA' w w p g tk wel fen free sh st c:=⟨c,r,Far.refl _ _,fun _ h=> .inl h,rfl,rfl⟩
theorem aA'.trans (h:aA' w x p g tk wel fen free sh st c) (D:∀r,aC' x p g tk wel fen free sh st r->aA' x y p g2 tk2 wel2 fen2 free2 sh2 st2 r):aA' w y p g2 tk2 wel2 fen2 free2 sh2 st2 c:=by
 obtain⟨c1,h1,h2,h3,h4,h5⟩:=h;obtain⟨c2,k1,k2,k3,k4,k5⟩:=D c1 h1;refine⟨c2,k1,h2.trans k2 (fun k z hu=>(h3 k hu).elim id (fun h=>by omega)),fun k z=>?_,k4.trans h4,k5.trans h5⟩;rcases k3 k z with h|h
 ·exact h3 k h
 ·exact .inr (Nat.le_trans h2.size h)
theorem aA'.below (h:aA' w x p g tk wel fen free sh st c) (r:Below x.heap.size x y):aA' w y p g tk wel fen free sh st c:=
 h.trans (fun z D=>⟨z,D.below r,C' r,fun _ h=> .inl h,rfl,rfl⟩)
theorem aA'.behind (h:aA' x y p g tk wel fen free sh st c) (r:Below w.heap.size w x):aA' w y p g tk wel fen free sh st c:=by
 obtain⟨z,h1,h2,h3,h4,h5⟩:=h;exact⟨z,h1,(C' (E:=PaU p c) r).trans h2 (fun _ _ h=>h),fun k D=>(h3 k D).imp id (fun h=>Nat.le_trans r.size h),h4,h5⟩
theorem aC'.shAt (r:aC' w p g tk wel fen free sh st c) {i:Nat} (hi:i < 9):eJ' w p (4+i * 2) 116 c.arr (c.nv i) (c.mv i) (sh i):=
 ⟨r.ks.blk,r.ks.an i hi,r.ks.am i hi,r.ks.shs i hi,by decide⟩
theorem cJ' (z:aC' w p g tk wel fen free sh st c) {i:Nat} (hi:i < 9) {Q:List (Nat×Value)} (h:cd' w x p (4+i * 2) 116 c.arr (c.nv i) (c.mv i) Q):
  aA' w x p g tk wel fen free (fun t=>if t=i then Q else sh t) st c:=by
 obtain⟨⟨nv',mv',S,V,X⟩,hF⟩:=h;have U:∀k,(k=p\/ShU (c.nv i) (c.mv i) k)->KaU p c.nv c.mv c.fv k:=fun k r=>r.elim .inl (fun h=> .inr (.inr ⟨i,hi,h⟩));have Y:=z.ks.sz;have D:∀j,j≠4+i * 2->j≠4+i * 2+1->((c.arr.setIfInBounds (4+i * 2) nv').setIfInBounds (4+i * 2+1) mv')[j]? =c.arr[j]? :=fun j h1 h2=>by rw[Array.getElem?_setIfInBounds_ne (by omega),Array.getElem?_setIfInBounds_ne (by omega)]
 have J:∀k,ShU nv' mv' k->ShU (c.nv i) (c.mv i) k\/w.heap.size<=k:=by
  rintro k (r|r)
  ·rcases V with h|h|⟨g,h,G⟩
   ·rw[h]at r;cases r
   ·exact .inl (.inl (by rw[<-h];exact r))
   ·rw[h]at r;cases r;exact .inr G
  ·rcases X with h|⟨g,h,G⟩
   ·exact .inl (.inr (by rw[<-h];exact r))
   ·rw[h]at r;cases r;exact .inr G
 have Z:c.fv.ownBlock≠some p:=z.ks.fr.ne z.ks.blk (by decide);refine⟨{c with arr:=(c.arr.setIfInBounds (4+i * 2) nv').setIfInBounds (4+i * 2+1) mv',nv:=fun t=>if t=i then nv' else c.nv t,mv:=fun t=>if t=i then mv' else c.mv t},
  ⟨⟨S.blk,by simpa using Y,?_,?_,?_,?_,?_,?_,?_,?_,?_,?_,?_,?_,?_⟩,z.stt.far hF (fun k r h=>z.sep k (U k h) r),z.rl.far hF (fun g G h=>(z.sepr g G).1 (U g h)),z.len⟩,hF.mono (fun k _ h=> .inl (U k h)),?_,rfl,rfl⟩
 ·rw[D _ (by omega) (by omega)];exact z.ks.a0
 ·intro j hj;rw[D _ (by omega) (by omega)];exact z.ks.ag j hj
 ·intro j hj;show _=some (if j=i then nv' else c.nv j);by_cases e:j=i
  ·subst e;rw[if_pos rfl];exact S.c0
  ·rw[if_neg e,D _ (by omega) (by omega)];exact z.ks.an j hj
 ·intro j hj;show _=some (if j=i then mv' else c.mv j);by_cases e:j=i
  ·subst e;rw[if_pos rfl];exact S.c1
  ·rw[if_neg e,D _ (by omega) (by omega)];exact z.ks.am j hj
 ·rw[D _ (by omega) (by omega)];exact z.ks.af
 ·rw[D _ (by omega) (by omega)];exact z.ks.at'
 ·rw[D _ (by omega) (by omega)];exact z.ks.aw
 ·rw[D _ (by omega) (by omega)];exact z.ks.ae
 ·rw[D _ (by omega) (by omega)];exact z.ks.ar
 ·exact z.ks.fr.far hF (fun g G h=>h.elim (fun h=>Z (by rw[G,h])) (fun h=>z.ks.apf i hi g h G))
 ·intro j hj;show aM' x (if j=i then nv' else c.nv j) (if j=i then mv' else c.mv j) (if j=i then Q else sh j);by_cases e:j=i
  ·rw[if_pos e,if_pos e,if_pos e];exact S.sh
  ·rw[if_neg e,if_neg e,if_neg e];refine(z.ks.shs j hj).far hF (fun k r h=>?_);rcases h with h|h
   ·exact(z.ks.shs j hj).ne z.ks.blk (by decide) (by rw[<-h];exact r)
   ·exact z.ks.aps j i hj hi e k r h
 ·intro j hj b H;replace H:ShU (if j=i then nv' else c.nv j) (if j=i then mv' else c.mv j) b:=H;by_cases e:j=i
  ·rw[if_pos e,if_pos e]at H;rcases J b H with h|h
   ·exact z.ks.apf i hi b h
   ·intro aa;have:=z.ks.fr.lt b aa;omega
  ·rw[if_neg e,if_neg e]at H;exact z.ks.apf j hj b H
 ·intro j F hj M I k r;replace r:ShU (if j=i then nv' else c.nv j) (if j=i then mv' else c.mv j) k:=r;show ¬ShU (if F=i then nv' else c.nv F) (if F=i then mv' else c.mv F) k;by_cases h1:j=i
  ·subst h1;rw[if_pos rfl,if_pos rfl]at r;rw[if_neg (fun e=>I e.symm),if_neg (fun e=>I e.symm)];intro O;rcases J k r with h|h
   ·exact z.ks.aps j F hj M I k h O
   ·have:=(z.ks.shs F M).lt k O;omega
  ·rw[if_neg h1,if_neg h1]at r;by_cases h2:F=i
   ·subst h2;rw[if_pos rfl,if_pos rfl];intro O;rcases J k O with h|h
    ·exact z.ks.aps j F hj M I k r h
    ·have:=(z.ks.shs j hj).lt k r;omega
   ·rw[if_neg h2,if_neg h2];exact z.ks.aps j F hj M I k r
 ·rintro k ((rfl|r|⟨j,hj,r⟩)|r|r)
  ·exact .inl (.inl (.inl rfl))
  ·exact .inl (.inl (.inr (.inl r)))
  ·have r:ShU (if j=i then nv' else c.nv j) (if j=i then mv' else c.mv j) k:=r;by_cases e:j=i
   ·rw[if_pos e,if_pos e]at r;exact(J k r).elim (fun h=> .inl (.inl (.inr (.inr ⟨i,hi,h⟩)))) .inr
   ·rw[if_neg e,if_neg e]at r;exact .inl (.inl (.inr (.inr ⟨j,hj,r⟩)))
  ·exact .inl (.inr (.inl r))
  ·exact .inl (.inr (.inr r))
theorem ep' (r:aC' w p g tk wel fen free sh st c) (i:Nat) (v:Value) (hi:(1<=i/\i < 4)\/(23<=i/\i < 26))
  (z:∀j,j < 3->(c.arr.setIfInBounds i v)[1+j]? =some (.int .i64 (g2 j))) (G:(c.arr.setIfInBounds i v)[23]? =some (.int .i64 tk2)) (H:(c.arr.setIfInBounds i v)[24]? =some (.bool wel2)) (I:(c.arr.setIfInBounds i v)[25]? =some (.bool fen2)):
  aA' w (w.setCell ⟨p,i,none⟩ v) p g2 tk2 wel2 fen2 free sh st c:=by
 have hs:=S' w p i v;have D:∀j,j≠i->(c.arr.setIfInBounds i v)[j]? =c.arr[j]? :=fun j hj=>Array.getElem?_setIfInBounds_ne (fun e=>hj e.symm);have J:c.fv.ownBlock≠some p:=r.ks.fr.ne r.ks.blk (by decide);refine⟨{c with arr:=c.arr.setIfInBounds i v},⟨⟨ah' r.ks.blk,by simpa using r.ks.sz,?_,z,?_,?_,?_,G,H,I,?_,?_,?_,r.ks.apf,r.ks.aps⟩,r.stt.far hs (fun k F h=>r.sep k (.inl h) F),r.rl.far hs (fun g z h=>(r.sepr g z).1 (.inl h)),r.len⟩,hs.mono (fun k _ h=> .inl (.inl h)),fun k F=> .inl F,rfl,rfl⟩
 ·rw[D _ (by omega)];exact r.ks.a0
 ·intro j hj;rw[D _ (by omega)];exact r.ks.an j hj
 ·intro j hj;rw[D _ (by omega)];exact r.ks.am j hj
 ·rw[D _ (by omega)];exact r.ks.af
 ·rw[D _ (by omega)];exact r.ks.ar
 ·exact r.ks.fr.far hs (fun g z h=>J (by rw[z,h]))
 ·intro j hj;exact(r.ks.shs j hj).far hs (fun k F h=>(r.ks.shs j hj).ne r.ks.blk (by decide) (by rw[<-h];exact F))
theorem jT' (r:aC' w p g tk wel fen free sh st c) (v:Value) (hF:Far (fun k=>c.fv.ownBlock=some k) w x) (J:as' x 3 1 v free2.length (J' free2)) (hl:Loc w c.fv v):
  aA' w (x.setCell ⟨p,22,none⟩ v) p g tk wel fen free2 sh st c:=by
 have hs:=S' x p 22 v;have D:∀j,j≠22->(c.arr.setIfInBounds 22 v)[j]? =c.arr[j]? :=fun j hj=>Array.getElem?_setIfInBounds_ne (fun e=>hj e.symm);have U:22 < c.arr.size:=by rw[r.ks.sz];omega
 have V:c.fv.ownBlock≠some p:=r.ks.fr.ne r.ks.blk (by decide);have M:=hF.blk r.ks.blk V;have X:v.ownBlock≠some p:=J.ne M (by decide);have G:Far (fun k=>k=p\/c.fv.ownBlock=some k) w (x.setCell ⟨p,22,none⟩ v):=(hF.mono (fun _ _ h=> .inr h)).trans hs (fun _ _ h=> .inl h);have H:∀k,(k=p\/c.fv.ownBlock=some k)->KaU p c.nv c.mv c.fv k:=fun k h=>h.elim .inl (fun h=> .inr (.inl h));refine⟨{c with arr:=c.arr.setIfInBounds 22 v,fv:=v},⟨⟨ah' M,by simpa using r.ks.sz,?_,?_,?_,?_,?_,?_,?_,?_,?_,?_,?_,?_,r.ks.aps⟩,r.stt.far G (fun k z h=>r.sep k (H k h) z),r.rl.far G (fun g I h=>(r.sepr g I).1 (H g h)),r.len⟩,G.mono (fun k _ h=> .inl (H k h)),?_,rfl,rfl⟩
 ·rw[D _ (by omega)];exact r.ks.a0
 ·intro j hj;rw[D _ (by omega)];exact r.ks.ag j hj
 ·intro j hj;rw[D _ (by omega)];exact r.ks.an j hj
 ·intro j hj;rw[D _ (by omega)];exact r.ks.am j hj
 ·simp[U]
 ·rw[D _ (by omega)];exact r.ks.at'
 ·rw[D _ (by omega)];exact r.ks.aw
 ·rw[D _ (by omega)];exact r.ks.ae
 ·rw[D _ (by omega)];exact r.ks.ar
 ·exact J.far hs (fun g I e=>X (by rw[I,e]))
 ·intro j hj;refine(r.ks.shs j hj).far G (fun k z e=>?_);rcases e with rfl|e
  ·exact(r.ks.shs j hj).ne r.ks.blk (by decide) z
  ·exact r.ks.apf j hj k z e
 ·intro j hj b O F;rcases hl with h|h|⟨g',h,Q⟩
  ·rw[h]at F;cases F
  ·rw[h]at F;exact r.ks.apf j hj b O F
  ·rw[h]at F;cases F;have:=(r.ks.shs j hj).lt b O;omega
 ·rintro k ((rfl|z|z)|z|z)
  ·exact .inl (.inl (.inl rfl))
  ·rcases hl with h|h|⟨g',h,Q⟩
   ·rw[h]at z;cases z
   ·exact .inl (.inl (.inr (.inl (by rw[<-h];exact z))))
   ·rw[h]at z;cases z;exact .inr Q
  ·exact .inl (.inl (.inr (.inr z)))
  ·exact .inl (.inr (.inl z))
  ·exact .inl (.inr (.inr z))
end
def aE':Nat->List (ByteArray×Nat)->List Nat->List (Nat×Value)
 |b,x::r,q::z=>(b+1,ce' x.1 q)::aE' (b+1) r z
 | _,_,_=>[]
theorem aO' (b:Nat) (x:ByteArray×Nat) (r:List (ByteArray×Nat)) (q:Nat) (z:List Nat):aE' b (x::r) (q::z)=(b+1,ce' x.1 q)::aE' (b+1) r z:=rfl
theorem dF':∀ (b:Nat) (k:List (ByteArray×Nat)) (p:List Nat),p.length=k.length->(aE' b k p).length=k.length
 |b,[],[],_=>rfl
 |b,x::r,q::z,h=>by rw[aO',List.length_cons,dF' (b+1) r z (by simpa using h),List.length_cons]
theorem ji':∀ (b:Nat) (k:List (ByteArray×Nat)) (p:List Nat) (j:Nat),p.length=k.length->∀ (hj:j < k.length),(aE' b k p)[j]? =some (b+1+j,ce' k[j].1 (p.getD j 0))
 |b,[],_,j,_,hj=>by simp at hj
 |b,x::r,[],j,h,_=>by simp at h
 |b,x::r,q::z,0,h,hj=>by simp[aE']
 |b,x::r,q::z,j+1,h,hj=>by rw[aO',List.getElem?_cons_succ,ji' (b+1) r z j (by simpa using h) (by simpa using hj)];simp;omega
theorem jj':∀ (b:Nat) (k k':List (ByteArray×Nat)) (p r:List Nat),p.length=k.length->aE' b (k++k') (p++r)=aE' b k p++aE' (b+k.length) k' r
 |b,[],k',[],r,_=>by simp[aE']
 |b,[],k',q::D,r,h=>by simp at h
 |b,x::z,k',[],r,h=>by simp at h
 |b,x::z,k',q::D,r,h=>by show aE' b (x::(z++k')) (q::(D++r))= _;rw[aO',aO',jj' (b+1) z k' D r (by simpa using h),show b+1+z.length=b+(z.length+1) by omega];rfl
theorem fd':∀ (b:Nat) (k k':List (ByteArray×Nat)) (p:List Nat),k.map (·.1)=k'.map (·.1)->aE' b k p=aE' b k' p
 | _,[],[],_,_=>rfl
 |b,[],_:: _,p,h=>by simp at h
 |b,_:: _,[],p,h=>by simp at h
 |b,x::r,y::s,[],_=>by simp[aE']
 |b,x::r,y::s,q::z,h=>by simp only[List.map_cons,List.cons.injEq]at h;rw[aO',aO',h.1,fd' (b+1) r s z h.2]
theorem nn':∀ (b:Nat) (k:List (ByteArray×Nat)) (p:List Nat),∀x∈aE' b k p,b < x.1
 |b,[],_,x,r=>by simp[aE']at r
 |b,_:: _,[],x,r=>by simp[aE']at r
 |b,y::z,q::D,x,r=>by
  rw[aO']at r;cases r with
  |head=>show b < b+1;omega
  |tail _ r=>have:=nn' (b+1) z D x r;omega
theorem pJ':∀ (b:Nat) (k:List (ByteArray×Nat)) (p:List Nat),∀x∈aE' b k p,x.1<=b+k.length
 |b,[],_,x,r=>by simp[aE']at r
 |b,_:: _,[],x,r=>by simp[aE']at r
 |b,y::z,q::D,x,r=>by
  rw[aO']at r;cases r with
  |head=>show b+1<= _;simp
  |tail _ r=>have:=pJ' (b+1) z D x r;simp at this ⊢;omega
theorem gv':∀ (b:Nat) (k:List (ByteArray×Nat)) (p:List Nat),ob' (aE' b k p)
 |b,[],_,x,r=>by simp[aE']at r
 |b,_:: _,[],x,r=>by simp[aE']at r
 |b,y::z,q::D,x,r=>by
  rw[aO']at r;cases r with
  |head=>exact⟨y.1,q,rfl⟩
  |tail _ r=>exact gv' (b+1) z D x r
theorem rK' (b:Nat) (k:List (ByteArray×Nat)) (p:List Nat) (h:p.length=k.length):max (match(aE' b k p).getLast? with|none=>0|some x=>x.1) b=b+k.length:=by
 rcases List.eq_nil_or_concat k with rfl|⟨k',x,rfl⟩
 ·simp[aE']
 ·rcases List.eq_nil_or_concat p with rfl|⟨r,q,rfl⟩
  ·simp at h
  ·have z:r.length=k'.length:=by simpa using h
   have:(aE' b (k'++[x]) (r++[q])).getLast?=some (b+k'.length+1,ce' x.1 q):=by rw[jj' b k' [x] r [q] z];simp[aE']
   rw[List.concat_eq_append,List.concat_eq_append]at *;rw[this];simp;omega
theorem pK':∀ (l:List (Nat×Value)) (n:Nat) (v:Value),(∀x∈l,x.1 < n)->bb' l n v=l++[(n,v)]
 |[],n,v,_=>rfl
 |x::r,n,v,h=>by have h0:=h x (.head _);unfold bb';rw[if_neg (by omega),if_neg (by omega),pK' r n v (fun y z=>h y (.tail _ z))];rfl
theorem tT' (b:Nat) (k:List (ByteArray×Nat)) (p:List Nat) (h:p.length=k.length) (s:ByteArray) (t q:Nat):bb' (aE' b k p) (b+k.length+1) (ce' s q)=aE' b (k++[(s,t)]) (p++[q]):=by
 rw[pK' _ _ _ (fun x r=>by have:=pJ' b k p x r;omega),jj' b k [(s,t)] p [q] h];simp[aE']
theorem le':∀ (n b:Nat) (k:List (ByteArray×Nat)) (p:List Nat),n<=k.length->p.length=k.length->(aE' b k p).drop n=aE' (b+n) (k.drop n) (p.drop n)
 |0,b,k,p,_,_=>rfl
 |n+1,b,[],p,h,_=>by simp at h
 |n+1,b,x::r,[],_,h=>by simp at h
 |n+1,b,x::r,q::z,h,h2=>by show(aE' b (x::r) (q::z)).drop (n+1)=aE' (b+(n+1)) (r.drop n) (z.drop n);rw[aO',List.drop_succ_cons,le' n (b+1) r z (by simpa using h) (by simpa using h2),show b+1+n=b+(n+1) by omega]
theorem gw':∀ (n b:Nat) (k:List (ByteArray×Nat)) (p:List Nat),n<=k.length->p.length=k.length->bs' (aE' b k p) (b+n)=n
 |0,b,k,p,_,_=>by unfold bs';rw[List.countP_eq_zero];intro x z;have:=nn' b k p x z;simp;omega
 |n+1,b,[],p,h,_=>by simp at h
 |n+1,b,x::r,[],_,h=>by simp at h
 |n+1,b,x::r,q::D,h,h2=>by have ih:=gw' n (b+1) r D (by simpa using h) (by simpa using h2);unfold bs' at ih ⊢;rw[aO',List.countP_cons,show b+(n+1)=b+1+n by omega,ih];simp
def cS' (f:Mod.Flow) (n:Nat):Option Value:=
 if n<=f.base then none else match f.kept[n - f.base - 1]? with
  |some x=>if x.2=0 then none else some (dD' x.2)
  |none=>none
structure aQ' (a:Mod.Ag) (op:Nat) (g:Nat->Nat) (free:List Nat) (sh:Nat->List (Nat×Value)) (pl:Nat->List Nat):Prop where
 ep:op=a.epoch
 bs:∀i,i < 3->g i=(a.fl i).base
 pn:∀i,i < 3->(pl i).length=(a.fl i).kept.length
 kp:∀i,i < 3->sh (i * 3)=aE' (a.fl i).base (a.fl i).kept (pl i)
 sn:∀i,i < 3->∀n:Nat,ar' (sh (i * 3+1)) (n:Int)=cS' (a.fl i) n
 si:∀i,i < 3->lb' (sh (i * 3+1))
 hd:∀i,i < 3->∀n:Nat,(ar' (sh (i * 3+2)) (n:Int)).isSome=(a.fl i).held.contains n
 hu:∀i,i < 3->og' (sh (i * 3+2))
 hl:∀i,i < 3->(sh (i * 3+2)).length<=3
 nd:(free++pl 0++pl 1++pl 2).Nodup
 lt:∀x∈free++pl 0++pl 1++pl 2,x < 24
 sum:free.length+a.room=24
theorem oh' {a:Mod.Ag} {i:Nat} (hi:i < 3):(a.fl i).kept.length<=a.room:=by
 obtain rfl|rfl|rfl:i=0\/i=1\/i=2:=by omega
 all_goals
  unfold Mod.Ag.room;omega
theorem aQ'.small {a:Mod.Ag} {op:Nat} {g:Nat->Nat} {free:List Nat} {sh:Nat->List (Nat×Value)} {r:Nat->List Nat} (z:aQ' a op g free sh r) {i:Nat} (hi:i < 3):(a.fl i).kept.length<=24:=by
 have:=oh' (a:=a) hi;have:=z.sum;omega
theorem rL' {f:Mod.Flow} {l:List (Nat×Value)} (hs:(l.map (·.1)).Pairwise (· < ·)) (h:∀n:Nat,ar' l (n:Int)=cS' f n):l.length<=f.kept.length:=by
 have z:∀n∈l.map (·.1),f.base < n/\n<=f.base+f.kept.length:=by
  intro n D;have r:(ar' l (n:Int)).isSome=true:=by rw[fD'];simpa using D
  rw[h n]at r;unfold cS' at r;split at r
  ·cases r
  ·split at r
   ·rename_i x F;have:=(List.getElem?_eq_some_iff.1 F).1;omega
   ·cases r
 have h1:((l.map (·.1)).map fun n=>n - f.base - 1).Nodup:=by rw[List.Nodup,List.pairwise_map];refine hs.imp_of_mem (fun {x y} F G I e=>?_);have J:=z x F;have M:=z y G;omega
 have h2:=ii' f.kept.length _ h1 (fun n D=>by obtain⟨m,H,rfl⟩:=List.mem_map.1 D;have:=z m H;omega);simpa using h2
section
variable {a:Mod.Ag} {op:Nat} {g:Nat->Nat} {free:List Nat} {sh:Nat->List (Nat×Value)} {pl:Nat->List Nat}
theorem rM' (f:Mod.Flow) (s:ByteArray) (n:Nat):cS' {f with kept:=f.kept++[(s,0)]} n=cS' f n:=by
 unfold cS';simp only
 split
 ·rfl
 ·by_cases h:n - f.base - 1 < f.kept.length
  ·rw[List.getElem?_append_left h]
  ·rw[List.getElem?_append_right (by omega)];have h2:f.kept[n - f.base - 1]? =none:=List.getElem?_eq_none (by omega);rw[h2];by_cases h3:n - f.base - 1 - f.kept.length=0
   ·rw[h3];rfl
   ·have:([(s,0)]:List (ByteArray×Nat))[n - f.base - 1 - f.kept.length]? =none:=List.getElem?_eq_none (by simp;omega);rw[this]
theorem kB' {i:Nat} (hi:i < 3) (r:List Nat) (fr:List Nat) (h:(fr++r).Perm (free++pl i)):
  (fr++(fun t=>if t=i then r else pl t) 0++(fun t=>if t=i then r else pl t) 1++(fun t=>if t=i then r else pl t) 2).Perm (free++pl 0++pl 1++pl 2):=by
 obtain rfl|rfl|rfl:i=0\/i=1\/i=2:=by omega
 ·simp only[if_pos,if_neg (show ¬ (1:Nat)=0 by omega),if_neg (show ¬ (2:Nat)=0 by omega)];exact(h.append_right _).append_right _
 ·simp only[if_neg (show ¬ (0:Nat)=1 by omega),if_pos,if_neg (show ¬ (2:Nat)=1 by omega)];refine List.Perm.append_right _ ?_;have h1:(fr++pl 0++r).Perm (fr++r++pl 0):=by rw[List.append_assoc,List.append_assoc];exact List.perm_append_comm.append_left _
  have h2:(free++pl 1++pl 0).Perm (free++pl 0++pl 1):=by rw[List.append_assoc,List.append_assoc];exact List.perm_append_comm.append_left _
  exact(h1.trans (h.append_right _)).trans h2
 ·simp only[if_neg (show ¬ (0:Nat)=2 by omega),if_neg (show ¬ (1:Nat)=2 by omega),if_pos];have h1:(fr++pl 0++pl 1++r).Perm (fr++r++(pl 0++pl 1)):=by rw[List.append_assoc fr,List.append_assoc,List.append_assoc fr r];exact List.perm_append_comm.append_left _
  have h2:(free++pl 2++(pl 0++pl 1)).Perm (free++pl 0++pl 1++pl 2):=by rw[List.append_assoc free (pl 0),List.append_assoc,List.append_assoc];exact List.perm_append_comm.append_left _
  exact(h1.trans (h.append_right _)).trans h2
theorem ij' {i:Nat} (hi:i < 3) (f:Mod.Flow):(Mod.Ag.room {a with fl:=Mod.upd a.fl i f})+(a.fl i).kept.length=a.room+f.kept.length:=by
 obtain rfl|rfl|rfl:i=0\/i=1\/i=2:=by omega
 all_goals
  simp[Mod.Ag.room,Mod.upd];omega
theorem pL' {fr:List Nat} {q:Nat} (r:aQ' a op g (fr++[q]) sh pl) {i:Nat} (hi:i < 3) (s:ByteArray):
  aQ' (a.submit i s) op g fr (fun t=>if t=i * 3 then bb' (sh (i * 3)) ((a.fl i).base+(a.fl i).kept.length+1) (ce' s q)else sh t) (fun t=>if t=i then pl i++[q]else pl t):=by
 have z:∀j,(a.submit i s).fl j=if j=i then {a.fl i with kept:=(a.fl i).kept++[(s,0)]}else a.fl j:=fun j=>rfl
 refine⟨r.ep,fun j hj=>?_,fun j hj=>?_,fun j hj=>?_,fun j hj n=>?_,fun j hj=>?_,fun j hj n=>?_,fun j hj=>?_,fun j hj=>?_,?_,?_,?_⟩
 ·rw[z];by_cases e:j=i
  ·subst e;rw[if_pos rfl];exact r.bs j hj
  ·rw[if_neg e];exact r.bs j hj
 ·rw[z];show(if j=i then pl i++[q]else pl j).length= _;by_cases e:j=i
  ·subst e;rw[if_pos rfl,if_pos rfl];simp[r.pn j hj]
  ·rw[if_neg e,if_neg e];exact r.pn j hj
 ·rw[z];show(if j * 3=i * 3 then _ else sh (j * 3))=aE' _ _ (if j=i then pl i++[q]else pl j);by_cases e:j=i
  ·subst e;rw[if_pos rfl,if_pos rfl,if_pos rfl,r.kp j hj];exact tT' _ _ _ (r.pn j hj) s 0 q
  ·rw[if_neg (by omega),if_neg e,if_neg e];exact r.kp j hj
 ·show ar' (if j * 3+1=i * 3 then _ else sh (j * 3+1)) _= _;rw[if_neg (by omega),z,r.sn j hj n];by_cases e:j=i
  ·subst e;rw[if_pos rfl,rM']
  ·rw[if_neg e]
 ·show lb' (if j * 3+1=i * 3 then _ else sh (j * 3+1));rw[if_neg (by omega)];exact r.si j hj
 ·show(ar' (if j * 3+2=i * 3 then _ else sh (j * 3+2)) _).isSome= _;rw[if_neg (by omega),z,r.hd j hj n];by_cases e:j=i
  ·subst e;rw[if_pos rfl]
  ·rw[if_neg e]
 ·show og' (if j * 3+2=i * 3 then _ else sh (j * 3+2));rw[if_neg (by omega)];exact r.hu j hj
 ·show(if j * 3+2=i * 3 then _ else sh (j * 3+2)).length<=3;rw[if_neg (by omega)];exact r.hl j hj
 ·refine(kB' hi (pl i++[q]) fr ?_).nodup_iff.2 r.nd;rw[List.append_assoc fr [q]];exact List.perm_append_comm.append_left _
 ·intro x G;refine r.lt x ((kB' hi (pl i++[q]) fr ?_).mem_iff.1 G);rw[List.append_assoc fr [q]];exact List.perm_append_comm.append_left _
 ·have h1:=r.sum;obtain⟨D,F⟩:∃D,D=({a.fl i with kept:=(a.fl i).kept++[(s,0)]}:Mod.Flow):=⟨_,rfl⟩;have H:D.kept.length=(a.fl i).kept.length+1:=by rw[F];simp
  have h3:(a.submit i s).room=Mod.Ag.room {a with fl:=Mod.upd a.fl i D}:=by rw[F];rfl
  have h2:=ij' (a:=a) hi D;rw[H]at h2;rw[h3];rw[List.length_append,List.length_singleton]at h1;omega
theorem oi' {l:List (Nat×Value)} (hs:(l.map (·.1)).Pairwise (· < ·)) (m n:Nat):ar' (l.drop (bs' l m)) (n:Int)=if n<=m then none else ar' l (n:Int):=by
 obtain⟨h1,h2⟩:=tK' (n:=m) hs;have H:∀ (r z:List (Nat×Value)) (k:Int),ar' (r++z) k=match ar' r k with|some v=>some v|none=>ar' z k:=by
  intro r z k;induction r with
  |nil=>rfl
  |cons x I ih=>
   show ar' (x::(I++z)) k= _;rw[bY',bY'];by_cases h:k=(x.1:Int)
   ·rw[if_pos h,if_pos h]
   ·rw[if_neg h,if_neg h,ih]
 have hl:l=l.take (bs' l m)++l.drop (bs' l m):=(List.take_append_drop _ _).symm;by_cases G:n<=m
 ·rw[if_pos G];cases D:ar' (l.drop (bs' l m)) (n:Int)with
  |none=>rfl
  |some v=>obtain⟨x,F,e,_⟩:=dm' D;have:=h2 x F;omega
 ·rw[if_neg G];conv=>rhs;rw[hl]
  rw[H];cases D:ar' (l.take (bs' l m)) (n:Int)with
  |none=>rfl
  |some v=>obtain⟨x,F,e,_⟩:=dm' D;have:=h1 x F;omega
theorem rN' (f:Mod.Flow) (m n:Nat):cS' (f.drop m) n=if n<=f.base+m then none else cS' f n:=by
 unfold cS' Mod.Flow.drop;simp only
 by_cases h:n<=f.base+m
 ·rw[if_pos h,if_pos h]
 ·rw[if_neg h,if_neg h,if_neg (by omega),List.getElem?_drop,show m+(n - (f.base+m) - 1)=n - f.base - 1 by omega]
theorem rO' (r:aQ' a op g free sh pl) {i n:Nat} (hi:i < 3) (F:n<=(a.fl i).kept.length) (hs:((sh (i * 3+1)).map (·.1)).Pairwise (· < ·)):
  aQ' {a with fl:=Mod.upd a.fl i ((a.fl i).drop n)} op (fun t=>(Mod.upd a.fl i ((a.fl i).drop n) t).base) (free++(pl i).take n)
   (fun t=>if t=i * 3+1 then(sh (i * 3+1)).drop (bs' (sh (i * 3+1)) ((a.fl i).base+n))else(fun t=>if t=i * 3 then(sh (i * 3)).drop (bs' (sh (i * 3)) ((a.fl i).base+n))else sh t) t) (fun t=>if t=i then(pl i).drop n else pl t):=by
 have z:∀j,Mod.upd a.fl i ((a.fl i).drop n) j=if j=i then(a.fl i).drop n else a.fl j:=fun j=>rfl
 refine⟨r.ep,fun j hj=>rfl,fun j hj=>?_,fun j hj=>?_,fun j hj m=>?_,fun j hj=>?_,fun j hj m=>?_,fun j hj=>?_,fun j hj=>?_,?_,?_,?_⟩
 ·show(if j=i then(pl i).drop n else pl j).length=(Mod.upd a.fl i ((a.fl i).drop n) j).kept.length;rw[z];by_cases e:j=i
  ·subst e;rw[if_pos rfl,if_pos rfl];simp[Mod.Flow.drop,r.pn j hj]
  ·rw[if_neg e,if_neg e];exact r.pn j hj
 ·show(if j * 3=i * 3+1 then _ else if j * 3=i * 3 then _ else sh (j * 3))=aE' (Mod.upd a.fl i ((a.fl i).drop n) j).base (Mod.upd a.fl i ((a.fl i).drop n) j).kept (if j=i then(pl i).drop n else pl j);rw[z,if_neg (by omega)];by_cases e:j=i
  ·subst e;rw[if_pos rfl,if_pos rfl,if_pos rfl,r.kp j hj,gw' n _ _ _ F (r.pn j hj)];exact le' n _ _ _ F (r.pn j hj)
  ·rw[if_neg (by omega),if_neg e,if_neg e];exact r.kp j hj
 ·show ar' (if j * 3+1=i * 3+1 then _ else if j * 3+1=i * 3 then _ else sh (j * 3+1)) _=cS' (Mod.upd a.fl i ((a.fl i).drop n) j) m;rw[z];by_cases e:j=i
  ·subst e;rw[if_pos rfl,if_pos rfl,oi' hs,rN',r.sn j hj m]
  ·rw[if_neg (by omega),if_neg (by omega),if_neg e];exact r.sn j hj m
 ·show lb' (if j * 3+1=i * 3+1 then _ else if j * 3+1=i * 3 then _ else sh (j * 3+1));by_cases e:j=i
  ·subst e;rw[if_pos rfl];exact fun x D=>r.si j hj x (List.mem_of_mem_drop D)
  ·rw[if_neg (by omega),if_neg (by omega)];exact r.si j hj
 ·show(ar' (if j * 3+2=i * 3+1 then _ else if j * 3+2=i * 3 then _ else sh (j * 3+2)) _).isSome=(Mod.upd a.fl i ((a.fl i).drop n) j).held.contains m;rw[z,if_neg (by omega),if_neg (by omega),r.hd j hj m];by_cases e:j=i
  ·subst e;rw[if_pos rfl];rfl
  ·rw[if_neg e]
 ·show og' (if j * 3+2=i * 3+1 then _ else if j * 3+2=i * 3 then _ else sh (j * 3+2));rw[if_neg (by omega),if_neg (by omega)];exact r.hu j hj
 ·show(if j * 3+2=i * 3+1 then _ else if j * 3+2=i * 3 then _ else sh (j * 3+2)).length<=3;rw[if_neg (by omega),if_neg (by omega)];exact r.hl j hj
 ·refine(kB' hi ((pl i).drop n) (free++(pl i).take n) ?_).nodup_iff.2 r.nd;rw[List.append_assoc,List.take_append_drop]
 ·intro x D;refine r.lt x ((kB' hi ((pl i).drop n) (free++(pl i).take n) ?_).mem_iff.1 D);rw[List.append_assoc,List.take_append_drop]
 ·have h1:=r.sum;have h2:=ij' (a:=a) hi ((a.fl i).drop n);have h3:=r.pn i hi;have h4:((a.fl i).drop n).kept.length=(a.fl i).kept.length - n:=by simp[Mod.Flow.drop]
  rw[h4]at h2;rw[List.length_append,List.length_take];omega
end
section
variable {w:World} {p:Nat} {g:Nat->Nat} {tk:Nat} {wel fen:Bool} {free:List Nat} {sh:Nat->List (Nat×Value)} {st:Mod.Stv} {c:Av} {a:Mod.Ag} {op:Nat} {go:Nat->Nat} {pl:Nat->List Nat}
theorem bq' (r:aC' w p g tk wel fen free sh st c):
  Calls Tryz.prog 52 #[A' p] w fun z w'=>z= .returned (.int .i64 st.opening)/\w'=w:=by
 have c0:w.cell? ⟨p,0,none⟩=some (A' c.s):=by rw[t' r.ks.blk,r.ks.a0]
 have D:=y' (jc' r.stt);clear r;unfold A' at *;go_enter Tryz.func52,Tryz.ntmps52;go_wp2_with (go_at_call 84;refine(i' D).mono ?_;rintro z y ⟨rfl,rfl⟩);go_ret;exact⟨rfl,rfl⟩
theorem cZ' (D:aC' w p g tk wel fen free sh st c) (F:aQ' a op go free sh pl) {i:Nat} (hi:i < 3) (G:g i=(a.fl i).base):
  Calls Tryz.prog 79 #[A' p, .int .i64 i] w fun H w'=>H= .returned (.int .i64 ((a.fl i).base+(a.fl i).kept.length:Nat))/\∃n,w'=w.drewN n:=by
 have r:=nf' D.ks.blk (D.ks.an (i * 3) (by omega)) (D.ks.shs (i * 3) (by omega));rw[F.kp i hi,show 4+i * 3 * 2=4+i * 6 by omega]at r;have z:=rK' (a.fl i).base (a.fl i).kept (pl i) (F.pn i hi);obtain⟨m,I,z,r⟩:∃ (m:Nat) (I:Bool),max m (a.fl i).base=(a.fl i).base+(a.fl i).kept.length/\Calls Tryz.prog 122 #[.pointer (some ⟨p,4+i * 6,none⟩)] w fun e w'=>e= .returned (.tuple #[.int .i64 m, .bool I])/\∃n,w'=w.drewN n:=by
  cases J:(aE' (a.fl i).base (a.fl i).kept (pl i)).getLast? with
  |none=>rw[J]at r z;exact⟨0,false,z,r⟩
  |some x=>rw[J]at r z;exact⟨x.1,true,z,r⟩
 have M:w.cell? ⟨p,1+i,none⟩=some (.int .i64 (g i)):=by rw[t' D.ks.blk,D.ks.ag i hi]
 rw[G]at M;obtain⟨n,O⟩:∃n,n=(a.fl i).base+(a.fl i).kept.length:=⟨_,rfl⟩;rw[<-O]at z ⊢;obtain⟨b,Q⟩:∃b,b=(a.fl i).base:=⟨_,rfl⟩;rw[<-Q]at z M;have U:max (m:Int) (b:Int)=(n:Int):=by omega
 have V:=y' r;have X:(0:Int)<=(i:Int):=by omega
 have Y:(i:Int) < 3:=by omega
 clear D F r O Q z G;unfold A';go_enter Tryz.func79,Tryz.ntmps79;go_wp2_with (go_at_call 122;refine(i' V).mono ?_;rintro H y ⟨rfl,q,rfl⟩);go_ret;exact⟨by first|rfl|simp[U],q,rfl⟩
theorem tU' (D:aC' w p g tk wel fen free sh st c) (F:aQ' a op go free sh pl) {i:Nat} (hi:i < 3) (j:Nat) (hj:j < (a.fl i).kept.length) (tick t:Nat) (V:(a.fl i).kept[j].2=t) (ac:t<=1000000000000) (ad:tick<=1000000000000):
  Calls Tryz.prog 106 #[.pointer (some ⟨p,4+i * 6,none⟩), .int .i64 ((a.fl i).base+1+j:Nat), .int .i64 tick] w fun z w'=>z= .returned (.bool (Mod.due (a.fl i) tick j t))/\Below w.heap.size w w':=by
 obtain⟨n,O⟩:∃n,n=(a.fl i).base+1+j:=⟨_,rfl⟩;have J:=va' D.ks.blk (D.ks.am (i * 3+2) (by omega)) (D.ks.shs (i * 3+2) (by omega)) (F.hu i hi) (n:Int);rw[F.hd i hi n,show 4+(i * 3+2) * 2=4+i * 6+4 by omega]at J;have Q:=fun y (r:Below w.heap.size w y)=>ve' (D.below r).ks.blk (D.ks.am (i * 3+1) (by omega)) ((D.below r).ks.shs (i * 3+1) (by omega)) (F.si i hi) (n:Int);have X:cS' (a.fl i) n=if t=0 then none else some (dD' t):=by unfold cS';rw[if_neg (by omega),show n - (a.fl i).base - 1=j by omega,List.getElem?_eq_getElem hj];simp only[V]
 rw[F.sn i hi n,X,show 4+(i * 3+1) * 2=4+i * 6+2 by omega]at Q;have Y:Mod.due (a.fl i) tick j t=(!((a.fl i).held.contains n) && (t==0||decide (t+4<=tick))):=by unfold Mod.due;rw[<-O]
 rw[Y,<-O];obtain⟨U,Z⟩:∃U,U=(a.fl i).held.contains n:=⟨_,rfl⟩;rw[<-Z]at J ⊢;have M:=y' J;have G:=fun y r=>y' (Q y r);clear D F J Q X Y Z V O;cases U
 ·by_cases h0:t=0
  ·simp only[h0,if_true,Option.getD_none,Option.isSome_none,sV']at G;go_enter Tryz.func106,Tryz.ntmps106;go_wp2_with (first|(go_at_call 157;refine(i' M).mono ?_;rintro z y ⟨rfl,r⟩)|(go_at_call 158;refine(i' (G _ r)).mono ?_;rintro z H ⟨rfl,I⟩;obtain rfl:y=H:=I.symm));go_ret;exact⟨by simp[h0],r⟩
  ·simp only[h0,if_false,Option.getD_some,Option.isSome_some,dD']at G;have ah:IntKind.i64.wrap ((tick:Int) - (t:Int))=(tick:Int) - (t:Int):=by rw[IntKind.wrap_i64];omega
   by_cases h4:t+4<=tick
   ·have aa:(4:Int)<=(tick:Int) - (t:Int):=by omega
    go_enter Tryz.func106,Tryz.ntmps106;go_wp2_with (first|(go_at_call 157;refine(i' M).mono ?_;rintro z y ⟨rfl,r⟩)|(go_at_call 158;refine(i' (G _ r)).mono ?_;rintro z H ⟨rfl,I⟩;obtain rfl:y=H:=I.symm));go_ret;exact⟨by simp[h4],r⟩
   ·have aa:¬ (4:Int)<=(tick:Int) - (t:Int):=by omega
    go_enter Tryz.func106,Tryz.ntmps106;go_wp2_with (first|(go_at_call 157;refine(i' M).mono ?_;rintro z y ⟨rfl,r⟩)|(go_at_call 158;refine(i' (G _ r)).mono ?_;rintro z H ⟨rfl,I⟩;obtain rfl:y=H:=I.symm));go_ret;have ab:(t==0)=false:=by simp[h0]
    exact⟨by simp[h4,ab];omega,r⟩
 ·go_enter Tryz.func106,Tryz.ntmps106;go_wp2_with (go_at_call 157;refine(i' M).mono ?_;rintro z y ⟨rfl,r⟩);go_ret;exact⟨by simp,r⟩
theorem oj' (s:ByteArray) (w:World) (hs:s.size<=1000):Calls Tryz.prog 82 #[.string s] w fun r w'=>r= .returned (.string s)/\Below w.heap.size w w':=by
 have z:=y' (Tryz.stringslite_Clone s w (by omega));go_enter Tryz.func82,Tryz.ntmps82;go_wp2_with (go_at_call 127;refine(i' z).mono ?_;rintro r y ⟨rfl,D⟩);go_ret;exact⟨rfl,D⟩
end
theorem as'.init {w:World} {e:TypeId} {n g o cap:Nat} {xs:List Value} (h:as' w e 1 (.slice (some ⟨g,o,none⟩) (n+1) cap) (n+1) xs):as' w e 1 (.slice (some ⟨g,o,none⟩) n cap) n (xs.take n):=by
 obtain⟨h1,⟨h2,_⟩|⟨g',G,H,r,h2,z,I,D,hs,F⟩⟩:=h
 ·cases h2
 ·injection h2 with h2 _ h3;injection h2 with h2;injection h2 with h2 h4;subst h2 h3 h4;refine⟨by simp;omega, .inr ⟨g,o,cap,r,rfl,z,by omega,D,hs,?_⟩⟩;rw[<-F,List.take_take];congr 1;omega
section
variable {w x y:World} {p:Nat} {g:Nat->Nat} {tk:Nat} {wel fen:Bool} {free:List Nat} {sh:Nat->List (Nat×Value)} {st st2:Mod.Stv} {c:Av} {a:Mod.Ag} {op:Nat} {pl:Nat->List Nat}
theorem dG' (z:aC' w p g tk wel fen free sh st c) {D:Value} (k1:cM' y c.s c.dp st2 c.dlv D) (k2:Loc w c.duv D) (k3:Far (StU c.s c.dp c.dlv c.duv) w y) (hl:st2.dk.bytes.length=1664):aA' w y p g tk wel fen free sh st2 c:=by
 refine⟨{c with duv:=D},⟨z.ks.far k3 (fun k r h=>z.sep k r h),k1,z.rl.far k3 (fun g F h=>(z.sepr g F).2 h),hl⟩,k3.mono (fun k _ h=> .inr (.inl h)),?_,rfl,rfl⟩;have G:=k3.size;rintro k (r|(rfl|rfl|r|r)|r)
 ·exact .inl (.inl r)
 ·exact .inl (.inr (.inl (.inl rfl)))
 ·exact .inl (.inr (.inl (.inr (.inl rfl))))
 ·exact .inl (.inr (.inl (.inr (.inr (.inl r)))))
 ·rcases k2 with h|h|⟨g,h,F⟩
  ·rw[h]at r;cases r
  ·exact .inl (.inr (.inl (.inr (.inr (.inr (by rw[<-h];exact r))))))
  ·rw[h]at r;cases r;exact .inr F
 ·exact .inl (.inr (.inr r))
theorem eq' {r:World} {c1:Av} (z:Far (PaU p c) w r) (N:∀k,PaU p c1 k->PaU p c k\/w.heap.size<=k) (F:c1.s=c.s) (G:c1.rv=c.rv) (h:aA' r y p g tk wel fen free sh st c1):aA' w y p g tk wel fen free sh st c:=by
 obtain⟨H,h1,h2,h3,h4,h5⟩:=h;refine⟨H,h1,z.trans h2 (fun k D hu=>(N k hu).elim id (fun h=>by omega)),fun k D=>?_,h4.trans F,h5.trans G⟩;rcases h3 k D with h|h
 ·exact N k h
 ·exact .inr (Nat.le_trans z.size h)
theorem gF' {st:Mod.Stv} (n i q:Nat) (b:List UInt8) (r:b.length<=20) (h:64 * (2+n)+64<=st.dk.bytes.length):(st.putRecord n i q b).2.dk.bytes.length=st.dk.bytes.length:=by
 unfold Mod.Stv.putRecord Mod.Dk.put;simp only
 split
 ·rfl
 ·split
  ·rfl
  ·simp only
   exact Mod.length_setSec (Mod.length_sealB _ _ (by rw[Mod.length_recIn];omega)) h
theorem fR' {st:Mod.Stv} (a b d:Nat) (r:st.head<=1) (h:128<=st.dk.bytes.length):(st.putNumbers a b d).2.dk.bytes.length=st.dk.bytes.length:=by
 unfold Mod.Stv.putNumbers Mod.Dk.put;simp only
 split
 ·rfl
 ·split
  ·rfl
  ·simp only
   exact Mod.length_setSec (Mod.length_sealB _ _ (by rw[Mod.length_headIn];omega)) (by omega)
theorem dV' {st:Mod.Stv} (a b d:Nat):(st.putNumbers a b d).2.opening=st.opening:=rfl
end
end Go.Proofs.YtamafdcnbcoegabGreat
