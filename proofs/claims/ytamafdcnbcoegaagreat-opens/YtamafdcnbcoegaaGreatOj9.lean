/- Part 9. -/
import Derived.Maps.AppendAt
import Derived.Sort.CutIn
import Derived.Test.YtamafdcnbcoegaaGreatOj8
set_option maxRecDepth 100000
set_option maxHeartbeats 40000000
namespace Go.Proofs.YtamafdcnbcoegaaGreat
attribute [local simp, local go_sem] Ev Ep Ei Eb Et
abbrev ta':= @Go.callsIn_wide
open Go.RowKit Go.Proofs.Tryz
section
variable {w:World} {p:Nat} {g:Nat->Nat} {free:List Nat} {sh:Nat->List (Nat×Value)} {st:Mq.Stv} {c:Av} {a:Mq.Ag} {pl:Nat->List Nat}
theorem oL' (z:Je w p g a.Qf a.Qd a.fenced free sh st c) (H:Js a st.Qe g free sh pl) (e:Nat) (s q:Int) (b:z10) (I:e≠a.Qa\/a.Qd=false):
  Calls prog 105 #[D' p, .agg #[.int .i64 4, .int .i64 e, .int .i64 s, .int .i64 q, .string b]] w fun r F=>r= .returned (.int .i64 0)/\Below w.heap.size w F:=by
 have J:=fun F (aa:Below w.heap.size w F)=>m' (bW' (z.below aa));have ab:=z14 z.ks.blk;have M:w.cell? ⟨p,24,none⟩=some (.bool a.Qd):=by rw[y' z.ks.blk,z.ks.aw]
 obtain⟨ep,G⟩:=exq (a.Qa);have O:st.Qe=ep:=by rw[G];exact H.ep
 rw[O]at J;rw[<-G]at I;have Q:=m' (dY' w #[.int .i64 4, .int .i64 e, .int .i64 s, .int .i64 q, .string b]);generalize a.Qd=ac at *;clear z H O G;unfold D' at *;go_enter func105,ntmps105;go_upto_region 1 with fail;refine G' (Xv w #[.int .i64 4, .int .i64 e, .int .i64 s, .int .i64 q, .string b]) (d' Q) ?_;clear Q;intro x X;have ad:=y' (i:=1) X.box;simp at ad;have d24:=(X.bel.cell (p:=⟨p,24,none⟩) ab).trans M;have V:=fun n=>m' (d' (J (x.drewN n) (X.drewN n).bel));have Y:=m' X;clear X M;by_cases Z:e=ep
 ·have ah:ac=false:=I.resolve_left (fun h=>h Z);subst ah;have hn:((e:Int) != (ep:Int))=false:=by simp[Z]
  go_quiet (first|(go_at_call 66;exact z57 (d' (V _))))
  go_wp2;go_ret;exact⟨rfl,((d' Y).drewN _).bel⟩
 ·have hn:((e:Int) != (ep:Int))=true:=by simp;omega
  go_quiet (first|(go_at_call 66;exact z57 (d' (V _))))
  go_wp2;go_ret;exact⟨rfl,((d' Y).drewN _).bel⟩
end
theorem uZ' (a b c:Int):(⟨(Qb.le4 a++Qb.le4 b++Qb.le4 c).toArray⟩:z10)=bh' a++bh' b++bh' c:=by
 rw[<-pO']
variable{p:World}{w:Nat}{x:Mq.Sk}{R:Nat -> List (Nat×Value)}{P:Mq.Stv}{L:Sv}
theorem ka' (z:Jt p w x.Qa x.Qc R P L) (e:Nat) (s q:Int) (b:z10) (H:e < x.Qa):
  Calls prog 109 #[D' w, .agg #[.int .i64 1, .int .i64 e, .int .i64 s, .int .i64 q, .string b]] p fun r Q=>
   r= .returned (.tuple #[.agg #[.int .i64 5, .int .i64 x.Qa, .int .i64 0, .int .i64 0, .string ⟨#[]⟩], .int .i64 0])/\Below p.heap.size p Q:=by
 have c1:p.cell? ⟨w,1,none⟩=some (.int .i64 x.Qa):=by rw[y' z.ks.blk,z.ks.a1]
 have G:=z14 z.ks.blk;obtain⟨ep,I⟩:=exq (x.Qa);rw[<-I]at c1 H ⊢;have ai:(e:Int) < (ep:Int):=by omega
 have V:=fun y=>m' (jG' ep y);have J:=m' (if' p #[.int .i64 1, .int .i64 e, .int .i64 s, .int .i64 q, .string b] zFr);clear z I H;unfold D';go_enter func109,ntmps109;go_upto_region 1 with fail;refine G' (Ym p #[.int .i64 1, .int .i64 e, .int .i64 s, .int .i64 q, .string b] zFr) (d' J) ?_;clear J;intro aj X;have M:=y' (i:=1) X.box;simp at M;have O:=(X.bel.cell (p:=⟨w,1,none⟩) G).trans c1;have F:=m' X;clear X;go_quiet (fail);go_upto_region 2 with fail;refine G' (Ym p #[.int .i64 1, .int .i64 e, .int .i64 s, .int .i64 q, .string b] zFr) ((d' F).drewN _) ?_;clear F M O;intro Y X;have O:=(X.bel.cell (p:=⟨w,1,none⟩) G).trans c1;have F:=m' X;have ak:w < Y.heap.size:=z20 G X.bel.size;clear X;go_wp2_with (go_at_call 159;refine(d' (V _)).mono ?_;rintro r y ⟨rfl,hb⟩;have X:=(d' F).below hb;have Z:=y' (i:=0) X.res;have aa:=y' (i:=1) X.res;have ab:=y' (i:=2) X.res;have ac:=y' (i:=3) X.res;have ad:=y' (i:=4) X.res;have f0:=H' (i:=0) X.res;have f1:=H' (i:=1) X.res;have f2:=H' (i:=2) X.res;have f3:=H' (i:=3) X.res;have f4:=H' (i:=4) X.res;simp[zFr]at Z aa ab ac ad;have ah:=m' X;clear X hb);refine z50 (v:= .tuple #[.agg #[.int .i64 5, .int .i64 ep, .int .i64 0, .int .i64 0, .string ⟨#[]⟩], .int .i64 0]) (by simp[results,results109,go_sem, *]) rfl ⟨rfl,?_⟩;have hb:=(d' ah).bel;refine((((hb.setCell (p:=⟨p.heap.size+1,0,none⟩) (by simp) _).setCell (p:=⟨p.heap.size+1,1,none⟩) (by simp) _).setCell (p:=⟨p.heap.size+1,2,none⟩) (by simp) _).setCell (p:=⟨p.heap.size+1,3,none⟩) (by simp) _).setCell (p:=⟨p.heap.size+1,4,none⟩) (by simp) _
variable{a:Nat}{c:Value}{m:List UInt8}
theorem gC' (z:Qt w p c m) (F:w<=a) (G:p.heap[a]? =some (.cells #[c] 44 (0,0))):Qh w p (.slice (some ⟨a,0,none⟩) 1 1) [c] [⟨m.toArray⟩] (fun _=>False):=by
 refine⟨rfl,⟨by simp, .inr ⟨a,1,_,rfl,F,G,by simp,by unfold maxLen;omega,by simp,by simp⟩⟩,?_,?_,fun _ _ h=>h⟩
 ·intro j u hj;cases j with
  |zero=>simp at hj;subst hj;exact z
  |succ j=>simp at hj
 ·intro i j u I hi hj H;cases i with
  |zero=>
   cases j with
   |zero=>exact absurd rfl H
   |succ j=>simp at hj
  |succ i=>simp at hi
theorem fZ' (B:Nat) (z:World):Qh B z (.slice none 0 0) [] [] (fun _=>False):=
 ⟨rfl,z27 _ _ _ _,fun j v hj=>by simp at hj,fun i j u v hi=>by simp at hi,fun _ _ h=>h⟩
theorem ik' (n:Nat) (hn:n<=2147483647):Qb.proper 5 n 0 0 ⟨#[]⟩=true:=by
 simp[Qb.proper,Qb.isNum,ByteArray.size];omega
theorem eC' (F:Qb.reads m=true):∃ (k:Int) (e s q:Nat) (b:z10),Qb.Jr m=k/\Qb.Jm m=e/\Qb.Qu m=s/\Qb.Xt m=q/\Qb.Ju m=b/\e<=2147483647/\s < 3/\q<=2147483647/\b.size<=20:=by
 have z:=F;unfold Qb.reads at z;rw[z58]at z;obtain⟨_,h2,h3,h4,h5⟩:=cr' z.2;exact⟨_,(Qb.Jm m).toNat,(Qb.Qu m).toNat,(Qb.Xt m).toNat,_,rfl,by omega,by omega,by omega,rfl,by omega,by omega,by omega,h5⟩
variable{M:Int}{q:Nat}{o:z10}
theorem gT' (z:Qb.reads m=true) (h1:Qb.Jr m=M) (h2:Qb.Jm m=w) (h3:Qb.Qu m=a) (h4:Qb.Xt m=q) (h5:Qb.Ju m=o):
  aH' x m=(0,bt' x M w a q o):=by
 unfold aH';rw[z,h1,h2,h3,h4,h5];rfl
theorem iU' (z:Qb.reads m=false):aH' x m=(1,x,[]):=by
 unfold aH';rw[z];rfl
theorem oM' (z:bN' x) (k:Int) (e s q:Nat) (b:z10) (hs:s < 3) (hb:b.size<=20):bN' (bt' x k e s q b).1:=by
 unfold bt';split
 ·split
  ·exact z
  ·exact oy' z _
 ·split
  ·rename_i h3;subst h3;split
   ·rename_i F;rw[F];exact oz' z s q b hs hb
   ·exact z
  ·exact z
theorem qK' (F:bN' x) (l:List UInt8):bN' (aH' x l).2.1:=by
 cases z:Qb.reads l
 ·rw[iU' z];exact F
 ·obtain⟨k,e,s,q,b,h1,h2,h3,h4,h5,g1,g2,H,G⟩:=eC' z;rw[gT' z h1 h2 h3 h4 h5];exact oM' F k e s q b g2 G
section
variable {w:World} {p:Nat} {g0:Nat->Nat} {free:List Nat} {sh:Nat->List (Nat×Value)} {st:Mq.Stv} {c:Av} {a a2:Mq.Ag} {pl:Nat->List Nat}
end
variable{y:Mq.Ag}
theorem tb' (z:Qb.reads m=true) (h1:Qb.Jr m=M) (h2:Qb.Jm m=w) (h3:Qb.Qu m=a) (h4:Qb.Xt m=q) (h5:Qb.Ju m=o):
  bu' y m=(0,y.Qx M w a q o):=by
 unfold bu';rw[z,h1,h2,h3,h4,h5];rfl
theorem va' (z:Qb.reads m=false):bu' y m=(1,y):=by
 unfold bu';rw[z];rfl
theorem oN' (z:Qb.reads m=true):Qb.proper (Qb.Jr m) (Qb.Jm m) (Qb.Qu m) (Qb.Xt m) (Qb.Ju m)=true:=by
 unfold Qb.reads at z;rw[z58]at z;exact z.2
section
variable {w:World} {p:Nat} {g0:Nat->Nat} {free:List Nat} {sh:Nat->List (Nat×Value)} {st:Mq.Stv} {c:Av} {a:Mq.Ag} {pl:Nat->List Nat}
end
attribute [local go_sem] Oper.semAt_some
section
variable {w:World} {p:Nat} {g:Nat->Nat} {free:List Nat} {sh:Nat->List (Nat×Value)} {st:Mq.Stv} {c:Av} {a:Mq.Ag} {pl:Nat->List Nat}
theorem tc' (H:Je w p g a.Qf a.Qd a.fenced free sh st c) (hs:tL' st) (V:Js a st.Qe g free sh pl) (i:Nat) (Z:i < 3):
  Calls prog 55 #[D' p, .int .i64 i] w fun r aU=>∃v,r= .returned v/\aU.ownsRow w.heap.size 9 1 v (a.Zx i).length (ao' (a.Zx i))/\Below w.heap.size w aU:=by
 have c0:w.cell? ⟨p,0,none⟩=some (D' c.s):=by rw[y' H.ks.blk,H.ks.a0]
 have aC:=aL' H.stt;rw[hs.1]at aC;have br:=m' aC;have aD:=bC' (i:Int) w;rw[show Qb.isStr (i:Int)=true by simp[Qb.isStr];omega]at aD;have bt:=m' aD;have bO:=z14 H.ks.blk;have aq:=fun y (F:Below w.heap.size w y)=>m' (wF' (H.below F).ks.blk (H.ks.an (i * 3) (by omega)) ((H.below F).ks.shs (i * 3) (by omega)));rw[show 4+i * 3 * 2=4+i * 6 by omega]at aq;have ac:(sh (i * 3)).length=(a.Zx i).length:=by rw[V.kp i Z,dU' _ _ _ (V.pn i Z)];simp[Mq.Ag.Zx]
 have aV:(0:Int)<=(i:Int):=by omega
 have bP:(i:Int) < 3:=by omega
 have au:∀k (hk:k < (sh (i * 3)).length),∃ (O:z10) (q:Nat),(sh (i * 3))[k].2=cN' O q/\(a.Zx i)[k]? =some O:=by
  intro k hk;have aW:k < (a.fl i).kept.length:=by rw[ac]at hk;simpa[Mq.Ag.Zx]using hk
  have h1:=iS' (a.fl i).base (a.fl i).kept (pl i) k (V.pn i Z) aW;rw[<-V.kp i Z,z18 hk]at h1;injection h1 with h1;exact⟨_,_,by rw[h1],by simp[Mq.Ag.Zx,List.getElem?_eq_getElem aW]⟩
 have aX:ou' (sh (i * 3)):=by rw[V.kp i Z];exact gn' _ _ _
 have bu:(a.Zx i).length<=24:=by have h1:=V.sum;have h2:=oE' (a:=a) Z;simp[Mq.Ag.Zx];omega
 have aE:=fun y (F:Below w.heap.size w y)=>m' ((H.below F).ks.shs (i * 3) (by omega));have aF:∀y (F:Below w.heap.size w y),Hid (y.cell? ⟨p,4+i * 6,none⟩=some (c.nv (i * 3))/\y.cell? ⟨p,4+i * 6+1,none⟩=some (c.mv (i * 3))):=fun y F=>m' ⟨by
  rw[y' (H.below F).ks.blk,show 4+i * 6=4+i * 3 * 2 by omega,H.ks.an (i * 3) (by omega)],by
  rw[y' (H.below F).ks.blk,show 4+i * 6+1=4+i * 3 * 2+1 by omega,H.ks.am (i * 3) (by omega)]⟩
 obtain⟨L,aY⟩:=exq (sh (i * 3));obtain⟨nv,aZ⟩:=exq (c.nv (i * 3));obtain⟨mv,ba⟩:=exq (c.mv (i * 3));obtain⟨aa,bb⟩:=exq (a.Zx i);rw[<-aZ,<-ba]at aE aF;rw[<-aY]at aE aq au aX ac;rw[<-bb]at au ac bu ⊢;have bw:=m' au;have bc:=m' ac;clear H V aC ac au aY aZ ba bb aD;unfold D' at *;refine ta'.1 (callsIn_of_wp_marks (n:=5) func55 rfl trivial ?_ rfl);refine uI'.2 ?_;simp only[ntmps55,List.size_toArray,List.length_cons,List.length_nil,Nat.reduceAdd,Nat.reduceSub,Array.replicate_succ,Array.replicate_zero,List.push_toArray,List.append_toArray,List.nil_append,List.cons_append];go_upto_region 4 with (first|(go_at_call 87;refine(d' bt).mono ?_;rintro r y ⟨rfl,aG⟩;obtain rfl:w=y:=aG.symm)|(go_at_call 86;refine(d' br).mono ?_;rintro r y ⟨rfl,aG⟩;obtain rfl:w=y:=aG.symm));obtain⟨z,ad⟩:=exq (w.heap.size);have aH:=m' ad;rw[<-ad];refine G' (fun x=>x.heap[z]? =some (.cells #[.slice none 0 0] 45 (0,0))/\Below z w x/\x.heap.size=z+1) ?_ ?_
 ·rw[ad];exact⟨z19 _ _,(z11 _ _).alloc (z13 _) _,by simp⟩
 rintro x ⟨h5,hb,bd⟩;have be:=m' (d' (aq x (by rw[<-ad];exact hb)));have ah:=m' (z12 h5 (z12 hb bd));clear ad h5 hb bd aq;go_wp2_with (go_at_call 97;refine(d' be).mono ?_;rintro r y ⟨rfl,F⟩);clear be;have aI:y.heap.size=z+3:=by rw[F];simp[dI',(d' ah).2.2]
 have av:x.heap.size=z+1:=(d' ah).2.2;have aJ:y.heap[z]? =some (.cells #[.slice none 0 0] 45 (0,0)):=by rw[F];unfold dI';rw[hao _ _ (by simp;omega),hao _ _ (by omega)];exact(d' ah).1
 have aK:y.heap[z+1]? =some (.cells #[.pointer (some ⟨p,4+i * 6,none⟩)] 209 (0,0)):=by rw[F];unfold dI';rw[hao _ _ (by simp;omega),<-av];exact z19 _ _
 have aL:y.heap[z+2]? =some (.cells #[.int .i64 L.length] 3 (0,0)):=by rw[F];unfold dI';have:=z19 (x.alloc (.cells #[.pointer (some ⟨p,4+i * 6,none⟩)] 209)) (.cells #[.int .i64 L.length] 3);rw[zh',av]at this;exact this
 have aM:Below z w y:=by rw[F];unfold dI';exact((d' ah).2.1.alloc (by omega) _).alloc (by simp;omega) _
 rw[<-F,av];clear F av ah;refine uI'.1 (jH' (n:=5) (b:=z+1) (p:=p) (o:=4+i * 6) (m:=L.length) nv mv L aX rfl rfl (fun k W=>(∃v,W.heap[z]? =some (.cells #[v] 45 (0,0))/\W.ownsRow (z+5) 9 1 v k (ao' (aa.take k)))/\W.heap[z+1]? =some (.cells #[.pointer (some ⟨p,4+i * 6,none⟩)] 209 (0,0))/\W.heap[z+2]? =some (.cells #[.int .i64 L.length] 3 (0,0))/\Below z w W/\z+5<=W.heap.size) ?_ ?_ ?_ ?_ ?_ ?_)
 ·rintro k W bQ ⟨⟨v,h5,I⟩,h1,h2,hb,Y⟩ G;rw[aI]at G;have J:=fun k (h:k≠z+3) (bz:k≠z+4)=>G.rest k h (by omega);refine⟨⟨v,(J z (by omega) (by omega)).trans h5,L' I (fun g M=>?_)⟩,(J _ (by omega) (by omega)).trans h1,(J _ (by omega) (by omega)).trans h2,⟨G.os.trans hb.os,G.tape.trans hb.tape,G.output.trans hb.output,by rw[G.size];exact hb.size,fun k hk=>(J k (by omega) (by omega)).trans (hb.block k hk)⟩,by rw[G.size];exact Y⟩;have:=(z15 I g M).1;exact J g (by omega) (by omega)
 ·rintro k W ⟨_,h1,h2,hb,_⟩;have aN:Below w.heap.size w W:=by rw[<-d' aH];exact hb
  exact⟨y' h1,y' h2,(d' (aF W aN)).1,(d' (aF W aN)).2,d' (aE W aN)⟩
 ·intro W bf bR;have hk:=fun k (hk:k < y.heap.size)=>bf.block k hk;exact⟨⟨_,(hk z (by omega)).trans aJ,z27 _ _ _ _⟩,(hk _ (by omega)).trans aK,(hk _ (by omega)).trans aL,aM.trans (bf.mono (by omega)),by omega⟩
 ·intro k hk W bA bB bC;rw[aI]at bC ⊢;obtain⟨O,q,bg,bh⟩:=(d' bw) k hk;rw[bg];obtain⟨⟨v,h5,I⟩,h1,h2,hb,Y⟩:=bB;generalize L[k].1=bS at *;have bi:aa.take (k+1)=aa.take k++[O]:=by rw[sC',bh];rfl
  have bT:k < 24:=by have:=d' bc;omega
  have bD:=m' bi;have bj:=m' (z12 h5 (z12 I (z12 h1 (z12 h2 (z12 hb Y)))));clear h5 I h1 h2 hb Y bi bh aJ aK aL aM bg bA hk;unfold cN';obtain⟨ab,ai⟩:=exq (W.heap.size);have bU:z+5<=ab:=by omega
  have bV:=m' ai;gi_wp2;refine⟨⟨hao _ _ (by omega),hao _ _ (by omega)⟩,?_⟩;intro Q G;obtain⟨h5,I,h1,h2,hb,Y⟩:=d' bj;have J:∀j,j≠z+3->j≠z+4->j < W.heap.size->Q.heap[j]? =W.heap[j]? :=fun j h bz hl=>(G.rest j h (by omega)).trans (hao _ _ hl);have bk:Q.heap[ab]? =some (.cells #[.string O, .int .i64 q] 158 (0,0)):=by rw[G.rest ab (by omega) (by omega),ai];exact z19 _ _
  have bE:Q.heap.size=ab+1:=by rw[G.size,ai];simp
  have aj:=(J z (by omega) (by omega) (by omega)).trans h5;have ax:=(J _ (by omega) (by omega) (by omega)).trans h1;have ay:=(J _ (by omega) (by omega) (by omega)).trans h2;have az:Below z w Q:=⟨G.os.trans hb.os,G.tape.trans hb.tape,G.output.trans hb.output,by have:=hb.size;omega,fun j hj=>(J j (by omega) (by omega) (by omega)).trans (hb.block j hj)⟩;have ak:Q.ownsRow (z+5) 9 1 v k (ao' (aa.take k)):=L' I (fun g M=>by have:=z15 I g M;exact J g (by omega) (by omega) this.2);obtain⟨bl,cap,rfl,_⟩:=(bq' ak).shape;have d5:=y' (i:=0) aj;have f5:=H' (i:=0) aj;have d7:=y' (i:=0) bk;simp at d5 d7;rw[<-ai];obtain⟨xs,aO⟩:=exq (ao' (aa.take k));rw[<-aO]at ak;have bW:xs.length=k:=ak.1 |> fun h=>by simpa using h
  have bF:=m' aO;have bm:=m' (z12 aj (z12 ax (z12 ay az)));have aP:=m' ak;clear h5 I h1 h2 hb Y J bk aj ax ay az ak G bj aO ai;have bG:∀bn,(Q.alloc bn).heap[z]? =some (.cells #[.slice bl k cap] 45 (0,0)):=fun bn=>(hao _ _ (by omega)).trans (d' bm).1;have bo:∀j,j < z+5->some j≠(Value.slice bl k cap).ownBlock:=fun j hj e=>by have:=(z15 (d' aP) j e.symm).1;omega
  have bp:=cell_one_new Q (.string O) 9;rw[bE]at bp;obtain⟨i0,hi,aV,bH,bI⟩:=nT' bQ';gi_wp2_with (gi_at_builtin;go_loud (refine wpListIn_append_own _ rfl (.tmp 27) (.tmp 30) 45 rfl (z+5) 9 i0 _ 1 16 underlying45 hi aV bH bI rfl (by decide) _ k xs rfl (z53 (d' aP) _) ⟨ab+1,0,none⟩ 1 1 [.string O] rfl rfl bp (by simp[Value.oneCell']) (by unfold maxLen;omega) (by omega) (by simp;omega) ?_;intro v' w1 ao aA _;obtain⟨aQ,aR,bJ,_⟩:=(bq' ao).shape;subst bJ;have ap:=(aA.block z (by simp;omega) (bo z (by omega))).trans (bG _);have bK:=y' (i:=0) ap;have bX:=H' (i:=0) ap;simp at bK;replace ap:=m' ap;replace ao:=m' ao;replace aA:=m' aA));obtain⟨aj,ax,ay,az⟩:=d' bm;have M:=d' aA;have bY:ab+2<=w1.heap.size:=by have:=M.size;simp at this;omega
  have aS:=Q' w1 z 0 (.slice aQ (k+1) aR);have aB:∀j,j≠z->j < z+5->(w1.setCell ⟨z,0,none⟩ (.slice aQ (k+1) aR)).heap[j]? =Q.heap[j]? :=fun j bL bM=>
   (aS.rest j (by omega) bL).trans ((M.block j (by simp;omega) (bo j bM)).trans (hao _ _ (by omega)))
  refine⟨aB _ (by omega) (by omega),aB _ (by omega) (by omega),⟨_,by have:=aa' (j:=0) (v:= .slice aQ (k+1) aR) (d' ap);simpa using this,?_⟩,(aB _ (by omega) (by omega)).trans ax,(aB _ (by omega) (by omega)).trans ay,?_,?_⟩
  ·have e:ao' (aa.take (k+1))=xs++[.string O]:=(by rw[d' bD,d' bF];simp[ao']);rw[e];exact L' (d' ao) (fun g bN=>by have:=z15 (d' ao) g bN;exact aS.rest g this.2 (by omega))
  ·exact((az.alloc (by omega) _).grown M (by simp;omega) (fun j e=>by have:=(z15 (d' aP) j e).1;omega)).setCell (p:=⟨z,0,none⟩) (z13 _) _
  ·have:=aS.size;omega
 ·intro k W h;have:=h.2.2.2.2;omega
 ·intro W h hK;rw[aI]at hK ⊢;rw[Nat.min_self,d' bc,zn']at h;obtain⟨⟨v,h5,I⟩,_,_,hb,Y⟩:=h;have c5:=y' (i:=0) h5;simp at c5;have aT:=m' (z12 I hb);clear h5 I hb aJ aK aL aM;go_wp2;have bq:∀j,j≠z+3->(W.putObj (z+3) (.deferred none)).heap[j]? =W.heap[j]? :=fun j h=>uR' h;refine⟨by simp, .inl ⟨_,_,rfl,run_takeDeferred hK,?_⟩⟩;refine⟨_,results_tmp rfl _ _ _,_,rfl,ak' (L' (d' aT).1 (fun g M=>bq g (by have:=(z15 (d' aT).1 g M).1;omega))) (by have:=d' aH;omega),?_⟩;obtain⟨_,hb⟩:=d' aT;rw[<-d' aH];exact⟨hb.os,hb.tape,hb.output,by rw[zI'];exact hb.size,fun k hk=>(bq k (by omega)).trans (hb.block k hk)⟩
theorem qL' (F:Je w p g a.Qf a.Qd a.fenced free sh st c) (hs:tL' st) (G:Js a st.Qe g free sh pl) (i:Int):
  Calls prog 55 #[D' p, .int .i64 i] w fun r H=>∃v,r= .returned v/\H.ownsRow w.heap.size 9 1 v (aP' a i).length (ao' (aP' a i))/\Below w.heap.size w H:=by
 unfold aP';by_cases h:0<=i/\i < 3
 ·rw[if_pos h];obtain⟨n,rfl⟩:=z73 h.1;exact tc' F hs G n (by omega)
 ·rw[if_neg h];have hst:Qb.isStr i=false:=by
   cases I:Qb.isStr i
   ·rfl
   ·simp[Qb.isStr]at I;omega
  have z:=bC' i w;rw[hst]at z;have J:=m' z;clear F G hs z hst h;unfold D' at *;go_enter func55,ntmps55;go_wp2_with (go_at_call 87;refine(d' J).mono ?_;rintro r y ⟨rfl,M⟩;obtain rfl:w=y:=M.symm);go_ret;exact⟨_,rfl,z27 _ _ _ _,z11 _ _⟩
end
end Go.Proofs.YtamafdcnbcoegaaGreat
namespace Go.Proofs.YtamafdcnbcoegaaGreat
attribute [local simp, local go_sem] Ev Ep Ei Eb Et
open Go.RowKit Go.Proofs.Tryz
variable{p:World}{w a:Nat}{S:Nat -> List z10}{R:Nat -> List (Nat×Value)}{P:Mq.Stv}{L:Sv}
theorem mL' (z:Jt p w a S R P L):
  Calls prog 67 #[D' w] p fun r w'=>r= .returned (.int .i64 a)/\w'=p:=by
 have c1:p.cell? ⟨w,1,none⟩=some (.int .i64 a):=by rw[y' z.ks.blk,z.ks.a1]
 clear z;unfold D';go_enter func67,ntmps67;go_wp2;go_ret;exact⟨rfl,rfl⟩
variable{c:Value}{T:List z10}
theorem mM' (h:Qi p 9 1 c T.length (ao' T)) (hl:T.length<=1000):
  Calls prog 100 #[c] p fun r w'=>∃v',r= .returned v'/\w'.ownsRow p.heap.size 9 1 v' T.length (ao' T)/\Below p.heap.size p w':=by
 obtain⟨_,h2⟩:=h;rcases h2 with ⟨rfl,F⟩|⟨g,o,cap,G,rfl,H,J,M,hs,I⟩
 ·obtain rfl:T=[]:=List.length_eq_zero_iff.1 F;refine(Tryz.slices_Clone_string_nil 0 0 p).mono ?_;rintro r y ⟨rfl,rfl⟩;exact⟨_,rfl,z27 _ _ _ _,z11 _ _⟩
 ·refine(Tryz.slices_Clone_string g o T.length cap T p (z13 _) (by omega) (fun j hj=>?_)).mono ?_
  ·have h0:((G.toList.drop o).take (T.length * 1))[j]? =(ao' T)[j]? :=(by rw[I]);rw[z69,if_pos (by omega),z83]at h0;rw[y' H,<-Array.getElem?_toList,h0];simp[ao',hj,List.getD_eq_getElem?_getD]
  ·rintro r y ⟨v',rfl,z,_,hb⟩;exact⟨v',rfl,by rw[z46 (z13 _)]at z;exact z,hb⟩
def qM' (s:Nat) (fv rv:Value):Array Value:= #[D' s, .int .i64 0, .int .i64 0, .int .i64 0,
 .slice none 0 0, .map none, .slice none 0 0, .map none, .slice none 0 0, .map none, .slice none 0 0, .map none, .slice none 0 0, .map none, .slice none 0 0, .map none, .slice none 0 0, .map none, .slice none 0 0, .map none, .slice none 0 0, .map none,
 fv, .int .i64 0, .bool false, .bool false,rv]
theorem nA' (s:Nat) (fv rv:Value):(∀i,i < 3->(qM' s fv rv)[1+i]? =some (.int .i64 0))/\∀k,k < 9->(qM' s fv rv)[4+k * 2]? =some (.slice none 0 0)/\(qM' s fv rv)[4+k * 2+1]? =some (.map none):=by
 refine⟨fun i hi=>?_,fun k hk=>?_⟩
 ·obtain rfl|rfl|rfl:i=0\/i=1\/i=2:=by omega
  all_goals rfl
 ·obtain rfl|rfl|rfl|rfl|rfl|rfl|rfl|rfl|rfl:k=0\/k=1\/k=2\/k=3\/k=4\/k=5\/k=6\/k=7\/k=8:=by omega
  all_goals exact⟨rfl,rfl⟩
def ag0:Mq.Ag:={Qa:=1,Qf:=0,Qd:=false,fenced:=false,fl:=fun _=>{base:=0,kept:=[],held:=[]}}
theorem wV':(prog.info? 115).map (fun i=>(i.zero,i.size,i.bytes))=some (some (.pointer none),1,8):=by kernel_rfl
def rr0:ah':={dead:=false,g0:=0,g1:=0,g2:=0,st:=0,ex:= .slice none 0 0}
def cn':Array Value:= #[.int .i64 1, .int .i64 0, .bool false, .bool false, .bool false, .int .i64 0, .slice none 0 0, .slice none 0 0, .int .i64 0, .slice none 0 0, .slice none 0 0, .int .i64 0, .slice none 0 0, .slice none 0 0, .int .i64 0, .int .i64 0, .int .i64 0, .int .i64 0, .slice none 0 0]
theorem vb' (w:World) (p:Nat) (h:w.heap[p]? =some (.cells cn' 124 (0,0))):Qk w p ag0 rr0 (fun _=> .slice none 0 0) (fun _=> .slice none 0 0):=
 ⟨h,fun _ _=>bb' _ _ _,fun _ _=>bb' _ _ _,fun _ _ _ _ _ _ h=>by(cases h),fun _ _ _ _ _ _ h=>by(cases h),by simp[ag0],by simp[ag0],by simp[ag0],by simp[ag0],by simp[ag0]⟩
theorem qN' (n:Nat):Jn n ag0:=⟨by simp[ag0],by simp[ag0],by simp[ag0],fun s hs x z=>by simp[ag0]at z⟩
structure cF' where
 A:Nat->ax'->Prop
 S:Nat->ax'->Prop
 upA:∀ {n m:Nat} {t:ax'},n<=m->A n t->A m t
 upS:∀ {n m:Nat} {t:ax'},n<=m->S n t->S m t
def Ji (K:cF') (B D n:Nat) (x:World) (G:Nat):Prop:=
 ∃A H I J hs z F,Qs B n A x G H I J hs z F/\fX' D G H I J (z++F)/\(∀t∈z,K.A n t)/\∀t∈F,K.S n t
theorem Qs.mono {B n m:Nat} {A:Nat->Nat->Prop} {x:World} {z:Nat} {F G H:Value} {hs:List Nat} {I J:List ax'} (S:Qs B n A x z F G H hs I J) (h:n<=m):Qs B m A x z F G H hs I J:=
 ⟨z26 S.hn h,S.wat,S.Yh,S.Yg,S.sixA,S.sixS,S.each,S.apart,S.us,S.asu,S.ssu,S.usB,S.bx,S.a2⟩
section
variable {K:cF'} {B D n m:Nat} {x y:World} {wb:Nat}
theorem Ji.mono (h:Ji K B D n x wb) (z:n<=m):Ji K B D m x wb:=by
 obtain⟨A,G,H,I,hs,J,M,S,O,Q,V⟩:=h;exact⟨A,G,H,I,hs,J,M,S.mono z,O,fun t F=>K.upA z (Q t F),fun t F=>K.upS z (V t F)⟩
theorem Ji.below (h:Ji K B D n x wb) (hb:Below x.heap.size x y):Ji K B D n y wb:=by
 obtain⟨A,z,F,G,hs,H,I,S,J,M,O⟩:=h;exact⟨A,z,F,G,hs,H,I,S.below hb,J,M,O⟩
theorem Ji.size (h:Ji K B D n x wb):Ji K B x.heap.size n x wb:=by
 obtain⟨A,z,F,G,hs,H,I,S,O,J,M⟩:=h;exact⟨A,z,F,G,hs,H,I,S,S.bnd,J,M⟩
theorem Ji.looks (h:Ji K B D n x wb):
  Calls prog 49 #[D' wb] x fun r w'=>r= .returned (.bool true)/\Ji K B D n w' wb/\Below x.heap.size x w':=by
 have h0:=h;obtain⟨A,F,G,z,hs,H,I,S,_⟩:=h;refine(uo' A x wb _ _ z hs S.wat).mono ?_;rintro r w' ⟨rfl,k,rfl⟩;exact⟨rfl,h0.below (z41 (z11 _ _) _),z41 (z11 _ _) _⟩
end
section
variable {B D n N:Nat} {A:Nat->Nat->Prop} {x y:World} {wb:Nat} {asv ssv hv:Value} {hs:List Nat} {la ls:List ax'}
theorem Qs.noneOf (S:Qs B n A x wb asv ssv hv hs la ls) (hk:x.heap.size<=w):lr' wb asv ssv hv (la++ls) w:=
 ⟨fun h=>by have:=S.wat.Vt w h;omega,fun h=>by have:=(z15 S.Yh w h).2;omega,fun h=>by have:=(z15 S.Yg w h).2;omega,fun i u hu h=>by have:=u.lt (S.each i u hu) w h;omega⟩
theorem Qs.Yn (S:Qs B n A x wb asv ssv hv hs la ls) (hk:x.heap.size<=w):B<=w/\gs' A wb asv ssv hv (la++ls) w:=
 ⟨z26 S.bx hk,S.noneOf hk,fun o h=>by have:=(S.a2 w o h).1;omega⟩
theorem Qs.keep (S:Qs B n A x wb asv ssv hv hs la ls) {F:Value} {M:List Nat} {I:Nat->Prop} (G:∀k,I k->lr' wb asv ssv hv (la++ls) k) (J:Far (fun k=>I k\/Us wb hv k) x y) (L:Loc x hv F) (Z:M.length<=N)
  (W:Qj (fun b o=>(b < y.heap.size/\¬Us wb F b)/\(A b o\/I b\/x.heap.size<=b)) y wb asv ssv F M):
  Qs B N (fun b o=>(b < y.heap.size/\¬Us wb F b)/\(A b o\/I b\/x.heap.size<=b)) y wb asv ssv F M la ls:=by
 have Q:=fun k h=>(z15 S.Yh k h).2;have V:=fun k h=>(z15 S.Yg k h).2;have Y:∀ (j:Nat) (u:ax'),(la++ls)[j]? =some u->∀k,u.In k->k < x.heap.size:=fun j u hu=>u.lt (S.each j u hu);have O:∀k,k < x.heap.size->¬Us wb hv k->¬Us wb F k:=by
  rintro k hk h (e|e)
  ·exact h (.inl e)
  ·rcases L with z|z|⟨g',z,aa⟩
   ·rw[z]at e;cases e
   ·exact h (.inr (z ▸ e))
   ·rw[z]at e;injection e with e;omega
 refine⟨Z,W,?_,?_,S.sixA,S.sixS,?_,S.apart,?_,?_,?_,?_,z26 S.bx J.size,?_⟩
 ·refine J.own S.Yh (fun g H=>?_);rintro(e|e)
  ·exact(G g e).2.1 H
  ·exact(S.asu g H).2.1 e
 ·refine J.own S.Yg (fun g H=>?_);rintro(e|e)
  ·exact(G g e).2.2.1 H
  ·exact(S.ssu g H).2 e
 ·intro j u hu;refine u.far (S.each j u hu) J ?_;rintro k hk (e|e)
  ·exact(G k e).2.2.2 j u hu hk
  ·exact(S.us j u hu k hk).2.1 e
 ·intro j u hu k hk;have h:=S.us j u hu k hk;exact⟨h.1,O k (Y j u hu k hk) h.2.1,h.2.2⟩
 ·intro k h;have h1:=S.asu k h;exact⟨h1.1,O k (Q k h) h1.2.1,h1.2.2⟩
 ·intro k h;have h1:=S.ssu k h;exact⟨h1.1,O k (V k h) h1.2⟩
 ·rintro k (e|e)
  ·exact S.usB k (.inl e)
  ·rcases L with z|z|⟨g',z,aa⟩
   ·rw[z]at e;cases e
   ·exact S.usB k (.inr (z ▸ e))
   ·rw[z]at e;injection e with e;have:=S.bx;omega
 ·rintro b o ⟨⟨h1,h2⟩,h3⟩;refine⟨h1,h2,fun e=>?_,fun e=>?_,fun j u hu hb=>?_⟩
  ·rcases h3 with h3|h3|h3
   ·exact(S.a2 b o h3).2.2.1 e
   ·exact(G b h3).2.1 e
   ·have:=Q b e;omega
  ·rcases h3 with h3|h3|h3
   ·exact(S.a2 b o h3).2.2.2.1 e
   ·exact(G b h3).2.2.1 e
   ·have:=V b e;omega
  ·rcases h3 with h3|h3|h3
   ·exact(S.a2 b o h3).2.2.2.2 j u hu hb
   ·exact(G b h3).2.2.2 j u hu hb
   ·have:=Y j u hu b hb;omega
theorem Qs.pushA {X w1:World} {v1:Value} (S:Qs B n A x wb asv ssv hv hs la ls) (J:fX' D wb asv ssv hv (la++ls)) (ao:la.length < 6) (hb:Below x.heap.size x X) (M:App X w1 asv v1) (z:ax')
  (Z:w1.ownsRow 0 115 1 v1 (la.map (fun z=>D' z.q)++[D' z.q]).length (la.map (fun z=>D' z.q)++[D' z.q])) (O:z.Is X) (H:∀k,z.In k->B<=k/\gs' A wb asv ssv hv (la++ls) k):
  Qs B n A (w1.setCell ⟨wb,0,none⟩ v1) wb v1 ssv hv hs (la++[z]) ls/\Far (fun k=>B<=k/\k < D) x (w1.setCell ⟨wb,0,none⟩ v1)/\Far (fun k=>k=wb\/asv.ownBlock=some k) x (w1.setCell ⟨wb,0,none⟩ v1):=by
 have ap:=fun k h=>(z15 S.Yh k h).2;have aa:=fun k h=>(z15 S.Yg k h).2;have aq:=z14 S.wat.blk;have ab:=z.lt O;have ac:asv.ownBlock≠some wb:=fun e=>(S.asu wb e).2.1 (.inl rfl);have Q:=ba' M.grown;have ad:=Q' w1 wb 0 v1;have V:Far (fun k=>k=wb\/asv.ownBlock=some k) X (w1.setCell ⟨wb,0,none⟩ v1):=(Q.mono (E':=fun k=>k=wb\/asv.ownBlock=some k) (fun _ _ h=> .inr h)).trans ad (fun _ _ h=> .inl h);have G:Far (fun k=>k=wb\/asv.ownBlock=some k) x (w1.setCell ⟨wb,0,none⟩ v1):=(C' (E:=fun k=>k=wb\/asv.ownBlock=some k) hb).trans V (fun _ _ h=>h);have I:∀g,v1.ownBlock=some g->asv.ownBlock=some g\/X.heap.size<=g:=by
  intro g F;rcases M.where_ with h|⟨_,g',h,au⟩
  ·exact .inl (h ▸ F)
  ·rw[h]at F;injection F with F;exact .inr (by omega)
 have Y:w1.heap[wb]? =some (.cells #[asv,ssv,hv] 83 (0,0)):=Q.blk ((C' (E:=fun _=>False) hb).blk S.wat.blk (fun h=>h)) ac;have ah:(w1.setCell ⟨wb,0,none⟩ v1).heap[wb]? =some (.cells #[v1,ssv,hv] 83 (0,0)):=by have:=aa' (j:=0) (v:=v1) Y;simpa using this
 have ai:(w1.setCell ⟨wb,0,none⟩ v1).ownsRow 0 115 1 v1 (la++[z]).length ((la++[z]).map fun z=>D' z.q):=by have:=cw' (u:=v1) (j:=0) Z Y (by decide);simpa using this
 have av:=hb.size;have aj:z.Is (w1.setCell ⟨wb,0,none⟩ v1):=z.far O V (fun k hk=>by
  rintro(e|e)
  ·exact(H k hk).2.1.1 (.inl e)
  ·exact(H k hk).2.1.2.1 e)
 refine⟨S.moreCore z la.length (fun j=>if j < la.length then j else j - 1) ?_ ?_ (G.mono (fun k _ h=>h.elim .inl (fun h=> .inr (.inl h)))) ah ai ?_ (by simp;omega) S.sixS (fun g F=>(I g F).imp id (by omega)) (fun g F=> .inl F) ?_ aj ?_,G.mono (fun k _ e=>?_),G⟩
 ·intro j u hu;rw[z38]at hu;by_cases h1:j < la.length
  ·rw[z45 h1]at hu;refine .inr ⟨by omega,?_⟩;rw[if_pos h1,z45 h1];exact hu
  ·rw[z29 (by omega)]at hu;by_cases h2:j=la.length
   ·subst h2;simp at hu;exact .inl ⟨rfl,hu.symm⟩
   ·refine .inr ⟨h2,?_⟩;rw[if_neg h1,z29 (by omega)];rw[z29 (by simp;omega)]at hu;rw[<-hu];congr 1;simp;omega
 ·intro j k hj hk ak;by_cases h1:j < la.length
  ·by_cases h2:k < la.length
   ·rw[if_pos h1,if_pos h2];exact ak
   ·rw[if_pos h1,if_neg h2];omega
  ·by_cases h2:k < la.length
   ·rw[if_neg h1,if_pos h2];omega
   ·rw[if_neg h1,if_neg h2];omega
 ·refine G.own S.Yg (fun g F=>?_);rintro(e|e)
  ·exact(S.ssu g F).2 (.inl e)
  ·exact(S.asu g e).2.2 F
 ·intro g F;rcases I g F with h|h
  ·exact(S.asu g h).2.2
  ·intro e;have:=aa g e;omega
 ·intro k hk;have h1:=H k hk;have h2:=ab k hk;refine⟨h1,fun e=>?_,h1.2.1.2.2.1⟩;rcases I k e with h|h
  ·exact h1.2.1.2.1 h
  ·omega
 ·rcases e with rfl|e
  ·exact⟨S.usB k (.inl rfl),J k (.inl (.inl rfl))⟩
  ·exact⟨(S.asu k e).1,J k (.inr (.inl e))⟩
theorem Qs.pushS {X w1:World} {v1:Value} (S:Qs B n A x wb asv ssv hv hs la ls) (J:fX' D wb asv ssv hv (la++ls)) (ak:ls.length < 6) (hb:Below x.heap.size x X) (M:App X w1 ssv v1) (z:ax')
  (Z:w1.ownsRow 0 117 1 v1 (ls.map (fun z=>D' z.q)++[D' z.q]).length (ls.map (fun z=>D' z.q)++[D' z.q])) (O:z.Is X) (H:∀k,z.In k->B<=k/\gs' A wb asv ssv hv (la++ls) k):
  Qs B n A (w1.setCell ⟨wb,1,none⟩ v1) wb asv v1 hv hs la (ls++[z])/\Far (fun k=>B<=k/\k < D) x (w1.setCell ⟨wb,1,none⟩ v1)/\Far (fun k=>k=wb\/ssv.ownBlock=some k) x (w1.setCell ⟨wb,1,none⟩ v1):=by
 have aa:=fun k h=>(z15 S.Yh k h).2;have ao:=fun k h=>(z15 S.Yg k h).2;have ap:=z14 S.wat.blk;have ab:=z.lt O;have ac:ssv.ownBlock≠some wb:=fun e=>(S.ssu wb e).2 (.inl rfl);have Q:=ba' M.grown;have ad:=Q' w1 wb 1 v1;have V:Far (fun k=>k=wb\/ssv.ownBlock=some k) X (w1.setCell ⟨wb,1,none⟩ v1):=(Q.mono (E':=fun k=>k=wb\/ssv.ownBlock=some k) (fun _ _ h=> .inr h)).trans ad (fun _ _ h=> .inl h);have G:Far (fun k=>k=wb\/ssv.ownBlock=some k) x (w1.setCell ⟨wb,1,none⟩ v1):=(C' (E:=fun k=>k=wb\/ssv.ownBlock=some k) hb).trans V (fun _ _ h=>h);have I:∀g,v1.ownBlock=some g->ssv.ownBlock=some g\/X.heap.size<=g:=by
  intro g F;rcases M.where_ with h|⟨_,g',h,aq⟩
  ·exact .inl (h ▸ F)
  ·rw[h]at F;injection F with F;exact .inr (by omega)
 have Y:w1.heap[wb]? =some (.cells #[asv,ssv,hv] 83 (0,0)):=Q.blk ((C' (E:=fun _=>False) hb).blk S.wat.blk (fun h=>h)) ac;have ah:(w1.setCell ⟨wb,1,none⟩ v1).heap[wb]? =some (.cells #[asv,v1,hv] 83 (0,0)):=by have:=aa' (j:=1) (v:=v1) Y;simpa using this
 have ai:(w1.setCell ⟨wb,1,none⟩ v1).ownsRow 0 117 1 v1 (ls++[z]).length ((ls++[z]).map fun z=>D' z.q):=by have:=cw' (u:=v1) (j:=1) Z Y (by decide);simpa using this
 have au:=hb.size;have aj:z.Is (w1.setCell ⟨wb,1,none⟩ v1):=z.far O V (fun k hk=>by
  rintro(e|e)
  ·exact(H k hk).2.1.1 (.inl e)
  ·exact(H k hk).2.1.2.2.1 e)
 refine⟨S.moreCore z (la.length+ls.length) (fun j=>j) ?_ (fun j k _ _ h=>h) (G.mono (fun k _ h=>h.elim .inl (fun h=> .inr (.inr h)))) ah ?_ ai S.sixA (by simp;omega) (fun g F=> .inl F) (fun g F=>(I g F).imp id (by omega)) ?_ aj ?_,G.mono (fun k _ e=>?_),G⟩
 ·intro j u hu;rw[<-z38]at hu;by_cases h1:j < (la++ls).length
  ·rw[z45 h1]at hu;exact .inr ⟨by simp at h1;omega,hu⟩
  ·rw[z29 (by omega)]at hu;have hj:j=(la++ls).length:=by
    by_cases h2:j - (la++ls).length < 1
    ·omega
    ·rw[z76 (by simp at h2 ⊢;omega)]at hu;cases hu
   subst hj;simp at hu;exact .inl ⟨by simp,hu.symm⟩
 ·refine G.own S.Yh (fun g F=>?_);rintro(e|e)
  ·exact(S.asu g F).2.1 (.inl e)
  ·exact(S.asu g F).2.2 e
 ·intro g F e;rcases I g e with h|h
  ·exact(S.asu g F).2.2 h
  ·have:=aa g F;omega
 ·intro k hk;have h1:=H k hk;have h2:=ab k hk;refine⟨h1,h1.2.1.2.1,fun e=>?_⟩;rcases I k e with h|h
  ·exact h1.2.1.2.2.1 h
  ·omega
 ·rcases e with rfl|e
  ·exact⟨S.usB k (.inl rfl),J k (.inl (.inl rfl))⟩
  ·exact⟨(S.ssu k e).1,J k (.inr (.inr (.inl e)))⟩
end
theorem qO' (R:World->Prop) (A:Nat->Nat->Prop) (w:World) (z:Nat) (ah ay az:Value) (hs:List Nat) (G:List ax') (M F i:Int) (s:z10) (kp Y Z aa ab:Int) (ac:z10)
  (ai:Qj A w z ah ay az hs) (V:w.ownsRow 0 115 1 ah G.length (G.map fun Q=>D' Q.q)) (ba:G.length<=6) (aA: -9223372036854775808<=F/\F<=9223372036854775807) (h0:0 < G.length) (Q:ax') (ap:G[eB' F G.length]? =some Q) (aB:M=4\/M=5\/M=6\/M=7\/M=11\/M=13)
  (aq:∀x,Below w.heap.size w x->Calls prog 80 #[D' z,D' Q.q,ap' M F i s kp Y Z aa ab ac] x fun r y=>r= .returned (.bool true)/\R y):
  Calls prog 48 #[D' z,ap' M F i s kp Y Z aa ab ac] w fun r w'=>r= .returned (.bool true)/\R w':=by
 have aC:=fun x h=>m' (aq x h);have aD:=z14 ai.blk;have aE:=ij' F h0;obtain⟨g,cap,aF⟩:∃g cap,ah= .slice (some ⟨g,0,none⟩) G.length cap:=by obtain⟨g,cap,h⟩:=aJ' V (by omega);exact⟨g,cap,h⟩
 subst aF;have aj:=z59 V (eB' F G.length) (by omega);rw[z70,ap]at aj;have aG:=(z15 V g rfl).2;have bb:G.length<=cap:=by
  have h:=V.2;rcases h with ⟨_,h⟩|⟨g',bc,bd,h1,_,_,h2,_⟩
  ·omega
  ·injection h1 with _ _ h3;omega
 have aH:w.cell? ⟨g,eB' F G.length,none⟩=some (D' Q.q):=by simpa using aj
 have c1:=y' (i:=0) ai.blk;simp at c1;have aI:=fun x=>m' (qG' F G.length x aA h0 (by omega));have be:=m' aE;have bf:=m' h0;clear ai V aj aq ap;generalize aJ:G.length=J at *;clear aJ;generalize aK:eB' F J=j at *;clear aK;have bg:¬J=0:=by omega
 have bh:((J:Int) ==0)=false:=by simp;omega
 have bi:(0:Int)<=j:=by omega
 have bj:(j:Int) < J:=by omega
 unfold D' ap' at *;go_enter func48,ntmps48;rcases aB with rfl|rfl|rfl|rfl|rfl|rfl
 case' inl=>let O:Int:=4
 case' inr.inl=>let O:Int:=5
 case' inr.inr.inl=>let O:Int:=6
 case' inr.inr.inr.inl=>let O:Int:=7
 case' inr.inr.inr.inr.inl=>let O:Int:=11
 case' inr.inr.inr.inr.inr=>let O:Int:=13
 all_goals
  go_upto_region 16 with fail
  have au:=m' ((z11 w.heap.size w).alloc (z13 _) (.cells #[.int .i64 O, .int .i64 F, .int .i64 i, .string s, .int .u64 kp, .int .i64 Y, .int .i64 Z, .int .i64 aa, .int .i64 ab, .string ac] 86));refine bK'
   [Ep z 0,Ep z 0,Ep z 0,Ev (.slice (some ⟨g,0,none⟩) J cap),Ei J,Eb false,Eb false,
    Ep z 0,Ep z 0,Ep z 0,Ep z 0,Ev (.slice (some ⟨g,0,none⟩) J cap),Ep w.heap.size 1,Ei F,
    Ep z 0,Ep z 0,Ep z 0,Ev (.slice (some ⟨g,0,none⟩) J cap),Ei J,Ei j,Ep g j,Ep Q.q 0,
    Ev (.agg #[.int .i64 O, .int .i64 F, .int .i64 i, .string s, .int .u64 kp, .int .i64 Y, .int .i64 Z, .int .i64 aa, .int .i64 ab, .string ac]),Et,Et,Et]
   [[0],[1050],[2051],[3052],[4053],[5054],[6055],[0,7056],[0,7056],[9058,7056],[10059,7056],[11060,7056],[3,7056],[13062,7056],[0,7056],[15064,7056],[16065,7056],[17066,7056],[18067,7056],[14063,19068,7056],[12061,20069,7056],[21070,7056],[3,7056],[8057,22071,23072,7056],[7056,24073],[25074]] [51,52,53,54,55,56,57,58,59,60,61,62,63,64,65,66,67,68,69,70,71,72,73,74,75,5] [4,1,45,25,30]
   23 _ rfl ?_ ?_ ?_
  ·refine⟨?_,?_,?_,?_,?_,?_,?_,?_,?_,?_,?_,?_,?_,?_,?_,?_,?_,?_,?_,?_,?_,?_,?_,trivial⟩;all_goals
    intro b x hb ad;have ak:=(d' au).trans (hb.mono (by simp));have bk:=(ak.cell (p:=⟨z,0,none⟩) aD).trans c1;have bl:=(ak.cell (p:=⟨g,j,none⟩) aG).trans aH;have H:=fun k=>bE' hb k;have aL:=H 0;have aM:=H 1;have b2:=H 2;have b3:=H 3;have aN:=H 4;have aO:=H 5;have aP:=H 6;have aQ:=H 7;have aR:=H 8;have aS:=H 9;clear hb ak H;simp at aL aM b2 b3 aN aO aP aQ aR aS;simp[I']at ad;try (have aT:b.tmps[56]? =some (.bool false):=qH' (by first|exact ad|exact ad.2|exact ad.2.2))
    try go_simp
    try simp only[aT,if_true]
    try go_simp
    try exact z11 _ _
   all_goals first
    |exact⟨rfl,z11 _ _⟩
    |(refine(d' (aI _)).mono ?_;rintro e bm ⟨rfl,rfl⟩;exact⟨rfl,z11 _ _⟩)
    |skip
  ·intro f x I;simp only[ag',List.take]at I;have ao:=I.2.2.2.2.2.2.1;clear I;simp only[O',ao];rfl
  ·intro f aU hb I;simp only[ag',List.take]at I;have ao:=I.2.2.2.2.2.2.1;have aV:=I.2.2.2.2.2.2.2.1;have aW:=I.2.2.2.2.2.2.2.2.2.2.2.2.2.2.2.2.2.2.2.2.2.1;have aX:=I.2.2.2.2.2.2.2.2.2.2.2.2.2.2.2.2.2.2.2.2.2.2.1;have aY:=m' ((d' au).trans (hb.mono (by simp)));clear I hb;simp only[O',ao,aV,aW,aX];go_simp;refine(d' (aC aU (d' aY))).mono ?_;rintro bn bo ⟨rfl,av⟩;have aZ:=m' av;clear av;intro ax bp;obtain⟨m,rfl⟩:∃m,ax=m+2:=⟨ax - 2,by omega⟩;refine aY' (i:=24) (by kernel_rfl) rfl rfl ?_;go_simp;refine aY' (i:=25) (by kernel_rfl) rfl rfl ?_;go_simp;refine cu' (by kernel_rfl) ?_;go_wp2;go_ret;exact⟨rfl,d' aZ⟩
theorem iV' (R:World->Prop) (A:Nat->Nat->Prop) (w:World) (G:Nat) (H O Q:Value) (hs:List Nat) (z V i:Int) (s:z10) (kp Y Z aa ab:Int) (ac:z10)
  (F:Qj A w G H O Q hs) (I:w.ownsRow 0 115 1 H 0 []) (ad:z=4\/z=5\/z=6\/z=7\/z=11\/z=13) (J:∀x,Below w.heap.size w x->R x):
  Calls prog 48 #[D' G,ap' z V i s kp Y Z aa ab ac] w fun r w'=>r= .returned (.bool true)/\R w':=by
 have ah:=fun(x:World) (hb:Below w.heap.size w x)=>m' (J x hb);have c1:=y' (i:=0) F.blk;simp at c1;obtain⟨ai,cap,M,hl,_,_⟩:=bc' I;simp only[List.length_nil]at M hl;have aj:=z14 F.blk;clear F I J;subst M;unfold D' ap' at *;rcases ad with rfl|rfl|rfl|rfl|rfl|rfl;all_goals
  go_enter func48,ntmps48;go_upto_region 16 with fail;go_quiet (fail);go_wp2;go_ret;exact⟨rfl,d' (ah _ (by first|exact(z11 _ _).alloc (z13 _) _|exact z41 ((z11 _ _).alloc (z13 _) _) _))⟩
theorem vc' (R:World->Prop) (A:Nat->Nat->Prop) (w:World) (z:Nat) (ay ah az:Value) (hs:List Nat) (G:List ax') (M F i:Int) (s:z10) (kp Y Z aa ab:Int) (ac:z10)
  (ai:Qj A w z ay ah az hs) (Q:w.ownsRow 0 117 1 ah G.length (G.map fun O=>D' O.q)) (ba:G.length<=6) (aA: -9223372036854775808<=F/\F<=9223372036854775807) (h0:0 < G.length) (O:ax') (ap:G[eB' F G.length]? =some O) (aB:M=9\/M=10\/M=12\/M=14)
  (aq:∀x,Below w.heap.size w x->Calls prog 82 #[D' z,D' O.q,ap' M F i s kp Y Z aa ab ac] x fun r y=>r= .returned (.bool true)/\R y):
  Calls prog 48 #[D' z,ap' M F i s kp Y Z aa ab ac] w fun r w'=>r= .returned (.bool true)/\R w':=by
 have aC:=fun x h=>m' (aq x h);have aD:=z14 ai.blk;have aE:=ij' F h0;obtain⟨g,cap,aF⟩:∃g cap,ah= .slice (some ⟨g,0,none⟩) G.length cap:=by obtain⟨g,cap,h⟩:=aJ' Q (by omega);exact⟨g,cap,h⟩
 subst aF;have aj:=z59 Q (eB' F G.length) (by omega);rw[z70,ap]at aj;have aG:=(z15 Q g rfl).2;have bb:G.length<=cap:=by
  have h:=Q.2;rcases h with ⟨_,h⟩|⟨g',bc,bd,h1,_,_,h2,_⟩
  ·omega
  ·injection h1 with _ _ h3;omega
 have aH:w.cell? ⟨g,eB' F G.length,none⟩=some (D' O.q):=by simpa using aj
 have c1:=y' (i:=1) ai.blk;simp at c1;have aI:=fun x=>m' (qG' F G.length x aA h0 (by omega));have be:=m' aE;have bf:=m' h0;clear ai Q aj aq ap;generalize aJ:G.length=J at *;clear aJ;generalize aK:eB' F J=j at *;clear aK;have bg:¬J=0:=by omega
 have bh:((J:Int) ==0)=false:=by simp;omega
 have bi:(0:Int)<=j:=by omega
 have bj:(j:Int) < J:=by omega
 unfold D' ap' at *;go_enter func48,ntmps48;rcases aB with rfl|rfl|rfl|rfl
 case' inl=>let V:Int:=9
 case' inr.inl=>let V:Int:=10
 case' inr.inr.inl=>let V:Int:=12
 case' inr.inr.inr=>let V:Int:=14
 all_goals
  go_upto_region 21 with fail
  have au:=m' ((z11 w.heap.size w).alloc (z13 _) (.cells #[.int .i64 V, .int .i64 F, .int .i64 i, .string s, .int .u64 kp, .int .i64 Y, .int .i64 Z, .int .i64 aa, .int .i64 ab, .string ac] 86));refine bK'
   [Ep z 0,Ep z 0,Ep z 1,Ev (.slice (some ⟨g,0,none⟩) J cap),Ei J,Eb false,Eb false,
    Ep z 0,Ep z 0,Ep z 0,Ep z 1,Ev (.slice (some ⟨g,0,none⟩) J cap),Ep w.heap.size 1,Ei F,
    Ep z 0,Ep z 0,Ep z 1,Ev (.slice (some ⟨g,0,none⟩) J cap),Ei J,Ei j,Ep g j,Ep O.q 0,
    Ev (.agg #[.int .i64 V, .int .i64 F, .int .i64 i, .string s, .int .u64 kp, .int .i64 Y, .int .i64 Z, .int .i64 aa, .int .i64 ab, .string ac]),Et,Et,Et]
   [[0],[1080],[2081],[3082],[4083],[5084],[6085],[0,7086],[0,7086],[9088,7086],[10089,7086],[11090,7086],[3,7086],[13092,7086],[0,7086],[15094,7086],[16095,7086],[17096,7086],[18097,7086],[14093,19098,7086],[12091,20099,7086],[21100,7086],[3,7086],[8087,22101,23102,7086],[7086,24103],[25104]]
   [81,82,83,84,85,86,87,88,89,90,91,92,93,94,95,96,97,98,99,100,101,102,103,104,105,5]
   [4,1,75,25,999]
   23 _ rfl ?_ ?_ ?_
  ·refine⟨?_,?_,?_,?_,?_,?_,?_,?_,?_,?_,?_,?_,?_,?_,?_,?_,?_,?_,?_,?_,?_,?_,?_,trivial⟩;all_goals
    intro b x hb ad;have ak:=(d' au).trans (hb.mono (by simp));have bk:=(ak.cell (p:=⟨z,1,none⟩) aD).trans c1;have bl:=(ak.cell (p:=⟨g,j,none⟩) aG).trans aH;have H:=fun k=>bE' hb k;have aL:=H 0;have aM:=H 1;have b2:=H 2;have b3:=H 3;have aN:=H 4;have aO:=H 5;have aP:=H 6;have aQ:=H 7;have aR:=H 8;have aS:=H 9;clear hb ak H;simp at aL aM b2 b3 aN aO aP aQ aR aS;simp[I']at ad;try (have aT:b.tmps[86]? =some (.bool false):=qH' (by first|exact ad|exact ad.2|exact ad.2.2))
    try go_simp
    try simp only[aT,if_true]
    try go_simp
    try exact z11 _ _
   all_goals first
    |exact⟨rfl,z11 _ _⟩
    |(refine(d' (aI _)).mono ?_;rintro e bm ⟨rfl,rfl⟩;exact⟨rfl,z11 _ _⟩)
    |skip
  ·intro f x I;simp only[ag',List.take]at I;have ao:=I.2.2.2.2.2.2.1;clear I;simp only[O',ao];rfl
  ·intro f aU hb I;simp only[ag',List.take]at I;have ao:=I.2.2.2.2.2.2.1;have aV:=I.2.2.2.2.2.2.2.1;have aW:=I.2.2.2.2.2.2.2.2.2.2.2.2.2.2.2.2.2.2.2.2.2.1;have aX:=I.2.2.2.2.2.2.2.2.2.2.2.2.2.2.2.2.2.2.2.2.2.2.1;have aY:=m' ((d' au).trans (hb.mono (by simp)));clear I hb;simp only[O',ao,aV,aW,aX];go_simp;refine(d' (aC aU (d' aY))).mono ?_;rintro bn bo ⟨rfl,av⟩;have aZ:=m' av;clear av;intro ax bp;obtain⟨m,rfl⟩:∃m,ax=m+2:=⟨ax - 2,by omega⟩;refine aY' (i:=24) (by kernel_rfl) rfl rfl ?_;go_simp;refine aY' (i:=25) (by kernel_rfl) rfl rfl ?_;go_simp;refine cu' (by kernel_rfl) ?_;go_wp2;go_ret;exact⟨rfl,d' aZ⟩
theorem lx' (R:World->Prop) (A:Nat->Nat->Prop) (w:World) (G:Nat) (O H Q:Value) (hs:List Nat) (z V i:Int) (s:z10) (kp Y Z aa ab:Int) (ac:z10)
  (F:Qj A w G O H Q hs) (I:w.ownsRow 0 117 1 H 0 []) (ad:z=9\/z=10\/z=12\/z=14) (J:∀x,Below w.heap.size w x->R x):
  Calls prog 48 #[D' G,ap' z V i s kp Y Z aa ab ac] w fun r w'=>r= .returned (.bool true)/\R w':=by
 have ah:=fun(x:World) (hb:Below w.heap.size w x)=>m' (J x hb);have c1:=y' (i:=1) F.blk;simp at c1;obtain⟨ai,cap,M,hl,_,_⟩:=bc' I;simp only[List.length_nil]at M hl;have aj:=z14 F.blk;clear F I J;subst M;unfold D' ap' at *;rcases ad with rfl|rfl|rfl|rfl;all_goals
  go_enter func48,ntmps48;go_upto_region 21 with fail;go_quiet (fail);go_wp2;go_ret;exact⟨rfl,d' (ah _ (by first|exact(z11 _ _).alloc (z13 _) _|exact z41 ((z11 _ _).alloc (z13 _) _) _))⟩
structure iW' (K:cF') where
 At0:World->Nat->(Nat->Prop)->Prop
 lt0:∀ {x v U},At0 x v U->∀k,U k->k < x.heap.size
 below0:∀ {x y v U},At0 x v U->Below x.heap.size x y->At0 y v U
 open0:∀ {x} (bs:Value),Qn x bs (List.replicate 1664 0)->Calls prog 37 #[bs] x fun r w'=>∃v U,r= .returned (.tuple #[D' v, .int .i64 0])/\At0 w' v U/\Below x.heap.size x w'/\∀k,U k->x.heap.size<=k
 mk0:∀ {y q sv rp U} (n:Nat),y.heap[q]? =some (.cells #[D' sv,D' rp, .bool false, .int .i64 0] 128 (0,0))->At0 y sv U->y.heap[rp]? =some (.cells cn' 124 (0,0))->q≠rp->¬U q->¬U rp->
  ∃t:ax',t.q=q/\t.Is y/\K.A n t/\∀k,t.In k->k=q\/k=rp\/U k
variable{q r C:Nat}{u:World}{f G:Value}{k:List Nat}{bN bT:List ax'}{D:Nat -> Prop}
theorem oO' {K:cF'} (F:iW' K) {A:Nat->Nat->Prop} {w1:World} {v1:Value} (S:Qs w q A p r c f G k bN bT) (Y:fX' a r c f G (bN++bT)) (Z:∀t∈bN,K.A q t) (aa:∀t∈bT,K.S q t) (ab:bN.length < 6) (hb:Below p.heap.size p u) (J:F.At0 u C D) (ac:∀z,D z->p.heap.size<=z)
  (M:App (((u.alloc (.cells cn' 124)).alloc (.cells #[D' C,D' u.heap.size, .bool false, .int .i64 0] 128)).alloc (.cells #[D' (u.heap.size+1)] 115)) w1 c v1)
  (ad:w1.ownsRow 0 115 1 v1 (bN.map (fun H=>D' H.q)++[D' (u.heap.size+1)]).length (bN.map (fun H=>D' H.q)++[D' (u.heap.size+1)])):
  Ji K w (w1.setCell ⟨r,0,none⟩ v1).heap.size q (w1.setCell ⟨r,0,none⟩ v1) r/\Far (fun z=>w<=z/\z < a) p (w1.setCell ⟨r,0,none⟩ v1):=by
 have ah:=hb.size;have O:=F.lt0 J;generalize I:(((u.alloc (.cells cn' 124)).alloc (.cells #[D' C,D' u.heap.size, .bool false, .int .i64 0] 128)).alloc (.cells #[D' (u.heap.size+1)] 115))=X at M;have Q:Below u.heap.size u X:=by rw[<-I];exact(((z11 _ _).alloc (z13 _) _).alloc (by simp) _).alloc (by simp;omega) _
 have ai:X.heap[u.heap.size]? =some (.cells cn' 124 (0,0)):=by rw[<-I,z25 _ _ _ (by simp;omega),z25 _ _ _ (by simp)];exact z19 u _
 have aj:X.heap[u.heap.size+1]? =some (.cells #[D' C,D' u.heap.size, .bool false, .int .i64 0] 128 (0,0)):=by rw[<-I,z25 _ _ _ (by simp)];have:=z19 (u.alloc (.cells cn' 124)) (.cells #[D' C,D' u.heap.size, .bool false, .int .i64 0] 128);simpa using this
 obtain⟨t,ak,ao,ap,aq⟩:=F.mk0 q aj (F.below0 J Q) ai (by omega) (fun h=>by have:=O _ h;omega) (fun h=>by have:=O _ h;omega);obtain⟨V,au,_⟩:=S.pushA Y ab (hb.trans (Q.mono ah)) M t (by rw[ak];exact ad) ao (fun z hk=>S.Yn (by
  rcases aq z hk with rfl|rfl|h
  ·omega
  ·omega
  ·exact ac z h))
 refine⟨⟨A,_,_,G,k,_,_,V,V.bnd,?_,?_⟩,au⟩
 ·intro av hu;rcases z61.1 hu with h|h
  ·exact Z av h
  ·rw[z51]at h;subst h;exact ap
 ·exact aa
theorem wW' {K:cF'} (H:iW' K) (B D n:Nat) (A:Nat->Nat->Prop) (w:World) (G:Nat) (I ao ap:Value) (hs:List Nat) (F Z:List ax') (aJ i:Int) (s:z10) (kp aK aL aM aN:Int) (aO:z10)
  (S:Qs B n A w G I ao ap hs F Z) (aq:fX' D G I ao ap (F++Z)) (au:∀t∈F,K.A n t) (av:∀t∈Z,K.S n t) (aP:F.length < 6):
  Calls prog 50 #[D' G,ap' 3 aJ i s kp aK aL aM aN aO] w fun r w'=>r= .returned (.bool true)/\Ji K B w'.heap.size n w' G/\Far (fun k=>B<=k/\k < D) w w':=by
 have J:=m' S;have aQ:=m' aq;have aR:=m' au;have aS:=m' av;have aT:=z14 S.wat.blk;clear S aq au av;unfold D' ap';go_enter func50,ntmps50;go_upto_region 2 with fail;refine G' (fun x=>Below w.heap.size w x) ((z11 _ _).alloc (z13 _) _) ?_;intro bi ax;have M:=m' ax;clear ax;obtain⟨O,Q⟩:=exq (⟨(List.replicate 1664 0).toArray⟩:z10);have ay:∀x,Hid (Calls prog 84 #[.int .i64 1664] x fun r w'=>r= .returned (.string O)/\Below x.heap.size x w'):=fun x=>by rw[Q];exact m' (qI' 1664 (by omega) x)
 have az:O.size<=140737488355328:=by rw[Q];simp[ByteArray.size]
 have aA:Hid (O.data.toList=List.replicate 1664 0):=by rw[Q];show _= _;simp
 clear Q;go_wp2_with (go_at_call 84;refine(d' (ay _)).mono ?_;rintro bj aU ⟨rfl,aa⟩;obtain⟨aV,bk,aW,ab,aB⟩:=ko' aU O az;rw[d' aA]at ab;have aC:=m' ab;have V:=m' (((d' M).trans (aa.mono (d' M).size)).trans (aB.mono (z26 (d' M).size aa.size)));clear ab aa aB);refine(H.open0 aV (d' aC)).mono ?_;rintro bl aX ⟨sv,U,rfl,aD,aE,aF⟩;have aG:=m' ((d' V).trans (aE.mono (d' V).size));have aY:Hid (∀k,U k->w.heap.size<=k):=fun k hk=>z26 (d' V).size (aF k hk);have aH:Hid (H.At0 aX sv U):=aD;clear aD aE aF aC V aW M ay az aA;unfold D';go_upto_region 5 with fail;refine G' (fun x=>Below w.heap.size w x/\H.At0 x sv U) ⟨d' aG,d' aH⟩ ?_;clear aG aH;rintro z ⟨b3,ac⟩;have ad:Far (fun _=>False) w z:=C' b3;have aZ:=m' (z53 (z53 (z53 (w:=z) (ad.own (d' J).Yh (fun _ _ h=>h)) (.cells cn' 124)) (.cells #[D' sv,D' z.heap.size, .bool false, .int .i64 0] 128)) (.cells #[D' (z.heap.size+1)] 115));have Y:=ad.blk (d' J).wat.blk (fun h=>h);have c1:=y' (i:=0) Y;have f1:=H' (i:=0) Y;simp at c1;have bm:=m' b3;have bn:=m' ac;have ba:=m' Y;have bb:=m' (fun(k:Nat) (hk:k < z.heap.size)=>((z25 ((z.alloc (.cells cn' 124)).alloc (.cells #[D' sv,D' z.heap.size, .bool false, .int .i64 0] 128)) (.cells #[D' (z.heap.size+1)] 115) k (by simp;omega)).trans ((z25 (z.alloc (.cells cn' 124)) (.cells #[D' sv,D' z.heap.size, .bool false, .int .i64 0] 128) k (by simp;omega)).trans (z25 z (.cells cn' 124) k hk))));have bc:Hid (z.heap.size<=(((z.alloc (.cells cn' 124)).alloc (.cells #[D' sv,D' z.heap.size, .bool false, .int .i64 0] 128)).alloc (.cells #[D' (z.heap.size+1)] 115)).heap.size):=by show _<= _;simp;omega
 have bd:Hid ((((z.alloc (.cells cn' 124)).alloc (.cells #[D' sv,D' z.heap.size, .bool false, .int .i64 0] 128)).alloc (.cells #[D' (z.heap.size+1)] 115)).cell? ⟨z.heap.size+1+1,0,none⟩=some (D' (z.heap.size+1))):=by show _= _;have:=y' (i:=0) (z19 ((z.alloc (.cells cn' 124)).alloc (.cells #[D' sv,D' z.heap.size, .bool false, .int .i64 0] 128)) (.cells #[D' (z.heap.size+1)] 115));simpa using this
 have be:=fun w1 v1 h1 h2=>m' (oO' H (w1:=w1) (v1:=v1) (d' J) (d' aQ) (d' aR) (d' aS) aP b3 ac (d' aY) h1 h2);have bf:=m' (fun(e:I.ownBlock=some G)=>((d' J).asu G e).2.1 (.inl rfl));have bo:=z20 aT b3.size;clear b3 ac ad Y;unfold cn' D' at *;go_upto_region 6 with (at_builtin;(refine bV' rfl (.tmp 28) (.tmp 34) 79 rfl 115 (.pointer none) 8 underlying79 wV' rfl I (F.map fun ah=> .pointer (some ⟨ah.q,0,none⟩)) (by rw[z43];exact d' aZ) rfl ⟨z.heap.size+1+1,0,none⟩ (.pointer (some ⟨z.heap.size+1,0,none⟩)) rfl (d' bd) rfl (by rw[z43];omega) (by rw[z43];omega) ?_;intro v1 w1 ai bg aj;have bh:=m' (d' (be w1 v1 aj ai));obtain⟨g1,bp,aI⟩:=aJ' ai (by simp);rw[show(F.map (fun ah=>Value.pointer (some ⟨ah.q,0,none⟩))++[Value.pointer (some ⟨z.heap.size+1,0,none⟩)]).length=F.length+1 by simp]at aI;have ak:=cv' aj (d' bb) (d' bc) (d' ba) (d' bf);subst aI;have bq:=y' (i:=0) ak;have f11:=H' (i:=0) ak;clear ak ai bg aj));go_wp2;go_ret;exact⟨rfl,d' bh⟩
theorem qP' {K:cF'} (ai:iW' K) (B D n:Nat) (w:World) (F:Nat) (J i:Int) (s:z10) (kp M O Q V:Int) (Y:z10) (S:Ji K B D n w F):
  Calls prog 48 #[D' F,ap' 3 J i s kp M O Q V Y] w fun r w'=>r= .returned (.bool true)/\Ji K B w'.heap.size n w' F/\Far (fun k=>B<=k/\k < D) w w':=by
 obtain⟨A,Z,aa,ab,hs,G,ac,S,aj,ad,ah⟩:=S;have hb:∀z,Below w.heap.size w (w.alloc z):=fun z=>(z11 _ _).alloc (z13 _) z;have H:=fun z=>S.below (hb z);have c1:=y' (i:=0) S.wat.blk;simp at c1;obtain⟨ax,cap,I,hl,_,_⟩:=bc' S.Yh;rw[z43]at I hl;have ay:=z14 S.wat.blk;have az:=m' S.bx;by_cases ak:G.length < 6
 ·have ao:=fun z=>m' (wW' ai B D n A (w.alloc z) F Z aa ab hs G ac J i s kp M O Q V Y (H z) aj ad ah ak);have ap:¬ (6:Int)<=G.length:=by omega
  clear S H hb;subst I;unfold D' ap' at *;go_enter func48,ntmps48;go_upto_region 7 with fail;go_wp2_with (go_at_call 50;refine(d' (ao _)).mono ?_;rintro aA aB ⟨rfl,aq,au⟩);go_ret;exact⟨rfl,aq,(C' (E:=fun k=>B<=k/\k < D) ((z11 _ _).alloc (z13 _) _)).trans au (fun _ _ h=>h)⟩
 ·have ap:(6:Int)<=G.length:=by omega
  have av:=fun z=>m' (show Ji K B (w.alloc z).heap.size n (w.alloc z) F from⟨A,Z,aa,ab,hs,G,ac,H z,(H z).bnd,ad,ah⟩);clear S H hb;subst I;unfold D' ap' at *;go_enter func48,ntmps48;go_wp2;go_ret;exact⟨rfl,d' (av _),C' ((z11 _ _).alloc (z13 _) _)⟩
structure iX' (K:cF') where
 At0:World->Nat->(Nat->Prop)->Prop
 lt0:∀ {x v U},At0 x v U->∀k,U k->k < x.heap.size
 below0:∀ {x y v U},At0 x v U->Below x.heap.size x y->At0 y v U
 open0:∀ {x} (bs:Value),Qn x bs (List.replicate 7808 0)->Calls prog 38 #[bs] x fun r w'=>∃v U,r= .returned (.tuple #[D' v, .int .i64 0])/\At0 w' v U/\Below x.heap.size x w'/\∀k,U k->x.heap.size<=k
 mk0:∀ {y q sv rp U} (n:Nat),y.heap[q]? =some (.cells #[D' sv,D' rp, .bool false, .int .i64 0] 134 (0,0))->At0 y sv U->y.heap[rp]? =some (.cells ds' 132 (0,0))->q≠rp->¬U q->¬U rp->
  ∃t:ax',t.q=q/\t.Is y/\K.S n t/\∀k,t.In k->k=q\/k=rp\/U k
theorem oP' {K:cF'} (F:iX' K) {A:Nat->Nat->Prop} {w1:World} {v1:Value} (S:Qs w q A p r c f G k bN bT) (Y:fX' a r c f G (bN++bT)) (Z:∀t∈bN,K.A q t) (aa:∀t∈bT,K.S q t) (ab:bT.length < 6) (hb:Below p.heap.size p u) (J:F.At0 u C D) (ac:∀z,D z->p.heap.size<=z)
  (M:App (((u.alloc (.cells ds' 132)).alloc (.cells #[D' C,D' u.heap.size, .bool false, .int .i64 0] 134)).alloc (.cells #[D' (u.heap.size+1)] 117)) w1 f v1)
  (ad:w1.ownsRow 0 117 1 v1 (bT.map (fun H=>D' H.q)++[D' (u.heap.size+1)]).length (bT.map (fun H=>D' H.q)++[D' (u.heap.size+1)])):
  Ji K w (w1.setCell ⟨r,1,none⟩ v1).heap.size q (w1.setCell ⟨r,1,none⟩ v1) r/\Far (fun z=>w<=z/\z < a) p (w1.setCell ⟨r,1,none⟩ v1):=by
 have ah:=hb.size;have O:=F.lt0 J;generalize I:(((u.alloc (.cells ds' 132)).alloc (.cells #[D' C,D' u.heap.size, .bool false, .int .i64 0] 134)).alloc (.cells #[D' (u.heap.size+1)] 117))=X at M;have Q:Below u.heap.size u X:=by rw[<-I];exact(((z11 _ _).alloc (z13 _) _).alloc (by simp) _).alloc (by simp;omega) _
 have ai:X.heap[u.heap.size]? =some (.cells ds' 132 (0,0)):=by rw[<-I,z25 _ _ _ (by simp;omega),z25 _ _ _ (by simp)];exact z19 u _
 have aj:X.heap[u.heap.size+1]? =some (.cells #[D' C,D' u.heap.size, .bool false, .int .i64 0] 134 (0,0)):=by rw[<-I,z25 _ _ _ (by simp)];have:=z19 (u.alloc (.cells ds' 132)) (.cells #[D' C,D' u.heap.size, .bool false, .int .i64 0] 134);simpa using this
 obtain⟨t,ak,ao,ap,aq⟩:=F.mk0 q aj (F.below0 J Q) ai (by omega) (fun h=>by have:=O _ h;omega) (fun h=>by have:=O _ h;omega);obtain⟨V,au,_⟩:=S.pushS Y ab (hb.trans (Q.mono ah)) M t (by rw[ak];exact ad) ao (fun z hk=>S.Yn (by
  rcases aq z hk with rfl|rfl|h
  ·omega
  ·omega
  ·exact ac z h))
 refine⟨⟨A,_,_,G,k,_,_,V,V.bnd,?_,?_⟩,au⟩
 ·exact Z
 ·intro av hu;rcases z61.1 hu with h|h
  ·exact aa av h
  ·rw[z51]at h;subst h;exact ap
theorem wX' {K:cF'} (H:iX' K) (B D n:Nat) (A:Nat->Nat->Prop) (w:World) (G:Nat) (ao I ap:Value) (hs:List Nat) (Z F:List ax') (aJ i:Int) (s:z10) (kp aK aL aM aN:Int) (aO:z10)
  (S:Qs B n A w G ao I ap hs Z F) (aq:fX' D G ao I ap (Z++F)) (au:∀t∈Z,K.A n t) (av:∀t∈F,K.S n t) (aP:F.length < 6):
  Calls prog 50 #[D' G,ap' 8 aJ i s kp aK aL aM aN aO] w fun r w'=>r= .returned (.bool true)/\Ji K B w'.heap.size n w' G/\Far (fun k=>B<=k/\k < D) w w':=by
 have J:=m' S;have aQ:=m' aq;have aR:=m' au;have aS:=m' av;have aT:=z14 S.wat.blk;clear S aq au av;unfold D' ap';go_enter func50,ntmps50;go_upto_region 7 with fail;refine G' (fun x=>Below w.heap.size w x) ((z11 _ _).alloc (z13 _) _) ?_;intro bi ax;have M:=m' ax;clear ax;obtain⟨O,Q⟩:=exq (⟨(List.replicate 7808 0).toArray⟩:z10);have ay:∀x,Hid (Calls prog 84 #[.int .i64 7808] x fun r w'=>r= .returned (.string O)/\Below x.heap.size x w'):=fun x=>by rw[Q];exact m' (qI' 7808 (by omega) x)
 have az:O.size<=140737488355328:=by rw[Q];simp[ByteArray.size]
 have aA:Hid (O.data.toList=List.replicate 7808 0):=by rw[Q];show _= _;simp
 clear Q;go_wp2_with (go_at_call 84;refine(d' (ay _)).mono ?_;rintro bj aU ⟨rfl,aa⟩;obtain⟨aV,bk,aW,ab,aB⟩:=ko' aU O az;rw[d' aA]at ab;have aC:=m' ab;have V:=m' (((d' M).trans (aa.mono (d' M).size)).trans (aB.mono (z26 (d' M).size aa.size)));clear ab aa aB);refine(H.open0 aV (d' aC)).mono ?_;rintro bl aX ⟨sv,U,rfl,aD,aE,aF⟩;have aG:=m' ((d' V).trans (aE.mono (d' V).size));have aY:Hid (∀k,U k->w.heap.size<=k):=fun k hk=>z26 (d' V).size (aF k hk);have aH:Hid (H.At0 aX sv U):=aD;clear aD aE aF aC V aW M ay az aA;unfold D';go_upto_region 10 with fail;refine G' (fun x=>Below w.heap.size w x/\H.At0 x sv U) ⟨d' aG,d' aH⟩ ?_;clear aG aH;rintro z ⟨b3,ac⟩;have ad:Far (fun _=>False) w z:=C' b3;have aZ:=m' (z53 (z53 (z53 (w:=z) (ad.own (d' J).Yg (fun _ _ h=>h)) (.cells ds' 132)) (.cells #[D' sv,D' z.heap.size, .bool false, .int .i64 0] 134)) (.cells #[D' (z.heap.size+1)] 117));have Y:=ad.blk (d' J).wat.blk (fun h=>h);have c1:=y' (i:=1) Y;have f1:=H' (i:=1) Y;simp at c1;have bm:=m' b3;have bn:=m' ac;have ba:=m' Y;have bb:=m' (fun(k:Nat) (hk:k < z.heap.size)=>((z25 ((z.alloc (.cells ds' 132)).alloc (.cells #[D' sv,D' z.heap.size, .bool false, .int .i64 0] 134)) (.cells #[D' (z.heap.size+1)] 117) k (by simp;omega)).trans ((z25 (z.alloc (.cells ds' 132)) (.cells #[D' sv,D' z.heap.size, .bool false, .int .i64 0] 134) k (by simp;omega)).trans (z25 z (.cells ds' 132) k hk))));have bc:Hid (z.heap.size<=(((z.alloc (.cells ds' 132)).alloc (.cells #[D' sv,D' z.heap.size, .bool false, .int .i64 0] 134)).alloc (.cells #[D' (z.heap.size+1)] 117)).heap.size):=by show _<= _;simp;omega
 have bd:Hid ((((z.alloc (.cells ds' 132)).alloc (.cells #[D' sv,D' z.heap.size, .bool false, .int .i64 0] 134)).alloc (.cells #[D' (z.heap.size+1)] 117)).cell? ⟨z.heap.size+1+1,0,none⟩=some (D' (z.heap.size+1))):=by show _= _;have:=y' (i:=0) (z19 ((z.alloc (.cells ds' 132)).alloc (.cells #[D' sv,D' z.heap.size, .bool false, .int .i64 0] 134)) (.cells #[D' (z.heap.size+1)] 117));simpa using this
 have be:=fun w1 v1 h1 h2=>m' (oP' H (w1:=w1) (v1:=v1) (d' J) (d' aQ) (d' aR) (d' aS) aP b3 ac (d' aY) h1 h2);have bf:=m' (fun(e:I.ownBlock=some G)=>((d' J).ssu G e).2 (.inl rfl));have bo:=z20 aT b3.size;clear b3 ac ad Y;unfold ds' D' at *;go_upto_region 11 with (at_builtin;(refine bV' rfl (.tmp 54) (.tmp 60) 80 rfl 117 (.pointer none) 8 underlying80 wR' rfl I (F.map fun ah=> .pointer (some ⟨ah.q,0,none⟩)) (by rw[z43];exact d' aZ) rfl ⟨z.heap.size+1+1,0,none⟩ (.pointer (some ⟨z.heap.size+1,0,none⟩)) rfl (d' bd) rfl (by rw[z43];omega) (by rw[z43];omega) ?_;intro v1 w1 ai bg aj;have bh:=m' (d' (be w1 v1 aj ai));obtain⟨g1,bp,aI⟩:=aJ' ai (by simp);rw[show(F.map (fun ah=>Value.pointer (some ⟨ah.q,0,none⟩))++[Value.pointer (some ⟨z.heap.size+1,0,none⟩)]).length=F.length+1 by simp]at aI;have ak:=cv' aj (d' bb) (d' bc) (d' ba) (d' bf);subst aI;have bq:=y' (i:=1) ak;have f11:=H' (i:=1) ak;clear ak ai bg aj));go_wp2;go_ret;exact⟨rfl,d' bh⟩
theorem qQ' {K:cF'} (ai:iX' K) (B D n:Nat) (w:World) (F:Nat) (J i:Int) (s:z10) (kp M O Q V:Int) (Y:z10) (S:Ji K B D n w F):
  Calls prog 48 #[D' F,ap' 8 J i s kp M O Q V Y] w fun r w'=>r= .returned (.bool true)/\Ji K B w'.heap.size n w' F/\Far (fun k=>B<=k/\k < D) w w':=by
 obtain⟨A,Z,aa,ab,hs,ac,G,S,aj,ad,ah⟩:=S;have hb:∀z,Below w.heap.size w (w.alloc z):=fun z=>(z11 _ _).alloc (z13 _) z;have H:=fun z=>S.below (hb z);have c1:=y' (i:=1) S.wat.blk;simp at c1;obtain⟨ax,cap,I,hl,_,_⟩:=bc' S.Yg;rw[z43]at I hl;have ay:=z14 S.wat.blk;have az:=m' S.bx;by_cases ak:G.length < 6
 ·have ao:=fun z=>m' (wX' ai B D n A (w.alloc z) F Z aa ab hs ac G J i s kp M O Q V Y (H z) aj ad ah ak);have ap:¬ (6:Int)<=G.length:=by omega
  clear S H hb;subst I;unfold D' ap' at *;go_enter func48,ntmps48;go_upto_region 9 with fail;go_wp2_with (go_at_call 50;refine(d' (ao _)).mono ?_;rintro aA aB ⟨rfl,aq,au⟩);go_ret;exact⟨rfl,aq,(C' (E:=fun k=>B<=k/\k < D) ((z11 _ _).alloc (z13 _) _)).trans au (fun _ _ h=>h)⟩
 ·have ap:(6:Int)<=G.length:=by omega
  have av:=fun z=>m' (show Ji K B (w.alloc z).heap.size n (w.alloc z) F from⟨A,Z,aa,ab,hs,ac,G,H z,(H z).bnd,ad,ah⟩);clear S H hb;subst I;unfold D' ap' at *;go_enter func48,ntmps48;go_wp2;go_ret;exact⟨rfl,d' (av _),C' ((z11 _ _).alloc (z13 _) _)⟩
structure Xm (B N:Nat) (A:Nat->Nat->Prop) (w x:World) (wb:Nat) (asv ssv hv0 hv:Value) (hs:List Nat) (la ls:List ax'):Prop where
 S:Qs B N A x wb asv ssv hv hs la ls
 loc:Loc w hv0 hv
 far:Far (Us wb hv0) w x
section
variable {B N:Nat} {A:Nat->Nat->Prop} {w x y:World} {wb:Nat} {asv ssv hv0 hv:Value} {hs:List Nat} {la ls:List ax'}
theorem Xm.start (S:Qs B N A w wb asv ssv hv hs la ls):Xm B N A w w wb asv ssv hv hv hs la ls:=⟨S, .inr (.inl rfl),Far.refl _ _⟩
theorem Xm.below (R:Xm B N A w x wb asv ssv hv0 hv hs la ls) (hb:Below x.heap.size x y):Xm B N A w y wb asv ssv hv0 hv hs la ls:=
 ⟨R.S.below hb,R.loc,R.far.trans (C' (E:=fun _=>False) hb) (fun _ _ h=>h.elim)⟩
theorem Xm.Yn (R:Xm B N A w x wb asv ssv hv0 hv hs la ls) {k:Nat} (hk:x.heap.size<=k):gs' A wb asv ssv hv (la++ls) k:=
 ⟨R.S.noneOf hk,fun o h=>by have:=(R.S.a2 k o h).1;omega⟩
theorem Xm.usOld (R:Xm B N A w x wb asv ssv hv0 hv hs la ls) {k:Nat} (hk:k < w.heap.size) (h:Us wb hv k):Us wb hv0 k:=by
 rcases h with h|h
 ·exact .inl h
 ·rcases R.loc with z|z|⟨g',z,F⟩
  ·rw[z]at h;cases h
  ·exact .inr (z ▸ h)
  ·rw[z]at h;injection h with h;omega
theorem Xm.keep (R:Xm B N A w x wb asv ssv hv0 hv hs la ls) (z F fv:Value) (I J:List Value) (l:List UInt8) (ah:x.ownsRow 0 9 1 z I.length I) (ai:x.ownsRow 0 5 1 F l.length (bv l)) (aj:x.ownsRow 0 44 1 fv J.length J)
  (M:∀g,(z.ownBlock=some g\/F.ownBlock=some g\/fv.ownBlock=some g)->gs' A wb asv ssv hv (la++ls) g/\w.heap.size<=g) (aB:N+4<=17592186044416) (ak:l.length<=140737488353990) (z3:I.length<=900) (z4:J.length<=900):
  Calls prog 76 #[D' wb,D' x.heap.size] (x.alloc (.cells #[z,F,fv, .int .i64 0, .string ⟨#[]⟩, .string ⟨#[]⟩] 110)) fun r y=>r= .returned (.tuple #[])/\
   ∃V G O,Xm B (N+4) V w y wb asv ssv hv0 G O la ls/\Far (fun k=>(z.ownBlock=some k\/F.ownBlock=some k\/fv.ownBlock=some k)\/Us wb hv k) x y/\
    ∀k,gs' A wb asv ssv hv (la++ls) k->k < x.heap.size->¬ (z.ownBlock=some k\/F.ownBlock=some k\/fv.ownBlock=some k)->gs' V wb asv ssv G (la++ls) k:=by
 have Y:Below x.heap.size x (x.alloc (.cells #[z,F,fv, .int .i64 0, .string ⟨#[]⟩, .string ⟨#[]⟩] 110)):=(z11 _ _).alloc (z13 _) _;have Q:=R.S.below Y;have aC:=R.S.hn;have ao:lr' wb asv ssv hv (la++ls) x.heap.size:=R.S.noneOf (z13 _);refine(cQ' A _ wb x.heap.size asv ssv hv z F fv hs I J l Q.wat (z19 x _) (z53 ah _) (z53 ai _) (z53 aj _) (fun b o hb=>⟨(Q.a2 b o hb).1,?_⟩) (by omega) ak z3 z4).mono ?_
 ·rintro(e|e|e)
  ·have:=(R.S.a2 b o hb).1;omega
  ·exact(M b e).1.2 o hb
  ·exact(R.S.a2 b o hb).2.1 e
 rintro r Z ⟨rfl,G,O,aD,W,ap,L⟩;have aq:∀k,(k=x.heap.size\/z.ownBlock=some k\/F.ownBlock=some k\/fv.ownBlock=some k)->lr' wb asv ssv hv (la++ls) k:=by
  rintro k (rfl|h)
  ·exact ao
  ·exact(M k h).1.1
 have aa:Far (fun k=>(k=x.heap.size\/z.ownBlock=some k\/F.ownBlock=some k\/fv.ownBlock=some k)\/Us wb hv k) (x.alloc (.cells #[z,F,fv, .int .i64 0, .string ⟨#[]⟩, .string ⟨#[]⟩] 110)) Z:=ap.mono (by
  rintro k _ (h|h|h)
  ·exact .inl (.inl h)
  ·exact .inl (.inr h)
  ·exact .inr h)
 have au:=Q.keep (N:=N+4) aq aa L (by omega) (W.mono (fun b o ⟨h1,h2⟩=>⟨h1,by
  rcases h2 with h|h|h|h
  ·exact .inl h
  ·exact .inr (.inl (.inl h))
  ·exact .inr (.inl (.inr h))
  ·exact .inr (.inr h)⟩))
 have aE:x.heap.size < (x.alloc (.cells #[z,F,fv, .int .i64 0, .string ⟨#[]⟩, .string ⟨#[]⟩] 110)).heap.size:=by simp
 have ab:Far (fun k=>(z.ownBlock=some k\/F.ownBlock=some k\/fv.ownBlock=some k)\/Us wb hv k) x Z:=(C' (E:=fun k=>(z.ownBlock=some k\/F.ownBlock=some k\/fv.ownBlock=some k)\/Us wb hv k) Y).trans aa (by
  rintro k hk ((h|h)|h)
  ·omega
  ·exact .inl h
  ·exact .inr h)
 have ac:Loc x hv G:=by
  rcases L with h|h|⟨g,h,aF⟩
  ·exact .inl h
  ·exact .inr (.inl h)
  ·exact .inr (.inr ⟨g,h,by omega⟩)
 refine⟨rfl,_,G,O,⟨au,cg' R.loc ac R.far.size,R.far.trans ab ?_⟩,ab,?_⟩
 ·rintro k hk (h|h)
  ·have:=(M k h).2;omega
  ·exact R.usOld hk h
 ·rintro k ⟨⟨ad,av,ax,ay⟩,az⟩ hk aA;refine⟨⟨fun h=>?_,av,ax,ay⟩,?_⟩
  ·rcases h with h|h
   ·exact ad (.inl h)
   ·rcases ac with H|H|⟨g',H,aG⟩
    ·rw[H]at h;cases h
    ·exact ad (.inr (H ▸ h))
    ·rw[H]at h;injection h with h;omega
  ·rintro o ⟨_,h|h|h⟩
   ·exact az o h
   ·rcases h with h|h
    ·omega
    ·exact aA h
   ·omega
end
variable{Q:Nat -> Nat}{y:Mq.Ag}{V:Nat -> List Nat}{cK:z10×Nat}
theorem vd' (z:Js y w Q k R V) (hi:a < 3) (hk:(y.fl a).kept[q]? =some cK) (O:r≠0):
  Js {y with fl:=Mq.upd y.fl a {y.fl a with kept:=(y.fl a).kept.set q (cK.1,r)}} w Q k (fun j=>if j=a * 3+1 then br' (R (a * 3+1)) ((y.fl a).base+1+q) (eT' r)else R j) V:=by
 obtain⟨f2,F⟩:=exq (({y.fl a with kept:=(y.fl a).kept.set q (cK.1,r)}:Mq.Jl));have hb:f2.base=(y.fl a).base:=by rw[F]
 have Y:f2.held=(y.fl a).held:=by rw[F]
 have H:f2.kept=(y.fl a).kept.set q (cK.1,r):=by rw[F]
 have hl:f2.kept.length=(y.fl a).kept.length:=by rw[H];simp
 have M:q < (y.fl a).kept.length:=(z28.1 hk).1;rw[<-F];clear F;have G:∀j,Mq.upd y.fl a f2 j=if j=a then f2 else y.fl j:=fun j=>rfl
 refine⟨z.ep,fun j hj=>?_,fun j hj=>?_,fun j hj=>?_,fun j hj n=>?_,fun j hj=>?_,fun j hj n=>?_,fun j hj=>?_,fun j hj=>?_,z.nd,z.lt,?_⟩
 ·show Q j=(Mq.upd y.fl a f2 j).base;rw[G];by_cases e:j=a
  ·rw[if_pos e,hb,e];exact z.bs a hi
  ·rw[if_neg e];exact z.bs j hj
 ·show(V j).length=(Mq.upd y.fl a f2 j).kept.length;rw[G];by_cases e:j=a
  ·rw[if_pos e,hl,e];exact z.pn a hi
  ·rw[if_neg e];exact z.pn j hj
 ·show(if j * 3=a * 3+1 then _ else R (j * 3))=aD' (Mq.upd y.fl a f2 j).base (Mq.upd y.fl a f2 j).kept (V j);rw[if_neg (by omega),G];by_cases e:j=a
  ·rw[if_pos e,hb,e,z.kp a hi];refine fg' _ _ _ _ ?_;rw[H,List.map_set];refine(z94 fun n=>?_).symm;rw[z99];by_cases I:q=n
   ·subst I;rw[if_pos rfl,if_pos (by simpa using M),z70,hk];rfl
   ·rw[if_neg I]
  ·rw[if_neg e];exact z.kp j hj
 ·show al' (if j * 3+1=a * 3+1 then _ else R (j * 3+1)) _=dd' (Mq.upd y.fl a f2 j) n;rw[G];by_cases e:j=a
  ·subst e;rw[if_pos rfl,if_pos rfl,gk'];have h0:=z.sn j hj n;unfold jV';by_cases I:n=(y.fl j).base+1+q
   ·rw[if_pos (by omega)];unfold dd';rw[if_neg (by omega),hb,H,show n - (y.fl j).base - 1=q by omega,z99,if_pos rfl,if_pos M];show _=if r=0 then none else some (eT' r)
    rw[if_neg O]
   ·rw[if_neg (by omega),h0];unfold dd';rw[hb];by_cases hn:n<=(y.fl j).base
    ·rw[if_pos hn,if_pos hn]
    ·rw[if_neg hn,if_neg hn,H,z99,if_neg (by omega)]
  ·rw[if_neg (by omega),if_neg e];exact z.sn j hj n
 ·show lk' (if j * 3+1=a * 3+1 then _ else R (j * 3+1));by_cases e:j=a
  ·subst e;rw[if_pos rfl];intro Z J;rcases hY' J with rfl|J
   ·exact⟨r,rfl⟩
   ·exact z.si j hj Z J
  ·rw[if_neg (by omega)];exact z.si j hj
 ·show(al' (if j * 3+2=a * 3+1 then _ else R (j * 3+2)) _).isSome=(Mq.upd y.fl a f2 j).held.contains n;rw[if_neg (by omega),G];by_cases e:j=a
  ·rw[if_pos e,Y,e];exact z.hd a hi n
  ·rw[if_neg e];exact z.hd j hj n
 ·show oD' (if j * 3+2=a * 3+1 then _ else R (j * 3+2));rw[if_neg (by omega)];exact z.hu j hj
 ·show(if j * 3+2=a * 3+1 then _ else R (j * 3+2)).length<=3;rw[if_neg (by omega)];exact z.hl j hj
 ·have h:=z.sum;have h2:=ig' (a:=y) hi f2;omega
section
variable {w x:World} {p:Nat} {g:Nat->Nat} {tk:Nat} {wel fen:Bool} {free:List Nat} {sh sh2:Nat->List (Nat×Value)} {st:Mq.Stv} {c c2:Av}
theorem yo' {i:Nat} {J:List (Nat×Value)} (H:Je w p g tk wel fen free sh st c) (h:cq' w x p (4+i * 2) 151 c.arr (c.nv i) (c.mv i) J)
  (G:Je x p g tk wel fen free sh2 st c2):∀j,j < 9->j≠i->c2.nv j=c.nv j/\c2.mv j=c.mv j:=by
 obtain⟨⟨nv',mv',S,_,_⟩,_⟩:=h;have hb:=S.blk;rw[G.ks.blk]at hb;injection hb with hb;injection hb with hb _ _;intro j hj M;have I:∀q,q≠4+i * 2->q≠4+i * 2+1->c2.arr[q]? =c.arr[q]? :=fun q h1 h2=>by rw[hb,z16 (by omega),z16 (by omega)]
 have z:=G.ks.an j hj;have F:=G.ks.am j hj;rw[I _ (by omega) (by omega),H.ks.an j hj]at z;rw[I _ (by omega) (by omega),H.ks.am j hj]at F;exact⟨by injection z with z;exact z.symm,by injection F with F;exact F.symm⟩
end
section
variable {w:World} {p:Nat} {g:Nat->Nat} {free:List Nat} {sh:Nat->List (Nat×Value)} {st:Mq.Stv} {c:Av} {a:Mq.Ag} {pl:Nat->List Nat}
theorem oQ' (n:Nat) (hn:n<=2147483647):Qb.proper 1 n 0 0 ⟨#[]⟩=true:=by
 simp[Qb.proper,Qb.isNum,ByteArray.size];omega
end
def aF' (a:Mq.Ag) (i tk k:Nat):Mq.Ag:={a with fl:=Mq.upd a.fl i {a.fl i with kept:=(Mq.sendTo a.Qa i (a.fl i) tk k).1}}
theorem dZ' (a:Mq.Ag) (i tk k:Nat):(aF' a i tk k).fl i={a.fl i with kept:=(Mq.sendTo a.Qa i (a.fl i) tk k).1}:=by
 unfold aF' Mq.upd;simp
theorem qR' (a:Mq.Ag) (i tk:Nat):aF' a i tk 0=a:=by
 unfold aF';have:Mq.upd a.fl i {a.fl i with kept:=(Mq.sendTo a.Qa i (a.fl i) tk 0).1}=a.fl:=by
  funext t;unfold Mq.upd;split
  ·rename_i e;rw[e];rfl
  ·rfl
 rw[this]
theorem qS' (hk:q < (y.fl w).kept.length) (hd:Mq.due (y.fl w) a q (y.fl w).kept[q].2=false):aF' y w a (q+1)=aF' y w a q:=by
 unfold aF';rw[dC' hk hd]
theorem ly' {tk:Nat} (hk:a < (y.fl w).kept.length):((aF' y w tk a).fl w).kept[a]? =some (y.fl w).kept[a]:=by
 rw[dZ'];show(Mq.sendTo y.Qa w (y.fl w) tk a).1[a]? = _;rw[gI' _ _ _ _ _ _ (z13 _),z18 hk]
theorem td' (a:Mq.Ag) (i tk k:Nat):((aF' a i tk k).fl i).kept.length=(a.fl i).kept.length:=by
 rw[dZ'];exact aI' _ _ _ _ _
theorem te' (a:Mq.Ag) (i tk k t j s:Nat):Mq.due ((aF' a i tk k).fl i) t j s=Mq.due (a.fl i) t j s:=by
 rw[dZ'];rfl
theorem jJ' (a:Mq.Ag) (i tk k:Nat):((aF' a i tk k).fl i).base=(a.fl i).base:=by rw[dZ']
theorem qT' (F:Js (aF' y a q r) w Q k R V) (hi:a < 3) (hk:r < (y.fl a).kept.length) (hd:Mq.due (y.fl a) q r (y.fl a).kept[r].2=true) (G:q≠0):
  Js (aF' y a q (r+1)) w Q k (fun j=>if j=a * 3+1 then br' (R (a * 3+1)) ((y.fl a).base+1+r) (eT' q)else R j) V:=by
 have h:=vd' F hi (ly' (tk:=q) hk) G;rw[jJ']at h;have e:aF' y a q (r+1)={aF' y a q r with fl:=Mq.upd (aF' y a q r).fl a {(aF' y a q r).fl a with kept:=((aF' y a q r).fl a).kept.set r ((y.fl a).kept[r].1,q)}}:=by
  rw[dZ'];unfold aF';rw[dD' hk hd];have:∀ (f:Nat->Mq.Jl) (x z:Mq.Jl),Mq.upd (Mq.upd f a x) a z=Mq.upd f a z:=fun f x z=>by funext t;unfold Mq.upd;split <;> rfl
  simp only[this]
 rw[e];exact h
theorem qU' {i:Nat} (h:a=min 4 (y.fl i).kept.length):aF' y i w 4=aF' y i w a:=by
 unfold aF';rw[ev' (i:=a) (by omega) (by omega)]
def bB' (a:Mq.Ag) (t s:Nat):Mq.Ag:={a with Qf:=t,fl:=Mq.Xe a.Qa t a.fl s}
theorem gp' (a:Mq.Ag) (t s:Nat):(bB' a t s).fl s=a.fl s:=by
 unfold bB' Mq.Xe;simp
theorem qV' (a:Mq.Ag) (t s:Nat):aF' (bB' a t s) s t 4=bB' a t (s+1):=by
 unfold aF';rw[gp'];have:Mq.upd (bB' a t s).fl s {a.fl s with kept:=(Mq.sendTo (bB' a t s).Qa s (a.fl s) t 4).1}=Mq.Xe a.Qa t a.fl (s+1):=by
  funext j;unfold Mq.upd bB' Mq.Xe;simp only
  by_cases e:j=s
  ·subst e;rw[if_pos rfl,if_pos (by omega)]
  ·rw[if_neg e];by_cases h:j < s
   ·rw[if_pos h,if_pos (by omega)]
   ·rw[if_neg h,if_neg (by omega)]
 rw[this];rfl
theorem qW' (a:Mq.Ag) (t:Nat):bB' a t 0={a with Qf:=t}:=by
 unfold bB';have:Mq.Xe a.Qa t a.fl 0=a.fl:=by funext j;unfold Mq.Xe;rw[if_neg (by omega)]
 rw[this]
theorem nB' (z:y.fenced=false) (F:y.Qd=true):y.tick=(bB' y (y.Qf+1) 3,Mq.Zl y.Qa (y.Qf+1) y.fl 3):=by
 unfold Mq.Ag.tick;rw[if_neg (by rw[z];decide),if_neg (by rw[F];decide)];rfl
variable{t:List Value}
theorem Qh.apartU {U':Nat->Prop} (h:Qh w p c t T D) (z:∀k,(c.ownBlock=some k\/Zc t t.length k)->¬U' k):Qh w p c t T U':=
 ⟨h.len,h.row,h.each,h.apart,z⟩
structure Zg (w:World) (g0 p i:Nat) (c:Av) (st:Mq.Stv) (g:Nat->Nat) (free:List Nat) (pl:Nat->List Nat) (F:List z10) (A:Mq.Ag) (W:World):Prop where
 h0:W.heap[g0]? =some (.cells #[.pointer (some ⟨p,0,none⟩)] 88 (0,0))
 h1:W.heap[g0+1]? =some (.cells #[.int .i64 i] 3 (0,0))
 h3:W.heap[g0+3]? =some (.cells #[.pointer (some ⟨p,4+i * 6,none⟩)] 213 (0,0))
 h4:W.heap[g0+4]? =some (.cells #[.pointer (some ⟨p,4+i * 6,none⟩)] 209 (0,0))
 h5:W.heap[g0+5]? =some (.cells #[.int .i64 4] 3 (0,0))
 mid:∃lv fs c' sh,W.heap[g0+2]? =some (.cells #[lv] 38 (0,0))/\Qh (g0+8) W lv fs F (PaU p c')/\Je W p g A.Qf A.Qd A.fenced free sh st c'/\Js A st.Qe g free sh pl/\Far (PaU p c) w W/\
  (∀j,PaU p c' j->PaU p c j\/g0+8<=j)/\c'.s=c.s/\c'.rv=c.rv/\c'.nv (i * 3)=c.nv (i * 3)/\c'.mv (i * 3)=c.mv (i * 3)
 sz:g0+8<=W.heap.size
 lo:∀j,PaU p c j->j < g0
 gw:w.heap.size<=g0
section
variable {w W W':World} {g0 p i:Nat} {c:Av} {st:Mq.Stv} {g:Nat->Nat} {free:List Nat} {pl:Nat->List Nat} {F:List z10} {A:Mq.Ag}
theorem Zg.same2 (h:Zg w g0 p i c st g free pl F A W) (G:qy' (g0+6) W W'):Zg w g0 p i c st g free pl F A W':=by
 obtain⟨lv,O,H,sh,Q,I,V,Y,Z,J,aa,ab,ac,ad⟩:=h.mid;have z:∀k,k≠g0+6->k≠g0+7->W'.heap[k]? =W.heap[k]? :=fun k h1 h2=>G.rest k h1 (by omega);have hF:Far (fun k=>k=g0+6\/k=g0+7) W W':=⟨G.os,G.tape,G.output,by rw[G.size];exact z13 _,fun k _ M=>z k (fun e=>M (.inl e)) (fun e=>M (.inr e))⟩;have ah:∀k,PaU p H k->¬ (k=g0+6\/k=g0+7):=fun k hk e=>by
  rcases J k hk with h1|h1
  ·have:=h.lo k h1;omega
  ·omega
 refine⟨(z _ (by omega) (by omega)).trans h.h0,(z _ (by omega) (by omega)).trans h.h1,(z _ (by omega) (by omega)).trans h.h3,(z _ (by omega) (by omega)).trans h.h4,(z _ (by omega) (by omega)).trans h.h5,
  ⟨lv,O,H,sh,(z _ (by omega) (by omega)).trans Q,I.keep (fun k hk=>?_),V.far hF ah,Y,Z.trans hF (fun k hk e=>by have:=h.gw;omega),J,aa,ab,ac,ad⟩,by rw[G.size];exact h.sz,h.lo,h.gw⟩
 have:=(I.lt k hk).1;exact z k (by omega) (by omega)
theorem Zg.below (h:Zg w g0 p i c st g free pl F A W) (hb:Below W.heap.size W W'):Zg w g0 p i c st g free pl F A W':=by
 obtain⟨lv,H,I,sh,J,G,M,O,Q,V,Y,Z,aa,ab⟩:=h.mid;have ac:=h.sz;have z:∀k,k < W.heap.size->W'.heap[k]? =W.heap[k]? :=fun k hk=>hb.block k hk;exact⟨(z _ (by omega)).trans h.h0,(z _ (by omega)).trans h.h1,(z _ (by omega)).trans h.h3,(z _ (by omega)).trans h.h4,(z _ (by omega)).trans h.h5,
  ⟨lv,H,I,sh,(z _ (by omega)).trans J,G.keep (fun k hk=>z k (G.lt k hk).2),M.below hb,O,Q.trans (C' (E:=PaU p c) hb) (fun _ _ h=>h),V,Y,Z,aa,ab⟩,z26 ac hb.size,h.lo,h.gw⟩
theorem Zg.iter (h:Zg w g0 p i c st g free pl F A W) (hi:i < 3):oC' W (g0+4) p (4+i * 6) 4 (c.nv (i * 3)) (c.mv (i * 3)) (aD' (A.fl i).base (A.fl i).kept (pl i)):=by
 obtain⟨lv,J,M,sh,O,Q,z,I,V,Y,Z,aa,G,H⟩:=h.mid;have hs:=z.ks.shs (i * 3) (by omega);rw[I.kp i hi,G,H]at hs;refine⟨y' h.h4,y' h.h5,?_,?_,hs⟩
 ·rw[y' z.ks.blk,show 4+i * 6=4+i * 3 * 2 by omega,z.ks.an (i * 3) (by omega),G]
 ·rw[y' z.ks.blk,show 4+i * 6+1=4+i * 3 * 2+1 by omega,z.ks.am (i * 3) (by omega),H]
end
section
variable {w W:World} {g0 p i:Nat} {c:Av} {st:Mq.Stv} {g:Nat->Nat} {free:List Nat} {pl:Nat->List Nat} {F:List z10} {a:Mq.Ag} {tk k:Nat}
theorem Zg.put (h:Zg w g0 p i c st g free pl F (aF' a i tk k) W) (hi:i < 3) (hk:k < (a.fl i).kept.length) (hd:Mq.due (a.fl i) tk k (a.fl i).kept[k].2=true) (ac:tk≠0):
  Calls prog 139 #[.pointer (some ⟨p,4+i * 6+2,none⟩), .int .i64 ((a.fl i).base+1+k:Nat), .int .i64 tk] W fun r z=>r= .returned (.tuple #[])/\Zg w g0 p i c st g free pl F (aF' a i tk (k+1)) z/\z.heap[g0+6]? =W.heap[g0+6]? /\z.heap[g0+7]? =W.heap[g0+7]? /\W.heap.size<=z.heap.size/\∀ (j:Nat) (V:Array Value),W.heap[j]? =some (Obj.cells V 158 (0,0))->z.heap[j]? =W.heap[j]? :=by
 obtain⟨lv,ad,M,sh,ah,I,J,O,ai,Q,aj,ak,ao,ap⟩:=h.mid;have aq:(sh (i * 3+1)).length < 1000:=by have h1:=sQ' (J.ks.shs (i * 3+1) (by omega)).sorted (O.sn i hi);have h2:=oE' (a:=aF' a i tk k) hi;have h3:=O.sum;omega
 have Y:=wM' (J.shAt (i:=i * 3+1) (by omega)) aq ((a.fl i).base+1+k) tk;rw[show 4+(i * 3+1) * 2=4+i * 6+2 by omega]at Y;refine Y.mono ?_;rintro r z ⟨rfl,hst⟩;refine⟨rfl,?_⟩;rw[show 4+i * 6+2=4+(i * 3+1) * 2 by omega]at hst;obtain⟨c4,Z,H,aa,v1,au⟩:=cS' J (by omega) hst;have ab:=yo' J hst Z (i * 3) (by omega) (by omega);have aA:∀k,(k=p\/ShU (M.nv (i * 3+1)) (M.mv (i * 3+1)) k)->PaU p M k:=fun k hk=>hk.elim (fun h=> .inl (.inl h)) (fun h=> .inl (.inr (.inr ⟨i * 3+1,by omega,h⟩)));have av:=h.sz;have ax:∀j,g0<=j->j < g0+8->¬PaU p M j:=fun j h1 h2 hu=>by
  rcases Q j hu with h3|h3
  ·have:=h.lo j h3;omega
  ·omega
 have G:∀j,g0<=j->j < g0+8->z.heap[j]? =W.heap[j]? :=fun j h1 h2=>H.rest j (by omega) (ax j h1 h2);have ay:=qT' O hi hk hd ac;have az:=(I.keep (x:=z) (fun j hj=>H.rest j (I.lt j hj).2 (I.clear j hj))).apartU (U':=PaU p c4) (fun j hj hu=>by
  rcases aa j hu with h3|h3
  ·exact I.clear j hj h3
  ·have:=(I.lt j hj).2;omega)
 refine⟨?_,G _ (by omega) (by omega),G _ (by omega) (by omega),H.size,fun j V hj=>H.rest j (z14 hj) (dc' J hj (by decide) (by decide) (by decide) (by decide) (by decide) (by decide) (by decide))⟩;refine⟨(G _ (by omega) (by omega)).trans h.h0,(G _ (by omega) (by omega)).trans h.h1,(G _ (by omega) (by omega)).trans h.h3,(G _ (by omega) (by omega)).trans h.h4,(G _ (by omega) (by omega)).trans h.h5,
  ⟨lv,ad,c4,_,(G _ (by omega) (by omega)).trans ah,az,Z,ay,ai.trans H (fun j hj hu=>(Q j hu).elim id (fun h3=>by have:=h.gw;omega)),fun j hu=>?_,v1.trans aj,au.trans ak,ab.1.trans ao,ab.2.trans ap⟩,z26 av H.size,h.lo,h.gw⟩
 rcases aa j hu with h3|h3
 ·exact Q j h3
 ·exact .inr (by omega)
end
theorem gU' (e s:Nat) (f:Mq.Jl) (t:Nat):∀k,(Mq.sendTo e s f t k).1.map (·.1)=f.kept.map (·.1)
 |0=>rfl
 |k+1=>by
  have ih:=gU' e s f t k;by_cases h:k < f.kept.length
  ·cases hd:Mq.due f t k f.kept[k].2 with
   |false=>rw[dC' h hd];exact ih
   |true=>
    rw[dD' h hd];simp only[List.map_set,ih];refine z94 fun n=>?_;rw[z99];by_cases z:k=n
    ·subst z;rw[if_pos rfl,if_pos (by simpa using h),z70,z18 h];rfl
    ·rw[if_neg z]
  ·rw[bi' (by omega)];exact ih
def bU' (a:Mq.Ag) (i tk k:Nat):List z10:=(Mq.sendTo a.Qa i (a.fl i) tk k).2.map fun l=>⟨l.toArray⟩
theorem qX' (hk:q < (y.fl w).kept.length) (hd:Mq.due (y.fl w) a q (y.fl w).kept[q].2=true):bU' y w a (q+1)=bU' y w a q++[⟨(Qb.bytes 3 y.Qa w ((y.fl w).base+1+q:Nat) (y.fl w).kept[q].1.data.toList).toArray⟩]:=by
 unfold bU';rw[dD' hk hd];simp
theorem qY' (hk:q < (y.fl w).kept.length) (hd:Mq.due (y.fl w) a q (y.fl w).kept[q].2=false):bU' y w a (q+1)=bU' y w a q:=by
 unfold bU';rw[dC' hk hd]
theorem qZ' (h:q=min 4 (y.fl w).kept.length):bU' y w a 4=bU' y w a q:=by
 unfold bU';rw[ev' (i:=q) (by omega) (by omega)]
section
variable {w W:World} {g0 p i:Nat} {c:Av} {st:Mq.Stv} {g:Nat->Nat} {free:List Nat} {sh:Nat->List (Nat×Value)} {pl:Nat->List Nat} {F:List z10} {a:Mq.Ag} {tk k:Nat}
theorem Zg.iterK (h:Zg w g0 p i c st g free pl F (aF' a i tk k) W) (hi:i < 3):oC' W (g0+4) p (4+i * 6) 4 (c.nv (i * 3)) (c.mv (i * 3)) (aD' (a.fl i).base (a.fl i).kept (pl i)):=by
 have:=h.iter hi;rw[dZ']at this;rw[fg' (a.fl i).base (a.fl i).kept (Mq.sendTo a.Qa i (a.fl i) tk k).1 (pl i) (gU' _ _ _ _ _).symm];exact this
theorem ra' (z:Je w p g a.Qf a.Qd a.fenced free sh st c) (H:Js a st.Qe g free sh pl) (I:g0=w.heap.size) (hb:Below g0 w W)
  (h0:W.heap[g0]? =some (.cells #[.pointer (some ⟨p,0,none⟩)] 88 (0,0)))
  (h1:W.heap[g0+1]? =some (.cells #[.int .i64 i] 3 (0,0)))
  (h2:W.heap[g0+2]? =some (.cells #[.slice none 0 0] 38 (0,0)))
  (h3:W.heap[g0+3]? =some (.cells #[.pointer (some ⟨p,4+i * 6,none⟩)] 213 (0,0)))
  (h4:W.heap[g0+4]? =some (.cells #[.pointer (some ⟨p,4+i * 6,none⟩)] 209 (0,0)))
  (h5:W.heap[g0+5]? =some (.cells #[.int .i64 4] 3 (0,0))) (J:g0+8<=W.heap.size):
  Zg w g0 p i c st g free pl (bU' a i tk 0) (aF' a i tk 0) W:=by
 have G:Below w.heap.size w W:=by rw[<-I];exact hb
 rw[qR'];refine⟨h0,h1,h3,h4,h5,⟨_,[],c,sh,h2,⟨rfl,z27 _ _ _ _,(fun j v hj=>by simp at hj),(fun i j u v hi=>by simp at hi),fun k hk=>?_⟩,z.below G,H,C' G,fun j hj=> .inl hj,rfl,rfl,rfl,rfl⟩,J,fun j hj=>by have:=z.lt j hj;omega,by omega⟩;rcases hk with h|⟨j,hj,_⟩
 ·cases h
 ·simp at hj
end
section
variable {w W z:World} {g0 p i:Nat} {c c':Av} {st:Mq.Stv} {g:Nat->Nat} {free:List Nat} {sh:Nat->List (Nat×Value)} {pl:Nat->List Nat} {F:List z10} {A:Mq.Ag} {lv lv' v:Value} {fs:List Value} {b:z10}
theorem ve' (h:Zg w g0 p i c st g free pl F A W) (aq:W.heap[g0+2]? =some (.cells #[lv] 38 (0,0))) (G:Qh (g0+8) W lv fs F (PaU p c')) (Q:Je W p g A.Qf A.Qd A.fenced free sh st c') (au:Js A st.Qe g free sh pl) (av:Far (PaU p c) w W)
  (ai:∀j,PaU p c' j->PaU p c j\/g0+8<=j) (ax:c'.s=c.s) (ay:c'.rv=c.rv) (az:c'.nv (i * 3)=c.nv (i * 3)) (aA:c'.mv (i * 3)=c.mv (i * 3))
  (hF:Far (fun k=>lv.ownBlock=some k) W z) (aj:Qt W.heap.size z v b.data.toList) (ak:z.ownsRow (g0+8) 44 1 lv' (fs.length+1) (fs++[v])) (hl:∀k,lv'.ownBlock=some k->lv.ownBlock=some k\/W.heap.size<=k):
  Zg w g0 p i c st g free pl (F++[b]) A (z.setCell ⟨g0+2,0,none⟩ lv'):=by
 have V:=Q' z (g0+2) 0 lv';have ao:=h.sz;have aK:=h.gw;have aL:=hF.size;have Y:∀k,lv.ownBlock=some k->g0+8<=k/\k < W.heap.size:=fun k hk=>G.lt k (.inl hk);have J:Far (fun k=>lv.ownBlock=some k\/k=g0+2) W (z.setCell ⟨g0+2,0,none⟩ lv'):=(hF.mono (fun _ _ h=> .inl h)).trans V (fun _ _ h=> .inr h);have aB:∀k,PaU p c' k->¬ (lv.ownBlock=some k\/k=g0+2):=fun k hk e=>by
  rcases e with e|e
  ·exact G.clear k (.inl e) hk
  ·rcases ai k hk with h1|h1
   ·have:=h.lo k h1;omega
   ·omega
 have M:∀k,k≠g0+2->k < g0+8->(z.setCell ⟨g0+2,0,none⟩ lv').heap[k]? =W.heap[k]? :=fun k h1 h2=>J.rest k (by omega) (fun e=>e.elim (fun e=>by have:=(Y k e).1;omega) (fun e=>h1 e));have aC:=G.len;have O:∀k,v.ownBlock=some k->W.heap.size<=k/\k < z.heap.size:=fun k hk=>z15 aj k hk;have Z:∀ (j:Nat) (u:Value),fs[j]? =some u->∀k,u.ownBlock=some k->g0+8<=k/\k < W.heap.size/\lv.ownBlock≠some k:=fun j u hj k hk=>by have h1:=z15 (G.each j u hj) k hk;exact⟨h1.1,h1.2,aG' (vW' (G.each j u hj)) (vW' G.row) (by decide) hk⟩
 have aD:Qh (g0+8) (z.setCell ⟨g0+2,0,none⟩ lv') lv' (fs++[v]) (F++[b]) (PaU p c'):=by
  refine⟨by simp[aC],?_,fun j u hj=>?_,fun aa ab u1 u2 aE aF aG k ac ad=>?_,fun k hk hu=>?_⟩
  ·have:=L' ak (w':=z.setCell ⟨g0+2,0,none⟩ lv') (fun k hk=>by have:=z15 ak k hk;exact V.rest k this.2 (by omega));simpa using this
  ·by_cases H:j < fs.length
   ·rw[z45 H]at hj;have e:((F++[b]).map fun b=>b.data.toList).getD j []=(F.map fun b=>b.data.toList).getD j []:=(by rw[z17,z17,z96,z45 (by simp;omega)]);rw[e];exact L' (G.each j u hj) (fun k hk=>by obtain⟨h1,h2,h3⟩:=Z j u hj k hk;exact J.rest k h2 (fun e=>e.elim h3 (fun e=>by omega)))
   ·rw[z29 (by omega)]at hj;have ah:j - fs.length=0:=by
     cases hd:j - fs.length with
     |zero=>rfl
     |succ n=>rw[hd]at hj;simp at hj
    rw[ah]at hj;simp at hj;subst hj;have e:((F++[b]).map fun b=>b.data.toList).getD j []=b.data.toList:=(by rw[z17,z96,z29 (by simp;omega)];simp[show j - F.length=0 by omega]);rw[e];refine ak' (L' aj (fun k hk=>?_)) (z26 ao (z13 _));have:=O k hk;exact V.rest k this.2 (by omega)
  ·have ap:∀ (j:Nat) (u:Value),(fs++[v])[j]? =some u->(fs[j]? =some u/\j < fs.length)\/(u=v/\j=fs.length):=fun j u hj=>by
    by_cases H:j < fs.length
    ·rw[z45 H]at hj;exact .inl ⟨hj,H⟩
    ·rw[z29 (by omega)]at hj;cases hd:j - fs.length with
     |zero=>rw[hd]at hj;simp at hj;exact .inr ⟨hj.symm,by omega⟩
     |succ n=>rw[hd]at hj;simp at hj
   rcases ap aa u1 aE with ⟨a1,aH⟩|⟨a1,aH⟩ <;> rcases ap ab u2 aF with ⟨a2,b2⟩|⟨a2,b2⟩
   ·exact G.apart aa ab u1 u2 a1 a2 aG k ac ad
   ·subst a2;have:=Z aa u1 a1 k ac;have:=O k ad;omega
   ·subst a1;have:=Z ab u2 a2 k ad;have:=O k ac;omega
   ·omega
  ·rcases hk with hk|⟨j,hj,u,I,hk⟩
   ·rcases hl k hk with h1|h1
    ·exact G.clear k (.inl h1) hu
    ·have:=Q.lt k hu;omega
   ·by_cases H:j < fs.length
    ·rw[z45 H]at I;exact G.clear k (.inr ⟨j,H,u,I,hk⟩) hu
    ·rw[z29 (by omega)]at I;have ah:j - fs.length=0:=(by simp at hj;omega);rw[ah]at I;simp at I;subst I;have:=O k hk;have:=Q.lt k hu;omega
 have aI:(z.setCell ⟨g0+2,0,none⟩ lv').heap[g0+2]? =some (.cells #[lv'] 38 (0,0)):=by have aJ:z.heap[g0+2]? =some (.cells #[lv] 38 (0,0)):=(hF.rest (g0+2) (by omega) (fun e=>by have:=(Y _ e).1;omega)).trans aq;have:=aa' (j:=0) (v:=lv') aJ;simpa using this
 exact⟨(M _ (by omega) (by omega)).trans h.h0,(M _ (by omega) (by omega)).trans h.h1,(M _ (by omega) (by omega)).trans h.h3,(M _ (by omega) (by omega)).trans h.h4,(M _ (by omega) (by omega)).trans h.h5,
  ⟨lv',fs++[v],c',sh,aI,aD,Q.far J aB,au,av.trans J (fun k hk e=>e.elim (fun e=>by have:=(Y k e).1;omega) (fun e=>by omega)),ai,ax,ay,az,aA⟩,z26 ao J.size,h.lo,h.gw⟩
end
attribute [local go_sem] Oper.semAt_some
def zN' (B:Nat) (G:List UInt8) (v:Value) (z:World):Prop:=∃g F,v= .slice (some ⟨g,0,none⟩) 1 1/\B<=g/\z.heap[g]? =some (.cells #[F] 44 (0,0))/\Qt B z F G
variable{m:List UInt8}
theorem lz' (h:Qt w p c m) (hF:Far D p u) (z:∀k,D k->k < w):Qt w u c m:=
 L' h (fun k hk=>hF.rest k (z15 h k hk).2 (fun e=>by have:=z k e;have:=(z15 h k hk).1;omega))
theorem gV' (h:Qt w p c m) (hb:Below p.heap.size p u):Qt w u c m:=
 L' h (fun k hk=>hb.block k (z15 h k hk).2)
theorem rb' (B:Nat) (l:List UInt8):bm' (fun v z=>Qt B z v l):=fun _ _ _ h hb=>gV' h hb
theorem il' (z:∀k,D k->k < w):bP' D (fun v F=>Qt w F v m):=fun _ _ _ h hF=>lz' h hF z
theorem rd' (B:Nat) (z:List UInt8):bm' (zN' B z):=fun _ _ _ h hb=>by
 obtain⟨g,F,e,h1,h2,h3⟩:=h;exact⟨g,F,e,h1,(hb.block g (z14 h2)).trans h2,gV' h3 hb⟩
theorem im' (z:∀k,D k->k < w):bP' D (zN' w m):=fun _ _ _ h hF=>by
 obtain⟨g,F,e,h1,h2,h3⟩:=h;exact⟨g,F,e,h1,hF.blk h2 (fun e=>by have:=z _ e;omega),lz' h3 hF z⟩
def zO' (B H:Nat) (lv:Value) (z:List Value) (I:List UInt8) (v:Value) (F:World):Prop:=∃G,F.ownsRow H 44 1 v (z.length+1) (z++[G])/\Qt B F G I/\∀k,v.ownBlock=some k->lv.ownBlock=some k\/B<=k
theorem re' (B z:Nat) (lv:Value) (F:List Value) (G:List UInt8):bm' (zO' B z lv F G):=fun _ _ _ h hb=>by
 obtain⟨H,h1,h2,h3⟩:=h;exact⟨H,L' h1 (fun k hk=>hb.block k (z15 h1 k hk).2),gV' h2 hb,h3⟩
theorem oR' (z:∀k,D k->k < w/\k < a):bP' D (zO' w a c t m):=fun _ _ _ h hF=>by
 obtain⟨F,h1,h2,h3⟩:=h;exact⟨F,L' h1 (fun k hk=>hF.rest k (z15 h1 k hk).2 (fun e=>by have:=(z k e).2;have:=(z15 h1 k hk).1;omega)),lz' h2 hF (fun k e=>(z k e).1),h3⟩
variable{B:Array Oper}{N:Oper}{I:Act}{Z:Exit -> Act -> World -> Prop}{bX:Prop}
theorem lA' {K:Act->World->Prop} (J:N.guard=none) (s x:Operand) (t:TypeId) (F:N.op= .call {callee:= .builtin .append,args:= #[s,x],argTypes:= #[t,t]})
  (base:Nat) (e:TypeId) (G:Value) (size bytes:Nat) (M:prog.underlying t=some (.slice e)) (O:(prog.info? e).map (fun i=>(i.zero,i.size,i.bytes))=some (some G,size,bytes)) (Q:G.cells.size=size) (V:0 < size)
  (v:Value) (n:Nat) (xs:List Value) (Y:p.ownsRow base e size v n xs) (hs:I.eval s=v) (H:Addr) (m c:Nat) (z:List Value) (aa:I.eval x= .slice (some H) m c) (hl:z.length=m * size) (ab:∀j u,z[j]? =some u->p.cell? (H.add j)=some u)
  (h1:∀u∈z,u.oneCell'=true) (ac:n+m<=maxLen) (hb:(n+m) * bytes<=140737488355328) (ad:base<=p.heap.size)
  (h:∀v' w',w'.ownsRow base e size v' (n+m) (xs++z)->p.grownBy w' v.ownBlock->(v'.ownBlock=v.ownBlock\/v'.ownBlock=some p.heap.size)->K (I.put N.dst v') w'):if Region.wanted N (yielded B I.tmps)=true then N.wpIn (Fence.wide.inRound w) a prog I p K Z else bX:=by
 rw[if_pos (by simp[Region.wanted,J])];obtain⟨i0,hi,ah,ai,aj⟩:=au' O;obtain⟨v',w',ak,h2,h3,_,h5⟩:=run_append_own_at (P:=prog) (w:=p) base t N.type e i0 G size bytes M hi ah ai aj Q V v n xs Y H m c z hl ab h1 ac hb ad;unfold Oper.wpIn;refine⟨by simp[Oper.about,F,resolve,Target.leads,Sem.run_pure],?_⟩;rw[Oper.semAt_plain _ _ _ (by rw[F];intro c ao;cases ao)];simp[execOp,F,resolve,invoke,builtin,hs,aa,ak,Result.andThen];exact h v' w' h2 h3 h5
theorem gW' (e s:Nat) (f:Mq.Jl) (t:Nat):∀k,(Mq.sendTo e s f t k).2.length<=k
 |0=>z13 _
 |k+1=>by
  have ih:=gW' e s f t k;by_cases h:k < f.kept.length
  ·cases hd:Mq.due f t k f.kept[k].2 with
   |false=>rw[dC' h hd];omega
   |true=>rw[dD' h hd];simp;omega
  ·rw[bi' (by omega)];omega
section
variable {w W:World} {g0 p i:Nat} {c:Av} {st:Mq.Stv} {g:Nat->Nat} {free:List Nat} {sh:Nat->List (Nat×Value)} {pl:Nat->List Nat} {F:List z10} {a:Mq.Ag} {tk k:Nat}
theorem Zg.due (h:Zg w g0 p i c st g free pl F (aF' a i tk k) W) (hi:i < 3) (hk:k < (a.fl i).kept.length) (z:(a.fl i).kept[k].2<=1000000000000) (G:tk<=1000000000000):
  Calls prog 138 #[.pointer (some ⟨p,4+i * 6,none⟩), .int .i64 ((a.fl i).base+1+k:Nat), .int .i64 tk] W fun r H=>r= .returned (.bool (Mq.due (a.fl i) tk k (a.fl i).kept[k].2))/\Below W.heap.size W H:=by
 obtain⟨lv,O,Q,sh,V,Y,I,J,_⟩:=h.mid;have hj:k < ((aF' a i tk k).fl i).kept.length:=by rw[td'];exact hk
 have M:((aF' a i tk k).fl i).kept[k]=(a.fl i).kept[k]:=by have:=ly' (tk:=tk) hk;rw[z18 hj]at this;injection this
 have:=uV' I J hi k hj tk (a.fl i).kept[k].2 (by rw[M]) z G;rw[te',jJ']at this;exact this
theorem Zg.tick (h:Zg w g0 p i c st g free pl F (aF' a i tk k) W):W.cell? ⟨p,23,none⟩=some (.int .i64 a.Qf):=by
 obtain⟨lv,G,H,sh,I,J,z,M,_⟩:=h.mid;rw[y' z.ks.blk,z.ks.at'];rfl
end
section
variable {w:World} {p:Nat} {g:Nat->Nat} {free:List Nat} {sh:Nat->List (Nat×Value)} {st:Mq.Stv} {c:Av} {a:Mq.Ag} {pl:Nat->List Nat}
theorem tf' (bg:Je w p g a.Qf a.Qd a.fenced free sh st c) (bA:Js a st.Qe g free sh pl) (i:Nat) (aE:i < 3) (dc:a.Qf≠0) (dd:a.Qf<=1000000000000) (de:(a.fl i).base+(a.fl i).kept.length < 4294967296) (cm:∀x∈ (a.fl i).kept,x.1.size<=20/\x.2<=1000000000000):
  Calls prog 93 #[D' p, .int .i64 i] w fun r H=>∃lv z ab bB,r= .returned lv/\Qh w.heap.size H lv z (bU' a i a.Qf 4) (PaU p ab)/\Je H p g a.Qf a.Qd a.fenced free bB st ab/\Js (aF' a i a.Qf 4) st.Qe g free bB pl/\Far (PaU p c) w H/\(∀j,PaU p ab j->PaU p c j\/w.heap.size<=j)/\ab.s=c.s/\ab.rv=c.rv:=by
 have df:=z14 bg.ks.blk;have dg:(0:Int)<=(i:Int):=by omega
 have dh:(i:Int) < 3:=by omega
 have aL:=m' (z12 bg bA);clear bg bA;unfold D' at *;refine ta'.1 (callsIn_of_wp_marks (n:=5) func93 rfl trivial ?_ rfl);refine uI'.2 ?_;simp only[ntmps93,List.size_toArray,List.length_cons,List.length_nil,Nat.reduceAdd,Nat.reduceSub,Array.replicate_succ,Array.replicate_zero,List.push_toArray,List.append_toArray,List.nil_append,List.cons_append];go_upto_region 2 with fail;obtain⟨g0,aM⟩:=exq (w.heap.size);have bC:=m' aM;rw[<-aM];refine G' (fun x=>x.heap[g0]? =some (.cells #[.pointer (some ⟨p,0,none⟩)] 88 (0,0))/\x.heap[g0+1]? =some (.cells #[.int .i64 i] 3 (0,0))/\x.heap[g0+2]? =some (.cells #[.slice none 0 0] 38 (0,0))/\Below g0 w x/\x.heap.size=g0+3) ?_ ?_
 ·rw[aM];have cn:=z19 w (.cells #[.pointer (some ⟨p,0,none⟩)] 88);have bD:=z19 (w.alloc (.cells #[.pointer (some ⟨p,0,none⟩)] 88)) (.cells #[.int .i64 i] 3);have bE:=z19 ((w.alloc (.cells #[.pointer (some ⟨p,0,none⟩)] 88)).alloc (.cells #[.int .i64 i] 3)) (.cells #[.slice none 0 0] 38);simp only[World.size_alloc]at bD bE;refine⟨?_,?_,bE,((((z11 _ _).alloc (z13 _) _).alloc (by simp) _).alloc (by simp;omega) _),by simp⟩
  ·rw[hao _ _ (by simp;omega),hao _ _ (by simp)];exact cn
  ·rw[hao _ _ (by simp)];exact bD
 clear aM;rintro x ⟨h0,h1,h2,hb,ac⟩;have c0:=y' (i:=0) h0;have c1:=y' (i:=0) h1;simp at c0 c1;have bF:=m' (z12 h0 (z12 h1 (z12 h2 (z12 hb ac))));have cp:g0 < x.heap.size:=by omega
 have cq:g0+1 < x.heap.size:=by omega
 clear h0 h1 h2 hb;go_region;go_upto_region 3 with fail;refine G' (fun y=>y.heap[g0]? =some (.cells #[.pointer (some ⟨p,0,none⟩)] 88 (0,0))/\y.heap[g0+1]? =some (.cells #[.int .i64 i] 3 (0,0))/\y.heap[g0+2]? =some (.cells #[.slice none 0 0] 38 (0,0))/\y.heap[g0+3]? =some (.cells #[.pointer (some ⟨p,4+i * 6,none⟩)] 213 (0,0))/\Below g0 w y/\y.heap.size=g0+4) ?_ ?_
 ·obtain⟨h0,h1,h2,hb,ac⟩:=d' bF;exact⟨(hao _ _ (by omega)).trans h0,(hao _ _ (by omega)).trans h1,(hao _ _ (by omega)).trans h2,by have:=z19 x (.cells #[.pointer (some ⟨p,4+i * 6,none⟩)] 213);rw[ac]at this;exact this,(hb.alloc (by omega) _).drew,by show(x.alloc _).heap.size= _;simp;omega⟩
 clear bF c0 c1 cp cq ac;rintro y ⟨h0,h1,h2,h3,hb,ac⟩;have c3:=y' (i:=0) h3;simp at c3;have bG:=m' (z12 h0 (z12 h1 (z12 h2 (z12 h3 (z12 hb ac)))));clear h0 h1 h2 h3 hb;go_wp2_with (go_at_call 137;refine(li' _ _ _ _).mono ?_;rintro e H ⟨rfl,aq⟩);obtain⟨h0,h1,h2,h3,hb,_⟩:=d' bG;have bh:H.heap.size=g0+6:=by rw[aq];simp[dI',ac]
 have F:∀k,k < g0+4->H.heap[k]? =y.heap[k]? :=fun k hk=>by rw[aq];unfold dI';rw[hao _ _ (by simp;omega),hao _ _ (by omega)]
 have bH:H.heap[g0+4]? =some (.cells #[.pointer (some ⟨p,4+i * 6,none⟩)] 209 (0,0)):=by rw[aq];unfold dI';rw[hao _ _ (by simp;omega),<-ac];exact z19 _ _
 have bI:H.heap[g0+5]? =some (.cells #[.int .i64 4] 3 (0,0)):=by rw[aq];unfold dI';have:=z19 (y.alloc (.cells #[.pointer (some ⟨p,4+i * 6,none⟩)] 209)) (.cells #[.int .i64 4] 3);rw[zh',ac]at this;exact this
 have aN:Below g0 w H:=by rw[aq];unfold dI';exact(hb.alloc (by omega) _).alloc (by simp;omega) _
 have aF:=m' (z12 ((F g0 (by omega)).trans h0) (z12 ((F (g0+1) (by omega)).trans h1) (z12 ((F (g0+2) (by omega)).trans h2) (z12 ((F (g0+3) (by omega)).trans h3) (z12 bH (z12 bI aN))))));rw[<-aq];clear h0 h1 h2 h3 hb F bH bI aN aq bG c3;obtain⟨tk,bJ⟩:=exq (a.Qf);have bK:=m' bJ;have cr:tk≠0:=by omega
 have cs:tk<=1000000000000:=by omega
 clear bJ;have bL:(aD' (a.fl i).base (a.fl i).kept (pl i)).length=(a.fl i).kept.length:=dU' _ _ _ ((d' aL).2.pn i aE);refine uI'.1 (jH' (n:=5) (b:=g0+4) (p:=p) (o:=4+i * 6) (m:=4) (c.nv (i * 3)) (c.mv (i * 3)) (aD' (a.fl i).base (a.fl i).kept (pl i)) (gn' _ _ _) rfl rfl (fun k W=>Zg w g0 p i c st g free pl (bU' a i tk k) (aF' a i tk k) W) ?_ ?_ ?_ ?_ ?_ ?_)
 ·intro k W di h ax;rw[bh]at ax;exact h.same2 ax
 ·exact fun k W h=>h.iterK aE
 ·intro W bM dj;obtain⟨h0,h1,h2,h3,h4,h5,aN⟩:=d' aF;have hk:=fun k (hk:k < H.heap.size)=>bM.block k hk;exact ra' (d' aL).1 (d' aL).2 (d' bC) (aN.trans (bM.mono (by omega))) ((hk _ (by omega)).trans h0) ((hk _ (by omega)).trans h1) ((hk _ (by omega)).trans h2) ((hk _ (by omega)).trans h3) ((hk _ (by omega)).trans h4) ((hk _ (by omega)).trans h5) (by omega)
 ·intro k hk W dl J cu;rw[bh]at cu ⊢;have au:k < (a.fl i).kept.length:=by rw[bL]at hk;exact hk
  have bN:(aD' (a.fl i).base (a.fl i).kept (pl i))[k]=((a.fl i).base+1+k,cN' (a.fl i).kept[k].1 ((pl i).getD k 0)):=by have h1:=iS' (a.fl i).base (a.fl i).kept (pl i) k ((d' aL).2.pn i aE) au;rw[z18 hk]at h1;injection h1
  rw[bN];obtain⟨ay,bi⟩:=exq ((a.fl i).kept[k].1);obtain⟨av,aO⟩:=exq ((a.fl i).base+1+k);rw[<-bi,<-aO];generalize (pl i).getD k 0=q;have az:=m' (z12 bi aO);obtain⟨ap,aP⟩:=exq (W.heap.size);have dm:g0+8<=ap:=by omega
  have dn:=m' aP;have cv:=m' J;clear bi aO bN J aF hk;unfold cN';gi_wp2;refine⟨⟨hao _ _ (by omega),hao _ _ (by omega)⟩,?_⟩;intro aG ax;rw[<-aP];have aQ:aG.heap[ap]? =some (.cells #[.string ay, .int .i64 q] 158 (0,0)):=by rw[ax.rest ap (by omega) (by omega),aP];exact z19 _ _
  have I:=((d' cv).below ((z11 _ _).alloc (z13 _) _)).same2 ax;obtain⟨lv,z,ab,aR,O,G,M,Q,ad,V,ah,ai,aA,aB⟩:=I.mid;have d0:=y' (i:=0) I.h0;have d1:=y' (i:=0) I.h1;have d2:=y' (i:=0) O;have d3:=y' (i:=0) I.h3;have d8:=y' (i:=0) aQ;have d23:aG.cell? ⟨p,23,none⟩=some (.int .i64 tk):=by rw[I.tick,d' bK]
  simp at d0 d1 d2 d3 d8;have cw:ay.size<=20/\(a.fl i).kept[k].2<=1000000000000:=by have:=cm _ (z81 au);rw[(d' az).1];exact this
  have aO:av < 4294967296:=by have:=(d' az).2;omega
  have aH:=fun x (hb:Below aG.heap.size aG x)=>m' ((I.below hb).due aE au cw.2 cs);rw[<-(d' az).2]at aH;obtain⟨bO,bj⟩:=exq (Mq.due (a.fl i) tk k (a.fl i).kept[k].2);rw[<-bj]at aH;have aS:=m' bj;have aI:=m' I;have bP:=z14 I.h0;have dq:=z14 I.h1;have bQ:=z14 I.h3;have bR:=z14 aQ;have bS:p < aG.heap.size:=z14 M.ks.blk;have bT:=m' aQ;clear aP ax aQ O G M Q ad V ah ai aA aB I bj;gi_upto_region 6 with fail;refine hC'
   [Ep p (4+i * 6),Ei av,Ep p 0,Ep p 0,Ep p 23,Ei tk,Eb bO]
   [[6],[7],[2],[3022],[4023],[5024],[1020,2021,6025]] [21,22,23,24,25,26,27] [20,7,21] ?_ ?_
  ·refine⟨?_,?_,?_,?_,?_,?_,?_,trivial⟩;all_goals
    intro b x hb aj;have z0:=(hb.cell (p:=⟨g0,0,none⟩) bP).trans d0;have z3:=(hb.cell (p:=⟨g0+3,0,none⟩) bQ).trans d3;have cx:=(hb.cell (p:=⟨p,23,none⟩) bS).trans d23;have aT:=m' (d' (aH x hb));clear hb aH;simp[I']at aj;try go_simp
   all_goals first
    |exact⟨rfl,z11 _ _⟩
    |exact⟨_,rfl,z11 _ _,rfl⟩
    |exact z11 _ _
    |(refine⟨trivial,((ta'.2 (d' aT)).inRound _).mono ?_⟩;rintro r H ⟨rfl,hb⟩;exact⟨_,rfl,hb,rfl⟩)
    |(refine⟨trivial,((ta'.2 (d' aT)).inRound _).mono ?_⟩;rintro r H ⟨rfl,hb⟩;exact⟨rfl,hb⟩)
    |skip
  intro f x bU Y;simp only[ag']at Y;have cy:=Y.2.2.2.2.2.2.1;have ak:=m' bU;clear Y aH bU;simp only[O',cy];cases bO with
  |false=>
   gi_wp2
   have ac:=(d' aI).sz;refine⟨(d' ak).block _ (by omega),(d' ak).block _ (by omega),?_⟩;rw[qY' au (d' aS).symm,qS' au (d' aS).symm];exact(d' aI).below (d' ak)
  |true=>
   have bV:=(d' ak).size;have bW:=((d' ak).cell (p:=⟨g0,0,none⟩) bP).trans d0;have aU:=((d' ak).cell (p:=⟨g0+3,0,none⟩) bQ).trans d3;have bX:=((d' ak).cell (p:=⟨p,23,none⟩) bS).trans d23;have cz:g0 < x.heap.size:=(by omega);have cA:g0+3 < x.heap.size:=(by omega);have cB:p < x.heap.size:=(by omega);clear d0 d1 d2 d3 d8 d23;have aV:=fun y (hb:Below x.heap.size x y)=>m' (((d' aI).below ((d' ak).trans (hb.mono bV))).put aE au (d' aS).symm cr);rw[<-(d' az).2]at aV;gi_upto_region 7 with fail;refine iz'
    [Ep p (4+i * 6),Ep p (4+i * 6),Ep p (4+i * 6+2),Ei av,Ep p 0,Ep p 0,Ep p 23,Ei tk,Et]
    [[6],[1027],[2028],[7],[2],[5031],[6032],[7033],[3029,4030,8034]] [28,29,30,31,32,33,34,35,36] [27,9,12]
    8 _ rfl rfl ?_ ?_
   ·refine⟨?_,?_,?_,?_,?_,?_,?_,?_,trivial⟩;all_goals
     intro b y hb aj;have z0:=(hb.cell (p:=⟨g0,0,none⟩) cz).trans bW;have z3:=(hb.cell (p:=⟨g0+3,0,none⟩) cA).trans aU;have cx:=(hb.cell (p:=⟨p,23,none⟩) cB).trans bX;clear hb aV;simp[I']at aj;try go_simp
    all_goals first
     |exact⟨rfl,z11 _ _⟩
     |exact⟨_,rfl,z11 _ _,rfl⟩
     |exact z11 _ _
     |skip
   intro f2 y bk Y;simp only[ag',List.take]at Y;have cC:=Y.2.2.1;have cD:=Y.2.2.2.1;have cE:=Y.2.2.2.2.2.2.2.1;have cF:=m' (d' (aV y bk));have aJ:=m' ((d' ak).trans (bk.mono bV));clear Y aV bk bW aU bX;simp only[O',cC,cD,cE];go_simp;refine⟨trivial,((ta'.2 (d' cF)).inRound _).mono ?_⟩;rintro r H ⟨rfl,J,aW,aX,ac,bY⟩;have dr:=(d' aJ).size;have aY:=(bY ap _ (((d' aJ).block ap bR).trans (d' bT))).trans (((d' aJ).block ap bR).trans (d' bT));have aW:=aW.trans ((d' aJ).block _ (by have:=(d' aI).sz;omega));have aX:=aX.trans ((d' aJ).block _ (by have:=(d' aI).sz;omega));have bZ:=m' (z12 aW aX);obtain⟨lv,z,ab,aR,O,G,M,Q,ad,V,ah,ai,aA,aB⟩:=J.mid;have bl:=J.lo;have ds:=J.sz;have dt:z.length<=3:=by have h1:=G.len;have h2:=gW' a.Qa i (a.fl i) tk k;unfold bU' at h1;rw[z43]at h1;omega
   obtain⟨Z,aa,cG,_⟩:=(bq' G.row).shape;subst cG;obtain⟨ep,aZ⟩:=exq (st.Qe);have ca:ep=a.Qa:=(by rw[aZ];exact Q.ep);have du:ep < 4294967296:=(by rw[aZ];exact M.stt.op);obtain⟨ba,bm⟩:=exq (Qb.bytes 3 ep i av ay.data.toList);have cb:=fun y=>m' (eP' 3 ep i av ay y (by omega) (by omega) (by omega) (by omega) (by omega));rw[<-bm]at cb;have cc:bU' a i tk (k+1)=bU' a i tk k++[⟨ba.toArray⟩]:=(by rw[qX' au (d' aS).symm,bm,ca,(d' az).1,(d' az).2]);have ao:∀j,(Value.slice Z z.length aa).ownBlock=some j->g0+8<=j/\j < H.heap.size:=fun j hj=>G.lt j (.inl hj);have cH:(Value.slice Z z.length aa).ownBlock≠some ap:=(bq' G.row).ne aY (by decide);have c0:=y' (i:=0) J.h0;have c1:=y' (i:=0) J.h1;have c2:=y' (i:=0) O;have cI:=y' (i:=0) aY;have dv:=H' (i:=0) O;simp at c0 c1 c2 cI;have cd:=fun y (c4:Av) (K:Je y p g (aF' a i tk (k+1)).Qf (aF' a i tk (k+1)).Qd (aF' a i tk (k+1)).fenced free aR st c4)=>m' (bW' K);rw[<-aZ]at cd;have ce:∀j,j=g0+2\/(Value.slice Z z.length aa).ownBlock=some j->¬PaU p ab j:=fun j hj hu=>by
    rcases hj with rfl|hj
    ·rcases V _ hu with h|h
     ·have:=bl _ h;omega
     ·omega
    ·exact G.clear j (.inl hj) hu
   have aF:=m' (z12 J (z12 O (z12 G (z12 M (z12 Q (z12 ad (z12 V (z12 ah (z12 ai (z12 aA aB))))))))));have cJ:=m' aY;have cf:=m' O;have cg:=m' (z12 J.h0 J.h1);have cK:=m' M;have cL:=m' cc;clear J O G M Q ad V ah ai aA aB cc bm aZ ca bY aY aW aX;unfold D' at *;gi_upto_region 8 with fail;refine iA'
    [Ev (.slice Z z.length aa),Ep p 0,Ei ep,Ei i,Ei av,Ep ap 0,Ev (.string ay),Ev (.agg #[.int .i64 3, .int .i64 ep, .int .i64 i, .int .i64 av, .string ay]),
     fun v y=>Qt H.heap.size y v ba,zN' H.heap.size ba,zO' H.heap.size (g0+8) (.slice Z z.length aa) z ba,fun _ y=>Zg w g0 p i c st g free pl (bU' a i tk (k+1)) (aF' a i tk (k+1)) y]
    [[5],[2],[2037],[3],[7],[8],[6041],[3038,4039,5040,7042],[8043],[9044],[1036,10045],[5,11046]] [37,38,39,40,41,42,43,44,45,46,47,0] [36,11,1]
    [(10,fun j=>(Value.slice Z z.length aa).ownBlock=some j),(11,fun j=>j=g0+2)] ?_ ?_ (hst:=by repeat' (first|exact V' _|exact rb' _ _|exact rd' _ _|exact re' _ _ _ _ _|exact(fun _ _ _ h hb=>h.below hb)|exact trivial|apply z12)) (hstF:=by repeat' (first|exact trivial|exact .inl rfl|exact .inr (.inr (bj' _ _))|exact .inr (.inr (il' (fun j hj=>(ao j hj).2)))|exact .inr (.inr (im' (fun j hj=>(ao j hj).2)))|exact .inr (.inr (il' (fun j (hj:j=g0+2)=>by omega)))|exact .inr (.inr (im' (fun j (hj:j=g0+2)=>by omega)))|exact .inr (.inr (oR' (fun j (hj:j=g0+2)=>by omega)))|exact .inr (.inl (show bJ' _ 11 10=true by decide+kernel))|apply z12))
   ·refine⟨?_,?_,?_,?_,?_,?_,?_,?_,?_,?_,?_,?_,trivial⟩;all_goals
     intro b y hb aj;have cM:=hb.size;have bb:=m' hb;have aC:∀ (ch:Array Oper) (ci j:Nat),j≠g0+2->(Value.slice Z z.length aa).ownBlock≠some j->¬cG' [(10,fun j=>(Value.slice Z z.length aa).ownBlock=some j),(11,fun j=>j=g0+2)] ch ci j:=fun ch ci j h1 h2=>cJ' (by intro q F;simp at F;rcases F with rfl|rfl;exact h2;exact h1);have bn:∀j,j < g0+8->(Value.slice Z z.length aa).ownBlock≠some j:=fun j h1 e=>by have:=(ao j e).1;omega
     have z0:=y' (i:=0) (hb.blk (d' cg).1 (aC _ _ _ (by omega) (bn _ (by omega))));have cN:=y' (i:=0) (hb.blk (d' cg).2 (aC _ _ _ (by omega) (bn _ (by omega))));have cO:=y' (i:=0) (hb.blk (d' cJ) (aC _ _ _ (by omega) cH));simp at z0 cN cO;clear hb aC bn;simp[I']at aj
    ·have bo:=y' (i:=0) ((d' bb).blk (d' cf) (by
      rintro⟨q,F,g1,g2,aK⟩;simp at F;rcases F with rfl|rfl
      ·have:=(ao _ aK).1;omega
      ·exact absurd (show bJ' _ 11 0=false from g2) (by decide+kernel)))
     simp at bo;go_simp;first|exact⟨_,rfl,Far.refl _ _,rfl⟩|exact⟨rfl,Far.refl _ _⟩|exact Far.refl _ _
    ·go_simp;first|exact⟨_,rfl,Far.refl _ _,rfl⟩|exact⟨rfl,Far.refl _ _⟩|exact Far.refl _ _
    ·have K:=(d' cK).far (d' bb) (fun j hu=>cJ' (by
      intro q F;simp at F;rcases F with rfl|rfl
      ·exact fun e=>ce j (.inr e) hu
      ·exact fun e=>ce j (.inl e) hu))
     have aT:=m' (d' (cd y _ K));clear K;go_simp;refine⟨trivial,((ta'.2 (d' aT)).inRound _).mono ?_⟩;rintro r cj ⟨rfl,cP⟩;obtain rfl:y=cj:=cP.symm;first|exact⟨_,rfl,Far.refl _ _,rfl⟩|exact⟨rfl,Far.refl _ _⟩|exact Far.refl _ _
    iterate 5
     ·go_simp;first|exact⟨_,rfl,Far.refl _ _,rfl⟩|exact⟨rfl,Far.refl _ _⟩|exact Far.refl _ _
    ·go_simp;refine⟨trivial,((ta'.2 (d' (cb y))).inRound _).mono ?_⟩;rintro r cj ⟨v,rfl,cQ,hb⟩;exact⟨_,rfl,C' hb,ak' cQ (by omega)⟩
    ·obtain⟨cR,cS,bp,_⟩:=(bq' aj).shape;have ck:=m' aj;clear aj;rw[bp]at ck;go_simp;exact⟨_,rfl,C' ((z11 _ _).alloc (z13 _) _),_,_,rfl,cM,z19 y _,Qt.alloc (d' ck) _⟩
    ·obtain⟨cT,cU,bq,cV,dw,cW,bc⟩:=aj;obtain⟨cR,cS,bp,_⟩:=(bq' bc).shape;have cX:y.ownsRow (g0+8) 44 1 (.slice Z z.length aa) z.length z:=L' (d' aF).2.2.1.row (fun j hj=>(d' bb).rest j (ao j hj).2 (by
      rintro⟨q,F,g1,g2,aK⟩;simp at F;rcases F with rfl|rfl
      ·exact g1 rfl
      ·have:j=g0+2:=aK;have:=(ao j hj).1;omega))
     refine lA' rfl (.tmp 36) (.tmp 45) 38 rfl (g0+8) 44 (.slice none 0 0) 1 24 underlying38 (by kernel_rfl) rfl (by decide) (.slice Z z.length aa) z.length z cX (by simp[Act.eval,cT]) ⟨cU,0,none⟩ 1 1 [bq] (by simp[Act.eval,cV]) rfl ?_ (by intro u hu;simp at hu;subst hu;rw[bp];rfl) (by unfold maxLen;omega) (by omega) (by omega) ?_
     ·intro j u hj;rw[dG',y' cW,z44];simpa using hj
     ·intro v' w' cY cl cZ;exact⟨v',rfl,an' (.head _) (ba' cl),bq,cY,L' bc (fun j hj=>cl.block j (z15 bc j hj).2 (fun e=>by have:=(ao j e.symm).2;have:=(z15 bc j hj).1;omega)),fun j hj=>by
       have hj:v'.ownBlock=some j:=hj;rcases cZ with e|e
       ·exact .inl (by rw[<-e];exact hj)
       ·rw[e]at hj;injection hj with hj;exact .inr (by omega)⟩
    ·have br:Far (fun j=>(Value.slice Z z.length aa).ownBlock=some j) H y:=(d' bb).mono (by
      rintro j _ ⟨q,F,g1,g2,aK⟩;simp at F;rcases F with rfl|rfl
      ·exact aK
      ·exact absurd rfl g1)
     have bt:=br.blk (d' cf) (fun e=>by have:=(ao _ e).1;omega);have bo:=y' (i:=0) bt;have dx:=H' (i:=0) bt;simp at bo;obtain⟨_,bq,aD,bd,hl⟩:=aj;obtain⟨dy,dz,aU,_⟩:=(bq' aD).shape;rw[aU]at aD hl;have da:=m' (z12 aD (z12 bd hl));have db:=m' br;clear aD bd hl br bt;go_simp;obtain⟨aD,bd,hl⟩:=d' da;obtain⟨J,O,G,M,Q,ad,V,ah,ai,aA,aB⟩:=d' aF;refine⟨an' (.tail _ (.head _)) (Q' y (g0+2) 0 _),?_⟩;rw[d' cL];exact ve' J O G M Q ad V ah ai aA aB (d' db) (by simpa using bd) aD hl
   ·intro f3 y hF Y;have I:=Y.2.2.2.2.2.2.2.2.2.2.2.1;have bu:=hF.mono (E':=fun j=>g0+8<=j\/j=g0+2) (fun j _ h=>by
     obtain⟨q,F,h⟩:=h;simp at F;rcases F with rfl|rfl
     ·exact .inl (ao j h).1
     ·exact .inr h)
    have be:=bu.rest (g0+6) (by omega) (by omega);have bf:=bu.rest (g0+7) (by omega) (by omega);have bw:=m' (z12 be (z12 bf I));clear Y hF bu be bf I;simp only[O'];gi_wp2;obtain⟨be,bf,I⟩:=d' bw;exact⟨be.trans (d' bZ).1,bf.trans (d' bZ).2,I⟩
 ·intro k W h;have:=h.sz;omega
 ·intro W h hK;rw[bh]at hK ⊢;rw[bL,<-qZ' rfl,<-qU' rfl]at h;obtain⟨lv,z,ab,aR,O,G,M,Q,ad,V,ah,ai,_,_⟩:=h.mid;have c5:=y' (i:=0) O;simp at c5;have bl:=h.lo;have dA:=h.sz;have bw:=m' (z12 G (z12 M (z12 Q (z12 ad (z12 V (z12 ah ai))))));clear h O G M Q ad V ah ai;go_wp2;have bz:Far (fun k=>k=g0+6) W (W.putObj (g0+6) (.deferred none)):=⟨rfl,rfl,rfl,by rw[zI'];exact z13 _,fun k _ h=>uR' h⟩;refine⟨by simp, .inl ⟨_,_,rfl,run_takeDeferred hK,?_⟩⟩;obtain⟨G,M,Q,ad,V,ah,ai⟩:=d' bw;have dB:=d' bC;have aC:∀j,PaU p ab j->¬j=g0+6:=fun j hj e=>by
   rcases V j hj with h1|h1
   ·have:=bl j h1;omega
   ·omega
  rw[d' bK]at G Q;refine⟨_,results_tmp rfl _ _ _,_,z,ab,aR,rfl,?_,M.far bz aC,Q,ad.trans bz (fun k hk e=>by omega),fun j hj=>(V j hj).imp id (fun h=>by omega),ah,ai⟩;have:=G.keep (x:=W.putObj (g0+6) (.deferred none)) (fun k hk=>bz.rest k (G.lt k hk).2 (by have:=(G.lt k hk).1;omega));exact⟨this.len,ak' this.row (by omega),fun j v hj=>ak' (this.each j v hj) (by omega),this.apart,this.clear⟩
end
end Go.Proofs.YtamafdcnbcoegaaGreat
namespace Go.Proofs.YtamafdcnbcoegaaGreat
attribute [local simp, local go_sem] Ev Ep Ei Eb Et
open Go.RowKit Go.Proofs.Tryz
theorem Qh.up {B B':Nat} {z:World} {lv:Value} {F:List Value} {G:List z10} {U:Nat->Prop} (h:Qh B z lv F G (fun _=>False)) (H:B'<=B) (I:∀k,U k->k < B):Qh B' z lv F G U:=by
 refine⟨h.len,ak' h.row H,fun j v hj=>ak' (h.each j v hj) H,h.apart,fun k hk hu=>?_⟩;have:=I k hu;rcases hk with hk|hk
 ·have:=(z15 h.row k hk).1;omega
 ·obtain⟨j,hj,u,J,hk⟩:=hk;have:=(z15 (h.each j u J) k hk).1;omega
variable{p:World}{w a q r:Nat}{S:Nat -> List z10}{R:Nat -> List (Nat×Value)}{P:Mq.Stv}{L:Sv}
theorem zP' (z:Jt p w a S R P L) (hb:p.heap[q]? =some (.cells #[D' r] 93 (0,0))):¬PkU w L q:=
 dT' z hb (by decide) (by decide) (by decide) (by decide) (by decide) (by decide) (by decide) (by decide)
def lB' (a:Mq.Ag) (t s:Nat):List z10:=(Mq.Zl a.Qa t a.fl s).map fun l=>⟨l.toArray⟩
theorem jK' (a:Mq.Ag) (t s:Nat):lB' a t (s+1)=lB' a t s++bU' (bB' a t s) s t 4:=by
 unfold lB' bU';rw[gp'];show(Mq.Zl a.Qa t a.fl s++(Mq.sendTo a.Qa s (a.fl s) t 4).2).map _= _;rw[z96];rfl
theorem kk' {z:Type} {l r:List z} {u:z} (h:(l++r)[w]? =some u):(l[w]? =some u/\w < l.length)\/(r[w - l.length]? =some u/\l.length<=w):=by
 by_cases hj:w < l.length
 ·rw[z45 hj]at h;exact .inl ⟨h,hj⟩
 ·rw[z29 (by omega)]at h;exact .inr ⟨h,by omega⟩
variable{u O:World}{c f:Value}{t aR:List Value}{T dC:List z10}{D aH:Nat -> Prop}
theorem mN' {lv:Value}
  (h1:Qh w p lv t T D) (h2:Qh p.heap.size u c aR dC aH) (hF:Far D p u) (M:∀k,aH k->D k\/p.heap.size<=k) (ad:∀k,aH k->k < u.heap.size) (ah:w<=p.heap.size)
  (ai:O.ownsRow w 44 1 f (t.length+aR.length) (t++aR)) (Q:u.grownBy O lv.ownBlock) (hl:f.ownBlock=lv.ownBlock\/f.ownBlock=some u.heap.size):Qh w O f (t++aR) (T++dC) aH:=by
 have V:=h1.len;have aj:=h2.len;have av:=hF.size;have Y:∀k,lv.ownBlock=some k->w<=k/\k < p.heap.size:=fun k hk=>h1.lt k (.inl hk);have old:∀ (j:Nat) (z:Value),t[j]? =some z->∀k,z.ownBlock=some k->w<=k/\k < p.heap.size/\¬D k/\lv.ownBlock≠some k:=fun j z hj k hk=>by have hd:Zc t t.length k:=⟨j,(z28.1 hj).1,z,hj,hk⟩;have h3:=h1.lt k (.inr hd);exact⟨h3.1,h3.2,h1.clear k (.inr hd),aG' (vW' (h1.each j z hj)) (vW' h1.row) (by decide) hk⟩
 have new:∀ (j:Nat) (z:Value),aR[j]? =some z->∀k,z.ownBlock=some k->p.heap.size<=k/\k < u.heap.size/\¬aH k:=fun j z hj k hk=>by have hd:Zc aR aR.length k:=⟨j,(z28.1 hj).1,z,hj,hk⟩;have h3:=h2.lt k (.inr hd);exact⟨h3.1,h3.2,h2.clear k (.inr hd)⟩
 refine⟨by simp[V,aj],by simpa using ai,fun j z hj=>?_,fun Z aa u1 u2 ak ao ap k F G=>?_,fun k hk hu=>?_⟩
 ·rcases kk' hj with ⟨hj,aq⟩|⟨hj,aq⟩
  ·have e:((T++dC).map fun b=>b.data.toList).getD j []=(T.map fun b=>b.data.toList).getD j []:=(by rw[z17,z17,z96,z45 (by simp;omega)]);rw[e];exact L' (h1.each j z hj) (fun k hk=>by obtain⟨ab,H,I,ac⟩:=old j z hj k hk;exact(Q.block k (by omega) (fun e=>ac e.symm)).trans (hF.rest k H I))
  ·have e:((T++dC).map fun b=>b.data.toList).getD j []=(dC.map fun b=>b.data.toList).getD (j - t.length) []:=(by rw[z17,z17,z96,z29 (by simp;omega)];simp[V]);rw[e];refine ak' (L' (h2.each _ z hj) (fun k hk=>?_)) ah;obtain⟨ab,H,I⟩:=new _ z hj k hk;exact Q.block k H (fun e=>by have:=(Y k e.symm).2;omega)
 ·rcases kk' ak with ⟨a1,J⟩|⟨a1,J⟩ <;> rcases kk' ao with ⟨a2,b2⟩|⟨a2,b2⟩
  ·exact h1.apart Z aa u1 u2 a1 a2 ap k F G
  ·have:=old Z u1 a1 k F;have:=new _ u2 a2 k G;omega
  ·have:=old aa u2 a2 k G;have:=new _ u1 a1 k F;omega
  ·exact h2.apart _ _ u1 u2 a1 a2 (by omega) k F G
 ·rcases hk with hk|⟨j,hj,z,au,hk⟩
  ·rcases hl with e|e
   ·rw[e]at hk;have h3:=Y k hk;rcases M k hu with h4|h4
    ·exact h1.clear k (.inl hk) h4
    ·omega
   ·rw[e]at hk;injection hk with hk;have:=ad k hu;omega
  ·rcases kk' au with ⟨a1,J⟩|⟨a1,J⟩
   ·obtain⟨ab,H,I,ac⟩:=old j z a1 k hk;rcases M k hu with h4|h4
    ·exact I h4
    ·omega
   ·exact(new _ z a1 k hk).2.2 hu
variable{B:Array Oper}{N:Oper}{I:Act}{Z:Exit -> Act -> World -> Prop}
theorem lC' {rest:List Oper} (M:N.guard=none) (s x:Operand) (t:TypeId) (O:N.op= .call {callee:= .builtin .append,args:= #[s,x],argTypes:= #[t,t]})
  (base:Nat) (e:TypeId) (G:Value) (size bytes:Nat) (H:prog.underlying t=some (.slice e)) (Y:(prog.info? e).map (fun i=>(i.zero,i.size,i.bytes))=some (some G,size,bytes)) (aa:G.cells.size=size) (ab:0 < size)
  (v:Value) (n:Nat) (xs:List Value) (J:p.ownsRow base e size v n xs) (hs:I.eval s=v) (ac:Nat) (Q:Value) (m:Nat) (z:List Value) (F:p.ownsRow ac e size Q m z) (V:I.eval x=Q)
  (h1:∀u∈z,u.oneCell'=true) (ad:n+m<=maxLen) (hb:(n+m) * bytes<=140737488355328) (ah:base<=p.heap.size)
  (h:∀v' w',w'.ownsRow base e size v' (n+m) (xs++z)->p.grownBy w' v.ownBlock->(v'.ownBlock=v.ownBlock\/v'.ownBlock=some p.heap.size)->wpList prog B Z rest (I.put N.dst v') w'):wpList prog B Z (N::rest) I p:=by
 obtain⟨i0,hi,ai,aj,ak⟩:=au' Y;rcases F.2 with ⟨rfl,rfl⟩|⟨g,cap,ao,rfl,az,aA,aB,aC,aD,aE⟩
 ·have hn:z=[]:=by have:=F.1;simpa using this
  subst hn;refine pi' M fun K hK=>?_;have ap:(Builtin.append_ #[t,t] N.type #[v, .slice none 0 0]).run prog p= .ok v p:=by
   rcases J.2 with ⟨rfl,rfl⟩|⟨g,cap,ao,rfl,_,_,aq,_⟩
   ·simp[Builtin.append_,run_underlying H,sizeOf,typeInfo,hi,Builtin.lenOf,Builtin.firstCells]
   ·simp[Builtin.append_,run_underlying H,sizeOf,typeInfo,hi,Builtin.lenOf,Builtin.firstCells,aq,storeCells]
  unfold Oper.wp;simp[execOp,O,resolve,invoke,builtin,hs,V,ap,Result.andThen];exact hK _ _ (h v p (by simpa using J) (World.grownBy.refl _ _) (.inl rfl))
 ·refine wpList_append_own_at p M s x t O base e i0 G size bytes H hi ai aj ak aa ab v n xs hs J ⟨g,0,none⟩ m cap z V F.1 ?_ h1 ad hb ah (fun v' w' au av _ ax=>h v' w' au av ax);intro j u hj;have ay:j < m * size:=by rw[<-F.1];exact(z28.1 hj).1
  have:=z59 F j ay;rw[hj]at this;rw[dG',z44];exact this
theorem lD' (a:Mq.Ag) (i t:Nat):(bU' a i t 4).length<=4:=by
 unfold bU';rw[z43];exact gW' _ _ _ _ _
theorem lE' (a:Mq.Ag) (t:Nat):∀j,(lB' a t j).length<=4 * j
 |0=>z13 _
 |j+1=>by have ih:=lE' a t j;have h:=lD' (bB' a t j) j t;rw[jK',z35];omega
theorem Qh.one (h:Qh w p c t T D):∀u∈t,u.oneCell'=true:=by
 intro u hu;obtain⟨j,hj,rfl⟩:=zE' hu;obtain⟨z,cap,e,_⟩:=(bq' (h.each j _ (z18 hj))).shape;rw[e];rfl
section
variable {w:World} {p:Nat} {g:Nat->Nat} {free:List Nat} {sh:Nat->List (Nat×Value)} {st:Mq.Stv} {c:Av} {a:Mq.Ag} {pl:Nat->List Nat}
end
section
variable {w:World} {p:Nat} {g:Nat->Nat} {free:List Nat} {sh:Nat->List (Nat×Value)} {st:Mq.Stv} {c:Av} {a:Mq.Ag} {pl:Nat->List Nat}
end
def zQ' (w:World) (v:Nat) (a:Mq.Ag) (U:Nat->Prop):Prop:=
 ∃p g free sh z st c,w.heap[v]? =some (.cells #[D' p] 90 (0,0))/\Je w p g a.Qf a.Qd a.fenced free sh st c/\tL' st/\Js a st.Qe g free sh z/\U=fun k=>k=v\/PaU p c k
section
variable {w z:World} {p v:Nat} {g:Nat->Nat} {tk:Nat} {wel fen:Bool} {free:List Nat} {sh:Nat->List (Nat×Value)} {st:Mq.Stv} {c:Av} {a a':Mq.Ag} {U:Nat->Prop} {N:Nat}
theorem wY' (F:Je w p g tk wel fen free sh st c) {q:Nat} (hb:w.heap[v]? =some (.cells #[D' q] 90 (0,0))):¬PaU p c v:=
 dc' F hb (by decide) (by decide) (by decide) (by decide) (by decide) (by decide) (by decide)
theorem rf' (h:zQ' w v a U):
  Calls prog 39 #[D' v] w fun r w'=>r= .returned (.int .i64 a.Qa)/\Below w.heap.size w w':=by
 obtain⟨p,g,free,sh,M,st,c,hb,G,hs,H,rfl⟩:=h;have c0:w.cell? ⟨v,0,none⟩=some (D' p):=y' (i:=0) hb;have F:=bW' G;rw[H.ep]at F;have I:=m' F;clear G hb F H;unfold D' at *;go_enter func39,ntmps39;go_wp2_with (go_at_call 66;refine(d' I).mono ?_;rintro r y ⟨rfl,J⟩;obtain rfl:w=y:=J.symm);go_ret;exact⟨rfl,z11 _ _⟩
theorem rg' (i:Int) (h:zQ' w v a U):
  Calls prog 26 #[D' v, .int .i64 i] w fun r w'=>
   ∃lv,r= .returned lv/\w'.ownsRow w.heap.size 9 1 lv (aP' a i).length (ao' (aP' a i))/\Below w.heap.size w w':=by
 obtain⟨p,g,free,sh,I,st,c,hb,F,hs,G,rfl⟩:=h;have c0:w.cell? ⟨v,0,none⟩=some (D' p):=y' (i:=0) hb;have H:=m' (qL' F hs G i);generalize aP' a i=xs at *;clear F hb G;unfold D' at *;go_enter func26,ntmps26;go_wp2_with (go_at_call 55;refine(d' H).mono ?_;rintro r y ⟨lv,rfl,k1,k2⟩;replace k1:=m' k1;replace k2:=m' k2);go_ret;exact⟨lv,rfl,d' k1,d' k2⟩
end
end Go.Proofs.YtamafdcnbcoegaaGreat
