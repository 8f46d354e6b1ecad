/-
  Part 16 of a proof: L30, D25, B1, L32, L33, L38, LB5, T5, T6, U5, T8, V6, K22.
-/
import Derived.Test.YtamafdcnbcoegabGreatCm15
set_option maxRecDepth 100000
set_option maxHeartbeats 40000000
namespace Go.Proofs.YtamafdcnbcoegabGreat
open Go.RowKit
def xC' (s a b d:Nat) (rv:Value):Array Value:= #[A' s, .int .i64 a, .int .i64 b, .int .i64 d,
 .slice none 0 0, .map none, .slice none 0 0, .map none, .slice none 0 0, .map none, .slice none 0 0, .map none, .slice none 0 0, .map none, .slice none 0 0, .map none, .slice none 0 0, .map none, .slice none 0 0, .map none, .slice none 0 0, .map none,
 .slice none 0 0, .int .i64 0, .bool false, .bool false,rv]
theorem wB' {w x:World} {p s dp:Nat} {g:Nat->Nat} {l:Mod.Ld} {dlv duv rv:Value} {st:Mod.Stv} (h:hD' w x p s g l) (hs:cM' x s dp st dlv duv) (hl:st.dk.bytes.length=1664) (G:∀k,StU s dp dlv duv k->k≠p)
  {y:World} (H:y=x.setCell ⟨p,26,none⟩ rv) {R:Obj} (I:as' (y.alloc R) 134 2 rv 3 (aH' p)):
  ∃c,aC' (y.alloc R) p g 0 false false l.free (eG' l) st c/\(∀k,PaU p c k->k=p\/w.heap.size<=k\/StU s dp dlv duv k\/rv.ownBlock=some k):=by
 obtain⟨arr,nv,mv,fv,K,O,N⟩:=h;subst H;have J:=S' x p 26 rv;have F:Below (x.setCell ⟨p,26,none⟩ rv).heap.size (x.setCell ⟨p,26,none⟩ rv) ((x.setCell ⟨p,26,none⟩ rv).alloc R):=(Below.refl _ _).alloc (Nat.le_refl _) _;have z:Far (fun k=>k=p) x ((x.setCell ⟨p,26,none⟩ rv).alloc R):=J.trans (C' (E:=fun _=>False) F) (fun _ _ h=>h.elim);have r:∀j,j≠26->(arr.setIfInBounds 26 rv)[j]? =arr[j]? :=fun j hj=>Array.getElem?_setIfInBounds_ne (fun e=>hj e.symm);refine⟨⟨arr.setIfInBounds 26 rv,s,dp,nv,mv,fv,rv,dlv,duv⟩,⟨⟨?_,by simpa using K.sz,?_,?_,?_,?_,?_,?_,?_,?_,?_,?_,?_,K.apf,K.aps⟩,?_,I,hl⟩,?_⟩
 ·exact(F.block p (by simp;exact lt_of_block K.blk)).trans (ah' K.blk)
 ·rw[r _ (by omega)];exact K.a0
 ·intro i hi;rw[r _ (by omega)];exact K.ag i hi
 ·intro i hi;rw[r _ (by omega)];exact K.an i hi
 ·intro i hi;rw[r _ (by omega)];exact K.am i hi
 ·rw[r _ (by omega)];exact K.af
 ·rw[r _ (by omega)];exact K.at'
 ·rw[r _ (by omega)];exact K.aw
 ·rw[r _ (by omega)];exact K.ae
 ·have:=K.sz;simp[this]
 ·exact K.fr.far z (fun g M e=>K.fr.ne K.blk (by decide) (by rw[M,e]))
 ·intro i hi;exact(K.shs i hi).far z (fun k D e=>(K.shs i hi).ne K.blk (by decide) (by rw[<-e];exact D))
 ·exact hs.far z (fun k D e=>G k D e)
 ·rintro k (h|h|h)
  ·rcases N k h with h|h
   ·exact .inl h
   ·exact .inr (.inl h)
  ·exact .inr (.inr (.inl h))
  ·exact .inr (.inr (.inr h))
theorem qw' (w:World) (v:Value) (L:List UInt8) (aA:ab' w v L) (F:L.length=1664) {h:Mod.Hd} {at':Nat} {rs:List Mod.Rc} (ad:Mod.openSt L=some (h,at',rs)):
  Calls Tryz.prog 49 #[v] w fun I w'=>Mod.ldRes h.num rs=none/\I= .returned (.tuple #[.pointer none, .int .i64 2])/\Below w.heap.size w w'\/
   ∃l p c,Mod.ldRes h.num rs=some l/\I= .returned (.tuple #[A' p, .int .i64 0])/\aC' w' p h.num 0 false false l.free (eG' l) (cD' L h at') c/\Below w.heap.size w w'/\∀k,PaU p c k->w.heap.size<=k:=by
 have J:=gJ' w v L 26 aA (by omega) (by omega) (by omega) ad;rw[nz']at J;obtain⟨ah,ai⟩:=Mod.openSt_some ad;have aB:=tf' ai;have aC:rs.length=24:=by have:=(Mod.recsFrom_some _ _ ai).1;rw[this,F]
 obtain⟨_,aD,aE,_⟩:=Mod.newest_some ah;have aF:=Mod.headIs_small aD;rw[<-aE]at aF;have aG:∀i,i < 3->h.num i<=2147483647:=fun i _=>by
  unfold Mod.Hd.num;split
  ·omega
  ·split <;> omega
 have aH:(cD' L h at').dk.bytes.length=1664:=by have:=(Mod.opened_ok ah (m:=26) (by omega) (by omega)).len;exact this
 obtain⟨bw,cap,rfl,bc,be,_⟩:=aA;obtain⟨n,aI⟩:∃n,n=L.length:=⟨_,rfl⟩;rw[<-aI]at F bc be J ⊢;subst F;generalize cD' L h at'=st at *;have aJ:h.num 0=h.a:=rfl;have aK:h.num 1=h.b:=rfl;have aL:h.num 2=h.d:=rfl;rw[<-aJ,<-aK,<-aL]at J;generalize h.num=M at *;have aM:=y' J;have Q:=y' (And.intro aB (And.intro aC (And.intro aH aG)));clear aI ad ah ai aD aE aF J aB aC aH aJ aK aL aG;obtain⟨res,U⟩:∃res,res=Mod.ldRes M rs:=⟨_,rfl⟩;rw[<-U];obtain⟨V,aj⟩:∃V,V=M 0:=⟨_,rfl⟩;obtain⟨X,ak⟩:∃X,X=M 1:=⟨_,rfl⟩;obtain⟨nd,ao⟩:∃nd,nd=M 2:=⟨_,rfl⟩;rw[<-aj,<-ak,<-ao]at aM;have ap:=y' (And.intro aj (And.intro ak ao));clear aj ak ao;unfold A' at *;go_enter Tryz.func49,Tryz.ntmps49;go_upto_region 7 with (go_at_call 74;refine(i' aM).mono ?_;rintro I y ⟨s,dp,lv,bf,rv,rfl,aN,aO,O,aq⟩;obtain⟨bz,bg,rfl,_,_,aP⟩:=(as'.of_own (au' O (Nat.zero_le _))).shape);obtain⟨bh,bi,rfl,_⟩:=aP (by omega);have bj:bi=0:=by
  rcases O with ⟨_,⟨h,_⟩|⟨g',bA,bB,h,_⟩⟩
  ·cases h
  ·injection h with h;injection h with h;injection h
 subst bj;clear aP;obtain⟨r,au⟩:∃r,r=y.heap.size:=⟨_,rfl⟩;have Y:=y' au;rw[<-au];have bk:w.heap.size<=r:=by have:=aq.size;omega
 clear au;refine H' (fun x=>x.heap[r]? =some (.cells #[.int .i64 V, .int .i64 X, .int .i64 nd, .slice (some ⟨bh,0,none⟩) 24 bg] 143 (0,0))/\x.heap[r+1]? =some (.cells (xC' s V X nd (.slice none 0 0)) 116 (0,0))/\Below r y x) ?_ ?_
 ·rw[i' Y];exact ca' _ _ _
 rintro x ⟨h5,Z,aa⟩;have bC:=lt_of_block Z;have aQ:=t' (i:=3) h5;simp at aQ;have aR:=ay' (au' O (Nat.zero_le _)) (fun g bl=>by have:=(World.ownsRow.lt O g bl).2;exact aa.block g (by rw[i' Y];exact this));have av:=y' (aN.far (C' (E:=fun _=>False) (by rw[<-i' Y];exact aa)) (fun _ _ h=>h));have bm:=y' aO;have ax:=y' (aq.trans (aa.mono bk));have aS:=y' Z;have aT:hD' x x (r+1) s M Mod.ld0:=vC' Z (by rw[<-(i' ap).1,<-(i' ap).2.1,<-(i' ap).2.2];rfl);have ay:=sk' aT aR (i' Q).2.1 (by omega) (i' Q).1 (i' Q).2.2.2;rw[<-U]at ay;have ab:=y' ay;have bD:=y' U;clear aN aO O aR aq aa h5 Z Y aT ay U;have aU:¬StU s dp lv bf (r+1):=by
  rintro(h|h)
  ·have h1:=(i' av).blk;rw[<-h,i' aS]at h1;injection h1 with h1;injection h1 with _ h1 _;exact absurd h1 (by decide)
  ·exact el' (i' av).dk (i' aS) (by decide) (by decide) (by decide) h
 unfold A' at ab;cases res with
 |none=>
  go_wp2_with (go_at_call 75;refine(i' ab).mono ?_;rintro I z ⟨rfl,hF,_⟩;replace hF:=y' hF)
  go_ret2
  have G:Far (fun k=>k=r+1) w z:=(C' (E:=fun k=>k=r+1) (i' ax)).trans (i' hF) (fun _ _ h=>h);first|exact .inl ⟨rfl,rfl,G.below (Nat.le_refl _) (fun k D h=>by omega)⟩|exact⟨rfl,G.below (Nat.le_refl _) (fun k D h=>by omega)⟩|exact .inl ⟨rfl,G.below (Nat.le_refl _) (fun k D h=>by omega)⟩
 |some l=>
  go_upto_region 9 with (go_at_call 75;refine(i' ab).mono ?_;rintro I z ⟨rfl,hF,hl⟩;have F:=hl l rfl;clear hl)
  have aV:=(i' av).far hF (fun k D e=>aU (by rw[<-e];exact D));have G:Far (fun k=>k=r+1) w z:=(C' (E:=fun k=>k=r+1) (i' ax)).trans hF (fun _ _ h=>h);have H:Below w.heap.size w z:=G.below (Nat.le_refl _) (fun k D h=>by omega);have bn:=y' (And.intro F (And.intro aV H));obtain⟨arr,nv,mv,fv,K,_,_⟩:=F;have aW:r+1 < z.heap.size:=lt_of_block K.blk;have aX:z.cell? ⟨r+1,26,none⟩=some (.slice none 0 0):=by rw[t' K.blk];exact K.ar
  have bE:∀o,(z.alloc o).cell? ⟨r+1,26,none⟩=some (.slice none 0 0):=fun o=>(World.cell?_alloc_lt z _ ⟨r+1,26,none⟩ aW).trans aX;have bF:∀o,(z.alloc o).frozen? ⟨r+1,26,none⟩=false:=fun o=>I' (i:=26) ((hao _ _ aW).trans K.blk);have bG:¬r+1=z.heap.size:=by omega
  clear aX K hF G H aV aQ ab;go_wp2;go_ret2;obtain⟨F,bo,H⟩:=i' bn;obtain⟨R,aY⟩:∃R,R=Obj.cells (aH' (r+1)).toArray 134 (0,0):=⟨_,rfl⟩;obtain⟨ac,az⟩:∃ac,ac=z.setCell ⟨r+1,26,none⟩ (.slice (some ⟨z.heap.size,0,none⟩) 3 3):=⟨_,rfl⟩;have bp:ac.heap.size=z.heap.size:=by rw[az,World.size_setCell]
  have bq:as' (ac.alloc R) 134 2 (.slice (some ⟨z.heap.size,0,none⟩) 3 3) 3 (aH' (r+1)):=by refine⟨by simp[aH'], .inr ⟨z.heap.size,0,3,(aH' (r+1)).toArray,rfl,?_,by omega,by unfold maxLen;omega,by simp[aH'],by simp[aH']⟩⟩;rw[<-bp,heap_alloc_new,aY]
  obtain⟨c,aZ,br⟩:=wB' F bo (i' Q).2.2.1 (fun k D e=>aU (by rw[<-e];exact D)) az bq;have bt:R=Obj.cells #[.int .i64 2, .func (.func 76) #[.pointer (some ⟨r+1,0,none⟩)] #[], .int .i64 4, .func (.func 77) #[.pointer (some ⟨r+1,0,none⟩)] #[], .int .i64 5, .func (.func 78) #[.pointer (some ⟨r+1,0,none⟩)] #[]] 134 (0,0):=by rw[aY];rfl
  subst bt;subst az;have bH:=(i' ax).size;have bu:∀z3,z3=((z.setCell ⟨r+1,26,none⟩ (.slice (some ⟨z.heap.size,0,none⟩) 3 3)).alloc (.cells #[.int .i64 2, .func (.func 76) #[.pointer (some ⟨r+1,0,none⟩)] #[], .int .i64 4, .func (.func 77) #[.pointer (some ⟨r+1,0,none⟩)] #[], .int .i64 5, .func (.func 78) #[.pointer (some ⟨r+1,0,none⟩)] #[]] 134 (0,0)))->Below w.heap.size w z3/\∀k,PaU (r+1) c k->w.heap.size<=k:=by
   rintro _ rfl;refine⟨(H.setCell (p:=⟨r+1,26,none⟩) (by show w.heap.size<=r+1;omega) _).alloc (by rw[World.size_setCell];exact H.size) _,fun k D=>?_⟩;rcases br k D with h|h|h|h
   ·omega
   ·omega
   ·exact(i' bm) k h
   ·have h2:some z.heap.size=some k:=h;injection h2 with h2;have:=H.size;omega
  obtain⟨ba,bb⟩:=bu _ rfl;first|exact .inr ⟨l,r+1,c,rfl,rfl,aZ,ba,bb⟩|exact⟨l,r+1,c,rfl,rfl,aZ,ba,bb⟩
theorem mL' {w:World} {p:Nat} {d:Mod.Dk} {lv Q:Value} (r:eg' w p d lv Q) (U:Int):
  Calls Tryz.prog 128 #[A' p, .int .u64 U] w fun G w'=>∃z,G= .returned z/\ax' w.heap.size w' z d.bytes/\Below w.heap.size w w':=by
 obtain⟨Y,cap,H,_⟩:=(as'.of_own r.row).shape;obtain⟨Z,aa,I,_⟩:=r.un.shape;have V:=r.len;have J:ab' w lv d.bytes:=(show ax' 0 w lv d.bytes from r.row).at
 have M:=y' (fJ' w lv d.bytes J (by omega) V.2);have c0:w.cell? ⟨p,0,none⟩=some lv:=t' (i:=0) r.blk;have c1:=t' (i:=1) r.blk;simp at c1;rw[I]at c1;have X:=lt_of_block r.blk;rw[H]at c0 M;clear J H I r;unfold A';go_enter Tryz.func128,Tryz.ntmps128;go_upto_region 2 with (go_at_call 163;refine(i' M).mono ?_;rintro G y ⟨z,rfl,D,F⟩;obtain⟨ab,ac,rfl,_⟩:=D.shape);have c1:=(F.cell (p:=⟨p,1,none⟩) X).trans c1;have O:=y' (And.intro D F);clear D F c0;go_wp2;go_loopw[6,7,18] (fun _ _ i wr=>i= .int .i64 0/\wr=y) (fun _ _ _ _=>0)
 case atStart=>exact⟨rfl,rfl⟩
 case round=>obtain⟨rfl,rfl⟩:=hrel;go_wp2;go_ret;exact⟨_,rfl,(i' O).1,(i' O).2⟩
theorem fZ' {w:World} {s dp:Nat} {st:Mod.Stv} {lv I:Value} (r:cM' w s dp st lv I) (G:Int):
  Calls Tryz.prog 83 #[A' s, .int .u64 G] w fun H w'=>∃z,H= .returned z/\ax' w.heap.size w' z st.dk.bytes/\Below w.heap.size w w':=by
 have c0:w.cell? ⟨s,0,none⟩=some (A' dp):=t' (i:=0) r.blk;have J:=y' (mL' r.dk G);clear r;unfold A' at *;go_enter Tryz.func83,Tryz.ntmps83;go_wp2_with (go_at_call 128;refine(i' J).mono ?_;rintro H y ⟨z,rfl,D,F⟩;replace D:=y' D;replace F:=y' F);go_ret;exact⟨_,rfl,i' D,i' F⟩
theorem qx' {w:World} {p:Nat} {d:Mod.Dk} {lv D:Value} (r:eg' w p d lv D) (n:Int) (Q:n<=9223372036854775807):
  Calls Tryz.prog 101 #[A' p, .int .i64 n] w fun J w'=>J= .returned (.tuple #[])/\eg' w' p {d with armed:=n.toNat} lv D/\Far (fun k=>k=p) w w':=by
 have G:=fun v=>y' (ah' (j:=2) (v:=v) r.blk);have H:=y' r;have U:w.frozen? ⟨p,2,none⟩=false:=I' (i:=2) r.blk;have c2:=t' (i:=2) r.blk;simp at c2;clear r;have key:∀m:Nat,m=n.toNat->eg' (w.setCell ⟨p,2,none⟩ (.int .i64 m)) p {d with armed:=n.toNat} lv D/\Far (fun k=>k=p) w (w.setCell ⟨p,2,none⟩ (.int .i64 m)):=by
  rintro m rfl;have r:=i' H;have F:=S' w p 2 (.int .i64 n.toNat);have h1:=i' (G (.int .i64 n.toNat));refine⟨⟨?_,ay' r.row (fun g z=>F.rest g (World.ownsRow.lt r.row g z).2 (fun e=>?_)),r.un.far F (fun g z e=>?_),r.len,by show n.toNat<= _;omega⟩,F⟩
  ·simpa using h1
  ·exact(as'.of_own r.row).ne r.blk (by decide) (by rw[z,e])
  ·exact r.un.ne r.blk (by decide) (by rw[z,e])
 have I:=y' key;clear key G H;by_cases h0:(0:Int)<=n
 ·have M:max (0:Int) n=n:=by omega
  unfold A';go_enter Tryz.func101,Tryz.ntmps101;go_wp2;obtain⟨k1,k2⟩:=(i' I) n.toNat rfl;have O:((n.toNat:Nat):Int)=n:=by omega
  rw[O]at k1 k2;exact bodyPost_end (results_none rfl _ _ _) rfl ⟨rfl,k1,k2⟩
 ·have M:max (0:Int) n=0:=by omega
  unfold A';go_enter Tryz.func101,Tryz.ntmps101;go_wp2;obtain⟨k1,k2⟩:=(i' I) 0 (by omega);exact bodyPost_end (results_none rfl _ _ _) rfl ⟨rfl,k1,k2⟩
theorem iB' {w:World} {s dp:Nat} {st:Mod.Stv} {lv z:Value} (r:cM' w s dp st lv z) (n:Int) (F:n<=9223372036854775807):
  Calls Tryz.prog 65 #[A' s, .int .i64 n] w fun D w'=>D= .returned (.tuple #[])/\cM' w' s dp {st with dk:={st.dk with armed:=n.toNat}} lv z/\Far (fun k=>k=dp) w w':=by
 have c0:w.cell? ⟨s,0,none⟩=some (A' dp):=t' (i:=0) r.blk;have G:=y' (qx' r.dk n F);have H:=y' r;clear r;unfold A' at *;go_enter Tryz.func65,Tryz.ntmps65;go_wp2_with (go_at_call 101;refine(i' G).mono ?_;rintro D y ⟨rfl,k1,k2⟩;replace k1:=y' k1;replace k2:=y' k2);have r:=i' H;have I:s≠dp:=fun e=>r.sep (.inl e);exact bodyPost_end (results_none rfl _ _ _) rfl ⟨rfl,⟨(i' k2).blk r.blk I,i' k1,r.op,r.ct,r.hd⟩,i' k2⟩
theorem mM' {w:World} {p e:Nat} {logs:Nat->List ByteArray} {sh:Nat->List (Nat×Value)} {st:Mod.Stv} {c:Sv} (r:aN' w p e logs sh st c) (G:Int):
  Calls Tryz.prog 56 #[A' p, .int .u64 G] w fun H w'=>∃z,H= .returned z/\ax' w.heap.size w' z st.dk.bytes/\Below w.heap.size w w':=by
 have c0:w.cell? ⟨p,0,none⟩=some (A' c.s):=by rw[t' r.ks.blk,r.ks.a0]
 have I:=y' (fZ' r.stt G);clear r;unfold A' at *;go_enter Tryz.func56,Tryz.ntmps56;go_wp2_with (go_at_call 83;refine(i' I).mono ?_;rintro H y ⟨z,rfl,D,F⟩;replace D:=y' D;replace F:=y' F);go_ret;exact⟨_,rfl,i' D,i' F⟩
theorem qy' {w:World} {p:Nat} {g:Nat->Nat} {tk:Nat} {wel fen:Bool} {free:List Nat} {sh:Nat->List (Nat×Value)} {st:Mod.Stv} {c:Av} (r:aC' w p g tk wel fen free sh st c) (G:Int):
  Calls Tryz.prog 51 #[A' p, .int .u64 G] w fun H w'=>∃z,H= .returned z/\ax' w.heap.size w' z st.dk.bytes/\Below w.heap.size w w':=by
 have c0:w.cell? ⟨p,0,none⟩=some (A' c.s):=by rw[t' r.ks.blk,r.ks.a0]
 have I:=y' (fZ' r.stt G);clear r;unfold A' at *;go_enter Tryz.func51,Tryz.ntmps51;go_wp2_with (go_at_call 83;refine(i' I).mono ?_;rintro H y ⟨z,rfl,D,F⟩;replace D:=y' D;replace F:=y' F);go_ret;exact⟨_,rfl,i' D,i' F⟩
theorem nA' {w:World} {v p e:Nat} {logs:Nat->List ByteArray} {sh:Nat->List (Nat×Value)} {st:Mod.Stv} {c:Sv} (r:w.heap[v]? =some (.cells #[A' p] 79 (0,0))) (F:aN' w p e logs sh st c) (G:Int):
  Calls Tryz.prog 28 #[A' v, .int .u64 G] w fun H w'=>∃z,H= .returned z/\ax' w.heap.size w' z st.dk.bytes/\Below w.heap.size w w':=by
 have c0:w.cell? ⟨v,0,none⟩=some (A' p):=t' (i:=0) r;have I:=y' (mM' F G);clear F r;unfold A' at *;go_enter Tryz.func28,Tryz.ntmps28;go_wp2_with (go_at_call 56;refine(i' I).mono ?_;rintro H y ⟨z,rfl,D,r⟩;replace D:=y' D;replace r:=y' r);go_ret;exact⟨_,rfl,i' D,i' r⟩
theorem nB' {w:World} {v p:Nat} {g:Nat->Nat} {tk:Nat} {wel fen:Bool} {free:List Nat} {sh:Nat->List (Nat×Value)} {st:Mod.Stv} {c:Av} (r:w.heap[v]? =some (.cells #[A' p] 76 (0,0))) (F:aC' w p g tk wel fen free sh st c) (G:Int):
  Calls Tryz.prog 23 #[A' v, .int .u64 G] w fun H w'=>∃z,H= .returned z/\ax' w.heap.size w' z st.dk.bytes/\Below w.heap.size w w':=by
 have c0:w.cell? ⟨v,0,none⟩=some (A' p):=t' (i:=0) r;have I:=y' (qy' F G);clear F r;unfold A' at *;go_enter Tryz.func23,Tryz.ntmps23;go_wp2_with (go_at_call 51;refine(i' I).mono ?_;rintro H y ⟨z,rfl,D,r⟩;replace D:=y' D;replace r:=y' r);go_ret;exact⟨_,rfl,i' D,i' r⟩
theorem jw' {w:World} {p e:Nat} {logs:Nat->List ByteArray} {sh:Nat->List (Nat×Value)} {st:Mod.Stv} {c:Sv} (r:aN' w p e logs sh st c) (hs:st.dk.dead=false) (bs:Value) (l:List UInt8) (H:ab' w bs l) (I:Wire.reads l=false):
  Calls Tryz.prog 44 #[A' p,bs] w fun F J=>F= .returned (.tuple #[.slice none 0 0, .int .i64 1])/\Below w.heap.size w J:=by
 have c0:w.cell? ⟨p,0,none⟩=some (A' c.s):=by rw[t' r.ks.blk,r.ks.a0]
 have G:=ai' r.stt;rw[hs]at G;have M:=y' G;have z:=cB' bs l w H;rw[I]at z;simp only[Bool.false_eq_true,if_false,cN']at z;have O:=y' z;clear r G z;unfold A' at *;go_enter Tryz.func44,Tryz.ntmps44;go_wp2_with (first|(go_at_call 66;refine(i' M).mono ?_;rintro F y ⟨rfl,rfl⟩)|(go_at_call 69;refine(i' O).mono ?_;rintro F y ⟨rfl,D⟩;replace D:=y' D));go_ret2;exact⟨rfl,(i' D).alloc (i' D).size _⟩
section
variable {w:World} {p:Nat} {g:Nat->Nat} {tk:Nat} {wel fen:Bool} {free:List Nat} {sh:Nat->List (Nat×Value)} {st:Mod.Stv} {c:Av} {a:Mod.Ag} {pl:Nat->List Nat}
theorem mN' (r:aC' w p g tk wel fen free sh st c) (hs:st.dk.dead=true) (i:Int) (s:ByteArray):
  Calls Tryz.prog 50 #[A' p, .int .i64 i, .string s] w fun D w'=>D= .returned (.int .i64 3)/\w'=w:=by
 have c0:w.cell? ⟨p,0,none⟩=some (A' c.s):=by rw[t' r.ks.blk,r.ks.a0]
 have z:=ai' r.stt;rw[hs]at z;have F:=y' z;clear r z;unfold A' at *;go_enter Tryz.func50,Tryz.ntmps50;go_wp2_with (go_at_call 66;refine(i' F).mono ?_;rintro D y ⟨rfl,G⟩;obtain rfl:w=y:=G.symm);go_ret;exact⟨rfl,rfl⟩
theorem lH' (r:aC' w p g tk wel fen free sh st c) (hs:st.dk.dead=true) (bs:Value):
  Calls Tryz.prog 45 #[A' p,bs] w fun D w'=>D= .returned (.int .i64 3)/\w'=w:=by
 have c0:w.cell? ⟨p,0,none⟩=some (A' c.s):=by rw[t' r.ks.blk,r.ks.a0]
 have z:=ai' r.stt;rw[hs]at z;have F:=y' z;clear r z;unfold A' at *;go_enter Tryz.func45,Tryz.ntmps45;go_wp2_with (go_at_call 66;refine(i' F).mono ?_;rintro D y ⟨rfl,G⟩;obtain rfl:w=y:=G.symm);go_ret;exact⟨rfl,rfl⟩
theorem ui' (r:aC' w p g tk wel fen free sh st c) (n:Int) (D:n<=9223372036854775807):
  Calls Tryz.prog 41 #[A' p, .int .i64 n] w fun z w'=>z= .returned (.tuple #[])/\aC' w' p g tk wel fen free sh {st with dk:={st.dk with armed:=n.toNat}} c/\Far (fun k=>k=c.dp) w w':=by
 have c0:w.cell? ⟨p,0,none⟩=some (A' c.s):=by rw[t' r.ks.blk,r.ks.a0]
 have F:=y' (iB' r.stt n D);have G:=y' r;clear r;unfold A' at *;go_enter Tryz.func41,Tryz.ntmps41;go_wp2_with (go_at_call 65;refine(i' F).mono ?_;rintro z y ⟨rfl,k1,k2⟩;replace k1:=y' k1;replace k2:=y' k2);have r:=i' G;exact bodyPost_end (results_none rfl _ _ _) rfl ⟨rfl,⟨r.ks.far (i' k2) (fun k H e=>r.sep k H (by rw[e];exact .inr (.inl rfl))),i' k1,r.rl.far (i' k2) (fun g I e=>(r.sepr g I).2 (by rw[e];exact .inr (.inl rfl))),r.len⟩,i' k2⟩
theorem qz' (D:aC' w p g tk wel fen free sh st c) (hs:st.dk.dead=true) (ab:tk<=1000000000):
  Calls Tryz.prog 43 #[A' p] w fun F V=>F= .returned (.slice none 0 0)/\aA' w V p g (tk+1) wel fen free sh st c:=by
 have X:w.cell? ⟨p,23,none⟩=some (.int .i64 tk):=by rw[t' D.ks.blk,D.ks.at']
 have f23:w.frozen? ⟨p,23,none⟩=false:=I' (i:=23) D.ks.blk;obtain⟨z,G⟩:∃z,z=tk+1:=⟨_,rfl⟩;rw[<-G];have Y:=y' G;have Z:=y' D;clear D G;unfold A' at *;go_enter Tryz.func43,Tryz.ntmps43;go_upto_region 2 with fail;refine H' (fun x=>aA' w x p g z wel fen free sh st c) ?_ ?_
 ·rw[show((tk:Int)+1)=((z:Nat):Int) by have:=i' Y;omega];exact er' (i' Z) z
 clear X f23;rintro x aa;obtain⟨c1,r,J,M,s1,O⟩:=aa;have ac:x.cell? ⟨p,25,none⟩=some (.bool fen):=by rw[t' r.ks.blk,r.ks.ae]
 have ad:x.cell? ⟨p,0,none⟩=some (A' c1.s):=by rw[t' r.ks.blk,r.ks.a0]
 have H:=ai' r.stt;rw[hs]at H;have Q:=y' H;have U:=y' (⟨c1,r,J,M,s1,O⟩:aA' w x p g z wel fen free sh st c);clear r J M s1 O H;unfold A' at *;cases fen with
 |true=>
  go_wp2_with (go_at_call 66;refine(i' Q).mono ?_;rintro F y ⟨rfl,I⟩;obtain rfl:x=y:=I.symm)
  go_ret;exact⟨rfl,i' U⟩
 |false=>
  go_wp2_with (go_at_call 66;refine(i' Q).mono ?_;rintro F y ⟨rfl,I⟩;obtain rfl:x=y:=I.symm)
  go_ret;exact⟨rfl,i' U⟩
end
theorem qA' {L:List UInt8} {hd:Mod.Hd} {at':Nat} {rs:List Mod.Rc} {l:Mod.Ld} (H:Mod.openSt L=some (hd,at',rs)) (hl:Mod.ldAll hd.num rs 0 Mod.ld0=some l) (I:∀i,i < 3->Mod.okP (l.sh i) (hd.num i)=true) (J:L.length=1664):
  aQ' (Mod.agOf hd.o hd.num l) (hd.o+1) hd.num l.free (eG' l) (Mod.plOf l):=by
 obtain⟨h1,P,h3⟩:=Mod.agDisk_opened H hl I J;have D:∀i,i < 3->((Mod.agOf hd.o hd.num l).fl i).base=hd.num i:=fun i hi=>by unfold Mod.agOf;simp only;rw[if_pos hi]
 have F:∀i,i < 3->((Mod.agOf hd.o hd.num l).fl i).kept=(l.sh i).map fun e=>(e.2.1,0):=fun i hi=>by unfold Mod.agOf;simp only;rw[if_pos hi]
 have M:∀i,i < 3->((Mod.agOf hd.o hd.num l).fl i).held=[]:=fun i hi=>by unfold Mod.agOf;simp only;rw[if_pos hi]
 have G:∀i,eG' l (i * 3+1)=[]:=fun i=>by unfold eG';rw[if_neg (by omega)]
 have r:∀i,eG' l (i * 3+2)=[]:=fun i=>by unfold eG';rw[if_neg (by omega)]
 refine⟨rfl,fun i hi=>(D i hi).symm,P.pn,fun i hi=>?_,fun i hi n=>?_,fun i hi=>?_,fun i hi n=>?_,fun i hi=>?_,fun i hi=>?_,P.nd,P.lt,P.sum⟩
 ·rw[dL',ny',D i hi,F i hi,h3 i hi]
 ·rw[G];unfold cS';rw[F i hi,List.getElem?_map];show none= _;split
  ·rfl
  ·cases (l.sh i)[n - ((Mod.agOf hd.o hd.num l).fl i).base - 1]? with
   |none=>rfl
   |some e=>rfl
 ·rw[G];exact fun x z=>by cases z
 ·rw[r,M i hi];rfl
 ·rw[r];exact fun x z=>by cases z
 ·rw[r];simp
def gC' (op ct n:Nat) (w:World) (v:Nat) (a:Mod.Ag) (z:Nat->Prop):Prop:=
 ∃p g free sh r st c,w.heap[v]? =some (.cells #[A' p] 76 (0,0))/\aC' w p g a.ticks a.welcome a.fenced free sh st c/\fi' op ct n st a free r/\aQ' a st.opening g free sh r/\z=fun k=>k=v\/PaU p c k
def iC' (op:Nat) (w:World) (v:Nat) (a:Mod.Ag) (r:Nat->Prop):Prop:=
 ∃p g free sh st c,w.heap[v]? =some (.cells #[A' p] 76 (0,0))/\aC' w p g a.ticks a.welcome a.fenced free sh st c/\wx' op st a/\a.epoch=op/\r=fun k=>k=v\/PaU p c k
section
variable {op ct n N:Nat} {w w':World} {v:Nat} {a:Mod.Ag} {U:Nat->Prop}
theorem oI' (h:gC' op ct n w v a U):∀k,U k->k < w.heap.size:=by
 obtain⟨p,g,free,sh,F,st,c,r,z,_,_,rfl⟩:=h;rintro k (rfl|D)
 ·exact lt_of_block r
 ·exact z.lt k D
theorem ea' {E:Nat->Prop} (h:gC' op ct n w v a U) (r:Far E w w') (z:∀k,U k->¬E k):gC' op ct n w' v a U:=by
 obtain⟨p,g,free,sh,D,st,c,F,G,h1,h2,rfl⟩:=h;exact⟨p,g,free,sh,D,st,c,r.blk F (z v (.inl rfl)),G.far r (fun k H=>z k (.inr H)),h1,h2,rfl⟩
theorem wC' (h:iC' op w v a U):∀k,U k->k < w.heap.size:=by
 obtain⟨p,g,free,sh,st,c,r,z,_,_,rfl⟩:=h;rintro k (rfl|D)
 ·exact lt_of_block r
 ·exact z.lt k D
theorem vE' {E:Nat->Prop} (h:iC' op w v a U) (r:Far E w w') (z:∀k,U k->¬E k):iC' op w' v a U:=by
 obtain⟨p,g,free,sh,st,c,D,F,h1,h2,rfl⟩:=h;exact⟨p,g,free,sh,st,c,r.blk D (z v (.inl rfl)),F.far r (fun k G=>z k (.inr G)),h1,h2,rfl⟩
theorem sm' (h:gC' op ct 0 w v a U):xM' w v a U:=by
 obtain⟨p,g,free,sh,r,st,c,z,D,h1,h2,rfl⟩:=h;exact⟨p,g,free,sh,r,st,c,z,D,h1.sound,h2,rfl⟩
theorem wD' (h:gC' op ct n w v a U):a.epoch=op:=by
 obtain⟨p,g,free,sh,r,st,c,z,D,h1,h2,rfl⟩:=h;rw[<-h2.ep];exact h1.op
theorem oJ' {p:Nat} {c:Av} {r:World} {a':Mod.Ag} (D:w.heap[v]? =some (.cells #[A' p] 76 (0,0))) (F:¬PaU p c v) (G:a'.epoch=op) (h:fp' op w r p a' c):
  ∃U',iC' op r v a' U'/\Far (fun k=>k=v\/PaU p c k) w r/\∀k,U' k->(k=v\/PaU p c k)\/w.heap.size<=k:=by
 obtain⟨g,free,sh,st,⟨H,K,z,I,s1,M⟩,hs⟩:=h;refine⟨_,⟨p,g,free,sh,st,H,z.blk D F,K,hs,G,rfl⟩,z.mono (fun _ _ h=> .inr h),?_⟩;rintro k (rfl|J)
 ·exact .inl (.inl rfl)
 ·exact(I k J).imp .inr id
theorem oK' (i:Int) (s:ByteArray) (h:gC' op ct 1 w v a U) (G:aL' N a) (Q:N < 1000000000) (h0:a.refuses i s.size=0):
  Calls Tryz.prog 22 #[A' v, .int .i64 i, .string s] w fun r w'=>
   ∃U',r= .returned (.int .i64 4)/\iC' op w' v a U'/\Far U w w'/\∀k,U' k->U k\/w.heap.size<=k:=by
 have H:=wD' h;obtain⟨p,g,free,sh,V,st,c,z,D,hs,I,rfl⟩:=h;have c0:w.cell? ⟨v,0,none⟩=some (A' p):=t' (i:=0) z;have J:Calls Tryz.prog 50 #[A' p, .int .i64 i, .string s] w fun r M=>r= .returned (.int .i64 4)/\fp' op w M p a c:=by obtain⟨⟨h1,h2⟩,h3,h4⟩:=jr' h0;obtain⟨m,rfl⟩:=Int.eq_ofNat_of_zero_le h1;exact oz' D hs I (i:=m) (by omega) s h3 h4 (by have:=G.sum m (by omega);omega)
 have O:=y' J;have F:=y' (And.intro z (And.intro (hB' D z) H));clear D I hs z J H h0 G;unfold A' at *;go_enter Tryz.func22,Tryz.ntmps22;go_wp2_with (go_at_call 50;refine(i' O).mono ?_;rintro r y ⟨rfl,k1⟩;replace k1:=y' k1);go_ret;obtain⟨U',h1,h2,h3⟩:=oJ' (i' F).1 (i' F).2.1 (i' F).2.2 (i' k1);exact⟨U',rfl,h1,h2,h3⟩
theorem oL' (i:Int) (s:ByteArray) (h:iC' op w v a U):Calls Tryz.prog 22 #[A' v, .int .i64 i, .string s] w fun r w'=>r= .returned (.int .i64 3)/\w'=w:=by
 obtain⟨p,g,free,sh,st,c,z,D,hs,G,rfl⟩:=h;have c0:w.cell? ⟨v,0,none⟩=some (A' p):=t' (i:=0) z;have F:=y' (mN' D hs.dead i s);clear D z;unfold A' at *;go_enter Tryz.func22,Tryz.ntmps22;go_wp2_with (go_at_call 50;refine(i' F).mono ?_;rintro r y ⟨rfl,rfl⟩);go_ret;exact⟨rfl,rfl⟩
theorem mO' (bs:Value) (h:iC' op w v a U):Calls Tryz.prog 16 #[A' v,bs] w fun r w'=>r= .returned (.int .i64 3)/\w'=w:=by
 obtain⟨p,g,free,sh,st,c,z,D,hs,G,rfl⟩:=h;have c0:w.cell? ⟨v,0,none⟩=some (A' p):=t' (i:=0) z;have F:=y' (lH' D hs.dead bs);clear D z;unfold A' at c0 F;show Calls Tryz.prog _ #[.pointer (some ⟨v,0,none⟩),bs] w _;go_enter Tryz.func16,Tryz.ntmps16;go_wp2_with (go_at_call 45;refine(i' F).mono ?_;rintro r y ⟨rfl,rfl⟩);go_ret;exact⟨rfl,rfl⟩
theorem sn' (h:iC' op w v a U) (H:a.ticks<=1000000000):Calls Tryz.prog 13 #[A' v] w fun F w'=>
  ∃U',F= .returned (.slice none 0 0)/\iC' op w' v {a with ticks:=a.ticks+1} U'/\Far U w w'/\∀k,U' k->U k\/w.heap.size<=k:=by
 obtain⟨p,g,free,sh,st,c,r,D,hs,G,rfl⟩:=h;have c0:w.cell? ⟨v,0,none⟩=some (A' p):=t' (i:=0) r;have I:=y' (qz' D hs.dead H);have J:=y' (And.intro r (And.intro (hB' D r) (And.intro G hs)));clear D r G hs;unfold A' at *;go_enter Tryz.func13,Tryz.ntmps13;go_wp2_with (go_at_call 43;refine(i' I).mono ?_;rintro F y ⟨rfl,k1⟩;replace k1:=y' k1);go_ret;obtain⟨h1,h2,h3,h4⟩:=i' J;obtain⟨M,O,Q,V,X,z⟩:=h4.dk;obtain⟨U',k2,k3,k4⟩:=oJ' (a':={a with ticks:=a.ticks+1}) h1 h2 h3 ⟨g,free,sh,st,i' k1,⟨h4.dead,h4.op,M,O,Q,V,X.same (fun i _=>⟨rfl,rfl⟩),⟨z.pn,z.nd,z.lt,z.sum⟩⟩⟩;exact⟨U',rfl,k2,k3,k4⟩
theorem tg' {p:Nat} {g:Nat->Nat} {tk:Nat} {wel fen:Bool} {free:List Nat} {sh:Nat->List (Nat×Value)} {st:Mod.Stv} {c:Av} (r:w.heap[v]? =some (.cells #[A' p] 76 (0,0))) (z:aC' w p g tk wel fen free sh st c) (m:Int) (D:m<=9223372036854775807):
  Calls Tryz.prog 11 #[A' v, .int .i64 m] w fun F w'=>F= .returned (.tuple #[])/\w'.heap[v]? =some (.cells #[A' p] 76 (0,0))/\aC' w' p g tk wel fen free sh {st with dk:={st.dk with armed:=m.toNat}} c/\Far (fun k=>k=v\/PaU p c k) w w':=by
 have c0:w.cell? ⟨v,0,none⟩=some (A' p):=t' (i:=0) r;have H:=y' (ui' z m D);have I:=hB' z r;have J:=y' r;clear z r D;unfold A' at *;go_enter Tryz.func11,Tryz.ntmps11;go_wp2_with (go_at_call 41;refine(i' H).mono ?_;rintro F y ⟨rfl,k1,k2⟩;replace k1:=y' k1;replace k2:=y' k2);have G:=i' k2;exact bodyPost_end (results_none rfl _ _ _) rfl ⟨rfl,G.blk (i' J) (fun e=>I (by rw[e];exact .inr (.inl (.inr (.inl rfl))))),i' k1,G.mono (fun k _ e=> .inr (by rw[e];exact .inr (.inl (.inr (.inl rfl)))))⟩
theorem xQ' (m:Int) (h:gC' op ct n w v a U) (z:m<=9223372036854775807):Calls Tryz.prog 11 #[A' v, .int .i64 m] w fun r w'=>r= .returned (.tuple #[])/\gC' op ct m.toNat w' v a U/\Far U w w':=by
 obtain⟨p,g,free,sh,D,st,c,F,G,hs,H,rfl⟩:=h;refine(tg' F G m z).mono ?_;rintro r y ⟨rfl,k1,k2,k3⟩;exact⟨rfl,⟨p,g,free,sh,D,_,c,k1,k2,⟨hs.dead,rfl,hs.op,hs.ct,hs.dk⟩,H,rfl⟩,k3⟩
theorem xR' (h:gC' op ct n w v a U):∃ (L:List UInt8) (c2 hd:Nat) (free:List Nat) (r:Nat->List Nat),Mod.AgDisk L op c2 hd a free r/\Mod.Places a free r/\∀x,Below w.heap.size w x->∀z:Int,
  Calls Tryz.prog 23 #[A' v, .int .u64 z] x fun H y=>∃D,H= .returned D/\ax' x.heap.size y D L/\Below x.heap.size x y:=by
 obtain⟨p,g,free,sh,r,st,c,F,I,hs,J,rfl⟩:=h;refine⟨st.dk.bytes,st.count,st.head,free,r,by rw[<-hs.op];exact hs.dk,J.places,fun x G z=>?_⟩;exact nB' ((G.block _ (lt_of_block F)).trans F) (I.far (E:=fun _=>False) (C' G) (fun _ _ e=>e)) z
theorem xD' (h:iC' op w v a U):a.epoch=op/\∃ (L:List UInt8) (c2 hd:Nat) (free:List Nat) (z:Nat->List Nat),Mod.AgDisk L op c2 hd a free z/\Mod.Places a free z/\∀x,Below w.heap.size w x->∀r:Int,
  Calls Tryz.prog 23 #[A' v, .int .u64 r] x fun H y=>∃D,H= .returned D/\ax' x.heap.size y D L/\Below x.heap.size x y:=by
 obtain⟨p,g,free,sh,st,c,F,I,hs,J,rfl⟩:=h;obtain⟨c2,hd,M,O,Q,V⟩:=hs.dk;refine⟨J,st.dk.bytes,c2,hd,M,O,by rw[<-hs.op];exact Q,V,fun x G r=>?_⟩;exact nB' ((G.block _ (lt_of_block F)).trans F) (I.far (E:=fun _=>False) (C' G) (fun _ _ e=>e)) r
end
theorem qB' {g:Nat->Nat} {rs:List Mod.Rc} {l:Mod.Ld} (h1:Mod.ldAll g rs 0 Mod.ld0=some l) (h2:∀i,i < 3->Mod.okP (l.sh i) (g i)=true):Mod.ldRes g rs=some l:=by
 unfold Mod.ldRes;rw[h1];simp only
 rw[if_pos ⟨h2 0 (by omega),h2 1 (by omega),h2 2 (by omega)⟩]
theorem nC' {w:World} (bs:Value) (L:List UInt8) (X:ab' w bs L) (I:L.length=1664) {h:Mod.Hd} {at':Nat} {rs:List Mod.Rc} {l:Mod.Ld} (J:Mod.openSt L=some (h,at',rs)) (hl:Mod.ldAll h.num rs 0 Mod.ld0=some l) (r:∀i,i < 3->Mod.okP (l.sh i) (h.num i)=true):
  Calls Tryz.prog 21 #[bs] w fun F w'=>
   ∃v Y,F= .returned (.tuple #[A' v, .int .i64 0])/\gC' (h.o+1) 1 0 w' v (Mod.agOf h.o h.num l) Y/\Below w.heap.size w w'/\∀k,Y k->w.heap.size<=k:=by
 have G:Hid (Calls Tryz.prog 49 #[bs] w fun F w'=>∃p c,F= .returned (.tuple #[A' p, .int .i64 0])/\aC' w' p h.num 0 false false l.free (eG' l) (cD' L h at') c/\Below w.heap.size w w'/\∀k,PaU p c k->w.heap.size<=k):=by
  refine(qw' w bs L X I J).mono ?_;rintro F y (⟨h1,_⟩|⟨aa,p,c,M,rfl,k1,k2,k3⟩)
  ·rw[qB' hl r]at h1;cases h1
  ·rw[qB' hl r]at M;injection M with M;subst M;exact⟨p,c,rfl,k1,k2,k3⟩
 have H:Hid (fi' (h.o+1) 1 0 (cD' L h at') (Mod.agOf h.o h.num l) l.free (Mod.plOf l)):=⟨rfl,rfl,rfl,Nat.le_refl _,(Mod.agDisk_opened J hl r I).1⟩;have D:Hid (aQ' (Mod.agOf h.o h.num l) (cD' L h at').opening h.num l.free (eG' l) (Mod.plOf l)):=qA' J hl r I;have O:(Mod.agOf h.o h.num l).ticks=0:=rfl;have Q:(Mod.agOf h.o h.num l).welcome=false:=rfl;have U:(Mod.agOf h.o h.num l).fenced=false:=rfl;clear X J I hl r;generalize Mod.agOf h.o h.num l=a at *;generalize cD' L h at'=st at G H D;generalize h.o+1=op1 at H ⊢;generalize h.num=ab at G D;generalize eG' l=ac at G D;generalize Mod.plOf l=ad at H D;generalize l.free=ah at G H D;have Z:=y' (And.intro O (And.intro Q U));clear O Q U;unfold A' at *;go_enter Tryz.func21,Tryz.ntmps21;go_wp2_with (go_at_call 49;refine(i' G).mono ?_;rintro F y ⟨p,c,rfl,K,z,V⟩;replace K:=y' K;replace z:=y' z;replace V:=y' V);go_ret2;have z:=i' z;obtain⟨O,Q,U⟩:=i' Z;refine⟨y.heap.size,_,rfl,⟨p,_,_,_,_,st,c,heap_alloc_new _ _,?_,i' H,i' D,rfl⟩,z.alloc z.size _,?_⟩
 ·rw[O,Q,U];exact(i' K).below ((Below.refl _ _).alloc (Nat.le_refl _) _)
 ·rintro k (rfl|r)
  ·exact z.size
  ·exact(i' V) k r
theorem xE' {w:World} (bs:Value) (L:List UInt8) {op c2 hd:Nat} {a:Mod.Ag} {free:List Nat} {z:Nat->List Nat} (H:ab' w bs L) (D:Mod.AgDisk L op c2 hd a free z) (P:Mod.Places a free z) (I:a.epoch=op) (J:op<=1073741824) (M:∀i,i < 3->(a.fl i).base+(a.fl i).kept.length<=1073741824):
  Calls Tryz.prog 21 #[bs] w fun O w'=>∃v F,O= .returned (.tuple #[A' v, .int .i64 0])/\gC' (op+1) 1 0 w' v (Mod.reop a) F/\Below w.heap.size w w'/\∀k,F k->w.heap.size<=k:=by
 obtain⟨r,at',rs,l,Q,U,V,G⟩:=Mod.agLoad_some (D.loads P I J M);have X:r.o=op:=by have:=congrArg Mod.Ag.epoch G;have h1:(Mod.reop a).epoch=a.epoch+1:=rfl;have h2:(Mod.agOf r.o r.num l).epoch=r.o+1:=rfl;omega
 subst X;rw[G];exact nC' bs L H D.ok.len Q U V
theorem wE':Mod.ldAll Mod.hd0.num ((List.range (26 - 2)).map fun _=>Mod.rc0) 0 Mod.ld0=some ⟨List.range 24,fun _=>[]⟩:=by rfl
theorem wF':Mod.agOf Mod.hd0.o Mod.hd0.num ⟨List.range 24,fun _=>[]⟩={epoch:=1,ticks:=0,welcome:=false,fenced:=false,fl:=fun _=>{base:=0,kept:=[],held:=[]}}:=by
 unfold Mod.agOf;congr 1;funext i;split
 ·have:Mod.hd0.num i=0:=by
   unfold Mod.Hd.num;repeat' split
   all_goals rfl
  rw[this];rfl
 ·rfl
theorem qC' {w:World} (bs:Value) (z:ab' w bs (List.replicate 1664 0)):
  Calls Tryz.prog 21 #[bs] w fun D w'=>
   ∃v r,D= .returned (.tuple #[A' v, .int .i64 0])/\gC' 1 1 0 w' v {epoch:=1,ticks:=0,welcome:=false,fenced:=false,fl:=fun _=>{base:=0,kept:=[],held:=[]}} r/\Below w.heap.size w w'/\∀k,r k->w.heap.size<=k:=by
 have F:=Mod.openSt_nought 26 (by omega);rw[<-wF'];exact nC' bs _ z (by rw[List.length_replicate]) F wE' (fun i _=>by
  have:Mod.hd0.num i=0:=by
   unfold Mod.Hd.num;repeat' split
   all_goals rfl
  show Mod.okP [] (Mod.hd0.num i)=true;rw[this];rfl)
def xS' (w:World) (v:Nat) (a:Mod.Ag) (r:Nat->Prop):Prop:=gC' a.epoch (1+fY' a) 0 w v a r
section
variable {N:Nat} {w w':World} {v:Nat} {a:Mod.Ag} {U:Nat->Prop}
theorem nD' {op ct r n:Nat} (h:gC' op ct n w v a U) (z:ct<=r):gC' op r n w v a U:=by
 obtain⟨p,g,free,sh,D,st,c,F,G,hs,H,rfl⟩:=h;exact⟨p,g,free,sh,D,st,c,F,G,⟨hs.dead,hs.arm,hs.op,Nat.le_trans hs.ct z,hs.dk⟩,H,rfl⟩
theorem uj' (r:aL' N a) (z:N < 1000000000):fY' a<=12884901882:=td' (fun i hi=>by have:=r.sum i hi;omega)
theorem qD' {i:Int} {s:ByteArray} (h0:a.refuses i s.size=0):1+fY' a+1<=1+fY' (aD' a i s)/\(aD' a i s).epoch=a.epoch:=by
 obtain⟨⟨h1,h2⟩,h3,h4⟩:=jr' h0;obtain⟨m,rfl⟩:=Int.eq_ofNat_of_zero_le h1;have r:m < 3:=by omega
 have:aD' a (m:Int) s=a.submit m s:=by unfold aD';rw[if_pos h0];rfl
 rw[this];refine⟨?_,rfl⟩;obtain rfl|rfl|rfl:m=0\/m=1\/m=2:=by omega
 all_goals
  simp[fY',Mod.Ag.submit,Mod.upd];omega
theorem uk' (a:Mod.Ag) (l:List UInt8):(aB' a l).2.epoch=a.epoch:=by
 unfold aB';split
 ·unfold Mod.Ag.deliver;repeat' split
  all_goals rfl
 ·rfl
theorem wG' (a:Mod.Ag):a.tick.1.epoch=a.epoch:=by
 unfold Mod.Ag.tick;repeat' split
 all_goals rfl
theorem xF' (bs:Value) (L:List UInt8) {c2 hd:Nat} {free:List Nat} {r:Nat->List Nat} (D:ab' w bs L) (F:Mod.AgDisk L a.epoch c2 hd a free r) (P:Mod.Places a free r) (G:a.epoch<=1073741824) (H:∀i,i < 3->(a.fl i).base+(a.fl i).kept.length<=1073741824):
  Calls Tryz.prog 21 #[bs] w fun z w'=>∃v U,z= .returned (.tuple #[A' v, .int .i64 0])/\xS' w' v (Mod.reop a) U/\Below w.heap.size w w'/\∀k,U k->w.heap.size<=k:=by
 refine(xE' bs L D F P rfl G H).mono ?_;rintro z y ⟨v,U,rfl,k1,k2,k3⟩;exact⟨v,U,rfl,nD' k1 (by omega),k2,k3⟩
theorem qE' (bs:Value) (z:ab' w bs (List.replicate 1664 0)):
  Calls Tryz.prog 21 #[bs] w fun r w'=>
   ∃v U,r= .returned (.tuple #[A' v, .int .i64 0])/\xS' w' v {epoch:=1,ticks:=0,welcome:=false,fenced:=false,fl:=fun _=>{base:=0,kept:=[],held:=[]}} U/\Below w.heap.size w w'/\∀k,U k->w.heap.size<=k:=by
 refine(qC' bs z).mono ?_;rintro r y ⟨v,U,rfl,k1,k2,k3⟩;exact⟨v,U,rfl,nD' k1 (by omega),k2,k3⟩
end
attribute [local go_sem] Oper.semAt_some
section
variable {w:World} {p:Nat} {g:Nat->Nat} {free:List Nat} {sh:Nat->List (Nat×Value)} {st:Mod.Stv} {c:Av} {a:Mod.Ag} {pl:Nat->List Nat}
theorem qF' (H:aC' w p g a.ticks a.welcome a.fenced free sh st c) (hs:st.dk.dead=false) (X:aQ' a st.opening g free sh pl) (i:Nat) (Z:i < 3):
  Calls Tryz.prog 47 #[A' p, .int .i64 i] w fun ao aU=>∃v,ao= .returned v/\aU.ownsRow w.heap.size 9 1 v (a.spool i).length (aV' (a.spool i))/\Below w.heap.size w aU:=by
 have c0:w.cell? ⟨p,0,none⟩=some (A' c.s):=by rw[t' H.ks.blk,H.ks.a0]
 have aB:=ai' H.stt;rw[hs]at aB;have bt:=y' aB;have aC:=bj' (i:Int) w;rw[show Wire.isStr (i:Int)=true by simp[Wire.isStr];omega]at aC;have bu:=y' aC;have bR:=lt_of_block H.ks.blk;have ap:=fun y (F:Below w.heap.size w y)=>y' (uX' (H.below F).ks.blk (H.ks.an (i * 3) (by omega)) ((H.below F).ks.shs (i * 3) (by omega)));rw[show 4+i * 3 * 2=4+i * 6 by omega]at ap;have aa:(sh (i * 3)).length=(a.spool i).length:=by rw[X.kp i Z,dF' _ _ _ (X.pn i Z)];simp[Mod.Ag.spool]
 have aV:(0:Int)<=(i:Int):=by omega
 have bS:(i:Int) < 3:=by omega
 have aq:∀k (D:k < (sh (i * 3)).length),∃ (O:ByteArray) (q:Nat),(sh (i * 3))[k].2=ce' O q/\(a.spool i)[k]? =some O:=by
  intro k D;have aW:k < (a.fl i).kept.length:=by rw[aa]at D;simpa[Mod.Ag.spool]using D
  have h1:=ji' (a.fl i).base (a.fl i).kept (pl i) k (X.pn i Z) aW;rw[<-X.kp i Z,List.getElem?_eq_getElem D]at h1;injection h1 with h1;exact⟨_,_,by rw[h1],by simp[Mod.Ag.spool,List.getElem?_eq_getElem aW]⟩
 have aX:ob' (sh (i * 3)):=by rw[X.kp i Z];exact gv' _ _ _
 have bw:(a.spool i).length<=24:=by have h1:=X.sum;have h2:=oh' (a:=a) Z;simp[Mod.Ag.spool];omega
 have aD:=fun y (F:Below w.heap.size w y)=>y' ((H.below F).ks.shs (i * 3) (by omega));have aE:∀y (F:Below w.heap.size w y),Hid (y.cell? ⟨p,4+i * 6,none⟩=some (c.nv (i * 3))/\y.cell? ⟨p,4+i * 6+1,none⟩=some (c.mv (i * 3))):=fun y F=>y' ⟨by
  rw[t' (H.below F).ks.blk,show 4+i * 6=4+i * 3 * 2 by omega,H.ks.an (i * 3) (by omega)],by
  rw[t' (H.below F).ks.blk,show 4+i * 6+1=4+i * 3 * 2+1 by omega,H.ks.am (i * 3) (by omega)]⟩
 obtain⟨L,aY⟩:∃L,L=sh (i * 3):=⟨_,rfl⟩;obtain⟨nv,aZ⟩:∃v,v=c.nv (i * 3):=⟨_,rfl⟩;obtain⟨mv,ba⟩:∃v,v=c.mv (i * 3):=⟨_,rfl⟩;obtain⟨Q,bb⟩:∃Q,Q=a.spool i:=⟨_,rfl⟩;rw[<-aZ,<-ba]at aD aE;rw[<-aY]at aD ap aq aX aa;rw[<-bb]at aq aa bw ⊢;have bz:=y' aq;have bc:=y' aa;clear H X aB aa aq aY aZ ba bb aC;unfold A' at *;refine callsIn_wide.1 (callsIn_of_wp_marks (n:=5) Tryz.func47 rfl trivial ?_ rfl);refine wpIn_wide.2 ?_;simp only[Tryz.ntmps47,List.size_toArray,List.length_cons,List.length_nil,Nat.reduceAdd,Nat.reduceSub,Array.replicate_succ,Array.replicate_zero,List.push_toArray,List.append_toArray,List.nil_append,List.cons_append];go_upto_region 4 with (first|(go_at_call 71;refine(i' bu).mono ?_;rintro ao y ⟨rfl,aF⟩;obtain rfl:w=y:=aF.symm)|(go_at_call 66;refine(i' bt).mono ?_;rintro ao y ⟨rfl,aF⟩;obtain rfl:w=y:=aF.symm));obtain⟨r,ab⟩:∃r,r=w.heap.size:=⟨_,rfl⟩;have aG:=y' ab;rw[<-ab];refine H' (fun x=>x.heap[r]? =some (.cells #[.slice none 0 0] 33 (0,0))/\Below r w x/\x.heap.size=r+1) ?_ ?_
 ·rw[ab];exact⟨heap_alloc_new _ _,(Below.refl _ _).alloc (Nat.le_refl _) _,by simp⟩
 rintro x ⟨h5,z,be⟩;have bf:=y' (i' (ap x (by rw[<-ab];exact z)));have ac:=y' (And.intro h5 (And.intro z be));clear ab h5 z be ap;go_wp2_with (go_at_call 73;refine(i' bf).mono ?_;rintro ao y ⟨rfl,F⟩);clear bf;have aH:y.heap.size=r+3:=by rw[F];simp[dt',(i' ac).2.2]
 have au:x.heap.size=r+1:=(i' ac).2.2;have aI:y.heap[r]? =some (.cells #[.slice none 0 0] 33 (0,0)):=by rw[F];unfold dt';rw[hao _ _ (by simp;omega),hao _ _ (by omega)];exact(i' ac).1
 have aJ:y.heap[r+1]? =some (.cells #[.pointer (some ⟨p,4+i * 6,none⟩)] 197 (0,0)):=by rw[F];unfold dt';rw[hao _ _ (by simp;omega),<-au];exact heap_alloc_new _ _
 have aK:y.heap[r+2]? =some (.cells #[.int .i64 L.length] 3 (0,0)):=by rw[F];unfold dt';have:=heap_alloc_new (x.alloc (.cells #[.pointer (some ⟨p,4+i * 6,none⟩)] 197)) (.cells #[.int .i64 L.length] 3);rw[World.size_alloc,au]at this;exact this
 have aL:Below r w y:=by rw[F];unfold dt';exact((i' ac).2.1.alloc (by omega) _).alloc (by simp;omega) _
 rw[<-F,au];clear F au ac;refine wpIn_wide.1 (jR' (n:=5) (b:=r+1) (p:=p) (o:=4+i * 6) (m:=L.length) nv mv L aX rfl rfl (fun k W=>(∃v,W.heap[r]? =some (.cells #[v] 33 (0,0))/\W.ownsRow (r+5) 9 1 v k (aV' (Q.take k)))/\W.heap[r+1]? =some (.cells #[.pointer (some ⟨p,4+i * 6,none⟩)] 197 (0,0))/\W.heap[r+2]? =some (.cells #[.int .i64 L.length] 3 (0,0))/\Below r w W/\r+5<=W.heap.size) ?_ ?_ ?_ ?_ ?_ ?_)
 ·rintro k W bT ⟨⟨v,h5,I⟩,h1,h2,z,Y⟩ G;rw[aH]at G;have J:=fun k (h:k≠r+3) (bA:k≠r+4)=>G.rest k h (by omega);refine⟨⟨v,(J r (by omega) (by omega)).trans h5,R' I (fun g M=>?_)⟩,(J _ (by omega) (by omega)).trans h1,(J _ (by omega) (by omega)).trans h2,⟨G.os.trans z.os,G.tape.trans z.tape,G.output.trans z.output,by rw[G.size];exact z.size,fun k D=>(J k (by omega) (by omega)).trans (z.block k D)⟩,by rw[G.size];exact Y⟩;have:=(World.ownsRow.lt I g M).1;exact J g (by omega) (by omega)
 ·rintro k W ⟨_,h1,h2,z,_⟩;have aM:Below w.heap.size w W:=by rw[<-i' aG];exact z
  exact⟨t' h1,t' h2,(i' (aE W aM)).1,(i' (aE W aM)).2,i' (aD W aM)⟩
 ·intro W bg bU;have D:=fun k (D:k < y.heap.size)=>bg.block k D;exact⟨⟨_,(D r (by omega)).trans aI,World.ownsRow_nil _ _ _ _⟩,(D _ (by omega)).trans aJ,(D _ (by omega)).trans aK,aL.trans (bg.mono (by omega)),by omega⟩
 ·intro k D W bB bC bD;rw[aH]at bD ⊢;obtain⟨O,q,bh,bi⟩:=(i' bz) k D;rw[bh];obtain⟨⟨v,h5,I⟩,h1,h2,z,Y⟩:=bC;generalize L[k].1=bV at *;have bj:Q.take (k+1)=Q.take k++[O]:=by rw[List.take_add_one,bi];rfl
  have bW:k < 24:=by have:=i' bc;omega
  have bE:=y' bj;have bk:=y' (And.intro h5 (And.intro I (And.intro h1 (And.intro h2 (And.intro z Y)))));clear h5 I h1 h2 z Y bj bi aI aJ aK aL bh bB D;unfold ce';obtain⟨U,ad⟩:∃U,U=W.heap.size:=⟨_,rfl⟩;have bX:r+5<=U:=by omega
  have bY:=y' ad;gi_wp2;refine⟨⟨hao _ _ (by omega),hao _ _ (by omega)⟩,?_⟩;intro V G;obtain⟨h5,I,h1,h2,z,Y⟩:=i' bk;have J:∀j,j≠r+3->j≠r+4->j < W.heap.size->V.heap[j]? =W.heap[j]? :=fun j h bA hl=>(G.rest j h (by omega)).trans (hao _ _ hl);have bl:V.heap[U]? =some (.cells #[.string O, .int .i64 q] 140 (0,0)):=by rw[G.rest U (by omega) (by omega),ad];exact heap_alloc_new _ _
  have bF:V.heap.size=U+1:=by rw[G.size,ad];simp
  have ah:=(J r (by omega) (by omega) (by omega)).trans h5;have av:=(J _ (by omega) (by omega) (by omega)).trans h1;have ax:=(J _ (by omega) (by omega) (by omega)).trans h2;have ay:Below r w V:=⟨G.os.trans z.os,G.tape.trans z.tape,G.output.trans z.output,by have:=z.size;omega,fun j hj=>(J j (by omega) (by omega) (by omega)).trans (z.block j hj)⟩;have ai:V.ownsRow (r+5) 9 1 v k (aV' (Q.take k)):=R' I (fun g M=>by have:=World.ownsRow.lt I g M;exact J g (by omega) (by omega) this.2);obtain⟨bm,cap,rfl,_⟩:=(aq' ai).shape;have bG:=t' (i:=0) ah;have bZ:=I' (i:=0) ah;have bH:=t' (i:=0) bl;simp at bG bH;rw[<-ad];obtain⟨xs,aN⟩:∃xs,xs=aV' (Q.take k):=⟨_,rfl⟩;rw[<-aN]at ai;have ca:xs.length=k:=ai.1 |> fun h=>by simpa using h
  have bI:=y' aN;have bn:=y' (And.intro ah (And.intro av (And.intro ax ay)));have aO:=y' ai;clear h5 I h1 h2 z Y J bl ah av ax ay ai G bk aN ad;have bJ:∀bo,(V.alloc bo).heap[r]? =some (.cells #[.slice bm k cap] 33 (0,0)):=fun bo=>(hao _ _ (by omega)).trans (i' bn).1;have bp:∀j,j < r+5->some j≠(Value.slice bm k cap).ownBlock:=fun j hj e=>by have:=(World.ownsRow.lt (i' aO) j e.symm).1;omega
  have bq:=cell_one_new V (.string O) 9;rw[bF]at bq;obtain⟨i0,hi,aV,bK,bL⟩:=info_parts nY';gi_wp2_with (gi_at_builtin;go_loud (refine wpListIn_append_own _ rfl (.tmp 27) (.tmp 30) 33 rfl (r+5) 9 i0 _ 1 16 Tryz.underlying33 hi aV bK bL rfl (by decide) _ k xs rfl (World.ownsRow.alloc (i' aO) _) ⟨U+1,0,none⟩ 1 1 [.string O] rfl rfl bq (by simp[Value.oneCell']) (by unfold maxLen;omega) (by omega) (by simp;omega) ?_;intro cb aP aj az _;obtain⟨aQ,aR,bM,_⟩:=(aq' aj).shape;subst bM;have ak:=(az.block r (by simp;omega) (bp r (by omega))).trans (bJ _);have bN:=t' (i:=0) ak;have cc:=I' (i:=0) ak;simp at bN;replace ak:=y' ak;replace aj:=y' aj;replace az:=y' az));obtain⟨ah,av,ax,ay⟩:=i' bn;have M:=i' az;have cd:U+2<=aP.heap.size:=by have:=M.size;simp at this;omega
  have aS:=S' aP r 0 (.slice aQ (k+1) aR);have aA:∀j,j≠r->j < r+5->(aP.setCell ⟨r,0,none⟩ (.slice aQ (k+1) aR)).heap[j]? =V.heap[j]? :=fun j bO bP=>
   (aS.rest j (by omega) bO).trans ((M.block j (by simp;omega) (bp j bP)).trans (hao _ _ (by omega)))
  refine⟨aA _ (by omega) (by omega),aA _ (by omega) (by omega),⟨_,by have:=ah' (j:=0) (v:= .slice aQ (k+1) aR) (i' ak);simpa using this,?_⟩,(aA _ (by omega) (by omega)).trans av,(aA _ (by omega) (by omega)).trans ax,?_,?_⟩
  ·have e:aV' (Q.take (k+1))=xs++[.string O]:=by rw[i' bE,i' bI];simp[aV']
   rw[e];exact R' (i' aj) (fun g bQ=>by have:=World.ownsRow.lt (i' aj) g bQ;exact aS.rest g this.2 (by omega))
  ·exact((ay.alloc (by omega) _).grown M (by simp;omega) (fun j e=>by have:=(World.ownsRow.lt (i' aO) j e).1;omega)).setCell (p:=⟨r,0,none⟩) (Nat.le_refl _) _
  ·have:=aS.size;omega
 ·intro k W h;have:=h.2.2.2.2;omega
 ·intro W h hK;rw[aH]at hK ⊢;rw[Nat.min_self,i' bc,List.take_length]at h;obtain⟨⟨v,h5,I⟩,_,_,z,Y⟩:=h;have c5:=t' (i:=0) h5;simp at c5;have aT:=y' (And.intro I z);clear h5 I z aI aJ aK aL;go_wp2;have br:∀j,j≠r+3->(W.putObj (r+3) (.deferred none)).heap[j]? =W.heap[j]? :=fun j h=>World.putObj_heap_other h;refine⟨by simp, .inl ⟨_,_,rfl,run_takeDeferred hK,?_⟩⟩;refine⟨_,results_tmp rfl _ _ _,_,rfl,au' (R' (i' aT).1 (fun g M=>br g (by have:=(World.ownsRow.lt (i' aT).1 g M).1;omega))) (by have:=i' aG;omega),?_⟩;obtain⟨_,z⟩:=i' aT;rw[<-i' aG];exact⟨z.os,z.tape,z.output,by rw[World.putObj_size];exact z.size,fun k D=>(br k (by omega)).trans (z.block k D)⟩
theorem oM' (z:aC' w p g a.ticks a.welcome a.fenced free sh st c) (hs:st.dk.dead=false) (D:aQ' a st.opening g free sh pl) (i:Int):
  Calls Tryz.prog 47 #[A' p, .int .i64 i] w fun F G=>∃v,F= .returned v/\G.ownsRow w.heap.size 9 1 v (aG' a i).length (aV' (aG' a i))/\Below w.heap.size w G:=by
 unfold aG';by_cases h:0<=i/\i < 3
 ·rw[if_pos h];obtain⟨n,rfl⟩:=Int.eq_ofNat_of_zero_le h.1;exact qF' z hs D n (by omega)
 ·rw[if_neg h];have H:Wire.isStr i=false:=by
   cases I:Wire.isStr i
   ·rfl
   ·simp[Wire.isStr]at I;omega
  have r:=bj' i w;rw[H]at r;have J:=y' r;clear z D hs r H h;unfold A' at *;go_enter Tryz.func47,Tryz.ntmps47;go_wp2_with (go_at_call 71;refine(i' J).mono ?_;rintro F y ⟨rfl,M⟩;obtain rfl:w=y:=M.symm);go_ret;exact⟨_,rfl,World.ownsRow_nil _ _ _ _,Below.refl _ _⟩
end
def dw' (n:Nat) (w:World) (v:Nat) (a:Mod.Ag) (r:Nat->Prop):Prop:=gC' a.epoch (1+fY' a) n w v a r
section
variable {n N:Nat} {w w':World} {v:Nat} {a:Mod.Ag} {U:Nat->Prop}
theorem mP' (a:Mod.Ag) (i:Int) (s:ByteArray):(aD' a i s).epoch=a.epoch:=by
 unfold aD';split <;> rfl
theorem th' {p:Nat} {c:Av} {r:World} {a':Mod.Ag} (D:w.heap[v]? =some (.cells #[A' p] 76 (0,0))) (F:¬PaU p c v) {op:Nat×Nat} (G:a'.epoch=op.1) (h:bO' op w r p a' c):
  ∃U',dw' op.2 r v a' U'/\Far (fun k=>k=v\/PaU p c k) w r/\∀k,U' k->(k=v\/PaU p c k)\/w.heap.size<=k:=by
 obtain⟨g,free,sh,H,st,⟨I,K,z,J,s1,Q⟩,hs,M⟩:=h;unfold cv' at hs;rw[<-G]at hs;refine⟨_,⟨p,g,free,sh,H,st,I,z.blk D F,K,hs,M,rfl⟩,z.mono (fun _ _ h=> .inr h),?_⟩;rintro k (rfl|O)
 ·exact .inl (.inl rfl)
 ·exact(J k O).imp .inr id
def ul' (a:Mod.Ag) (i:Int) (s:ByteArray) (n:Nat):Nat:=if a.refuses i s.size=0 then n - 1 else n
theorem lI' (i:Int) (s:ByteArray) (h:dw' n w v a U) (J:aL' N a) (V:N < 1000000000) (M:n≠1\/a.refuses i s.size≠0):
  Calls Tryz.prog 22 #[A' v, .int .i64 i, .string s] w fun r w'=>
   ∃U',r= .returned (.int .i64 (a.refuses i s.size))/\dw' (ul' a i s n) w' v (aD' a i s) U'/\Far U w w'/\∀k,U' k->U k\/w.heap.size<=k:=by
 obtain⟨p,g,free,sh,ac,st,c,D,z,hs,F,rfl⟩:=h;have c0:w.cell? ⟨v,0,none⟩=some (A' p):=t' (i:=0) D;have O:Calls Tryz.prog 50 #[A' p, .int .i64 i, .string s] w fun r G=>r= .returned (.int .i64 (a.refuses i s.size))/\bO' (a.epoch,ul' a i s n) w G p (aD' a i s) c:=by
  unfold ul';by_cases h0:a.refuses i s.size=0
  ·rw[if_pos h0];obtain⟨Q,ad⟩:=qD' h0;have H:aD' a i s=a.submit i.toNat s:=by unfold aD';rw[if_pos h0]
   obtain⟨⟨h1,h2⟩,h3,h4⟩:=jr' h0;obtain⟨m,rfl⟩:=Int.eq_ofNat_of_zero_le h1;have ah:=uj' J V;refine(oy' z hs (by omega) (M.resolve_right (by rw[h0];simp)) F (i:=m) (by omega) s h3 h4 (by have:=J.sum m (by omega);omega)).mono ?_;rintro r G ⟨rfl,g2,X,Y,Z,aa,k1,k2,k3⟩;rw[H]at Q ⊢;refine⟨by rw[h0],g2,X,Y,Z,aa,k1,?_,k3⟩;exact⟨k2.dead,k2.arm,k2.op,Nat.le_trans k2.ct Q,k2.dk⟩
  ·rw[if_neg h0];have H:aD' a i s=a:=by unfold aD';rw[if_neg h0]
   rw[H];refine(ox' z hs.dead F i s h0).mono ?_;rintro r G ⟨rfl,rfl⟩;exact⟨rfl,bU' z hs F⟩
 have ab:=y' O;have I:=y' (And.intro D (And.intro (hB' z D) (mP' a i s)));generalize aD' a i s=ai at *;generalize a.refuses i s.size=e at *;generalize ul' a i s n=aj at *;clear z F hs D O M;unfold A' at *;go_enter Tryz.func22,Tryz.ntmps22;go_wp2_with (go_at_call 50;refine(i' ab).mono ?_;rintro r y ⟨rfl,k1⟩;replace k1:=y' k1);go_ret;obtain⟨U',h1,h2,h3⟩:=th' (i' I).1 (i' I).2.1 (i' I).2.2 (i' k1);exact⟨U',rfl,h1,h2,h3⟩
theorem nE' (bs:Value) (l:List UInt8) (h:dw' n w v a U) (Q:aL' N a) (X:N < 1000000000) (F:ab' w bs l) (G:n≠1\/fj' a l=0):
  Calls Tryz.prog 16 #[A' v,bs] w fun H w'=>
   ∃U',H= .returned (.int .i64 (aB' a l).1)/\dw' (eh' (0,n) (fj' a l)).2 w' v (aB' a l).2 U'/\Far U w w'/\∀k,U' k->U k\/w.heap.size<=k:=by
 obtain⟨p,g,free,sh,Y,st,c,r,D,hs,I,rfl⟩:=h;have c0:w.cell? ⟨v,0,none⟩=some (A' p):=t' (i:=0) r;have J:=lA' (op:=(a.epoch,n)) D hs I (fun i hi=>by have:=Q.sum i hi;omega) bs l F G;have M:(aB' a l).2.epoch=(eh' (a.epoch,n) (fj' a l)).1:=by rw[wy'];exact uk' a l
 have O:(eh' (a.epoch,n) (fj' a l)).2=(eh' (0,n) (fj' a l)).2:=by unfold eh';split <;> rfl
 have V:=y' J;have z:=y' (And.intro r (And.intro (hB' D r) (And.intro M O)));generalize (aB' a l).2=Z at *;generalize (aB' a l).1=e at *;generalize eh' (a.epoch,n) (fj' a l)=aa at *;generalize (eh' (0,n) (fj' a l)).2=ab at *;clear D I hs r F J M O G;unfold A' at *;go_enter Tryz.func16,Tryz.ntmps16;go_wp2_with (go_at_call 45;refine(i' V).mono ?_;rintro H y ⟨rfl,k1⟩;replace k1:=y' k1);go_ret;obtain⟨U',h1,h2,h3⟩:=th' (i' z).1 (i' z).2.1 (i' z).2.2.1 (i' k1);rw[(i' z).2.2.2]at h1;exact⟨U',rfl,h1,h2,h3⟩
theorem mQ' (bs:Value) (l:List UInt8) (h:dw' 1 w v a U) (J:aL' N a) (O:N < 1000000000) (D:ab' w bs l) (F:0 < fj' a l):
  Calls Tryz.prog 16 #[A' v,bs] w fun G w'=>
   ∃U',G= .returned (.int .i64 4)/\iC' a.epoch w' v a U'/\Far U w w'/\∀k,U' k->U k\/w.heap.size<=k:=by
 obtain⟨p,g,free,sh,Q,st,c,r,z,hs,H,rfl⟩:=h;have c0:w.cell? ⟨v,0,none⟩=some (A' p):=t' (i:=0) r;have M:=y' (lB' (op:=(a.epoch,1)) z hs H rfl bs l F (fun i hi=>by have:=J.sum i hi;omega) D);have I:=y' (And.intro r (hB' z r));clear z H hs r D F;unfold A' at *;go_enter Tryz.func16,Tryz.ntmps16;go_wp2_with (go_at_call 45;refine(i' M).mono ?_;rintro G y ⟨rfl,k1⟩;replace k1:=y' k1);go_ret;obtain⟨U',h1,h2,h3⟩:=oJ' (i' I).1 (i' I).2 rfl (i' k1);exact⟨U',rfl,h1,h2,h3⟩
theorem vF' (h:dw' n w v a U) (J:aL' N a) (M:N < 1000000000):
  Calls Tryz.prog 13 #[A' v] w fun F w'=>
   ∃lv fs U',F= .returned lv/\Q' w.heap.size w' lv fs (a.tick.2.map fun l=>⟨l.toArray⟩) U'/\dw' n w' v a.tick.1 U'/\Far U w w'/\∀k,U' k->U k\/w.heap.size<=k:=by
 obtain⟨p,g,free,sh,ah,st,c,r,D,hs,G,rfl⟩:=h;have c0:w.cell? ⟨v,0,none⟩=some (A' p):=t' (i:=0) r;have O:=y' (qp' (op:=(a.epoch,n)) D hs G J M);have ai:=lt_of_block r;have Q:=y' (And.intro r (hB' D r));have V:=y' (wG' a);generalize a.tick.1=aj at *;generalize a.tick.2=fr at *;clear D G hs r;unfold A' at *;go_enter Tryz.func13,Tryz.ntmps13;go_wp2_with (go_at_call 43;refine(i' O).mono ?_;rintro F y ⟨lv,fs,rfl,k1⟩;replace k1:=y' k1);go_ret;obtain⟨H,k1,⟨g2,free2,X,Y,Z,K,aa,ab⟩,I,ac,s1,ak⟩:=i' k1;obtain⟨r,ad⟩:=i' Q;refine⟨lv,fs,fun k=>k=v\/PaU p H k,rfl,k1.apartU ?_,⟨p,g2,free2,X,Y,Z,H,I.blk r ad,K,by rw[i' V];exact aa,ab,rfl⟩,I.mono (fun _ _ h=> .inr h),?_⟩
 ·rintro k z (rfl|hu)
  ·have:=(k1.lt k z).1;omega
  ·exact k1.clear k z hu
 ·rintro k (rfl|z)
  ·exact .inl (.inl rfl)
  ·exact(ac k z).imp .inr id
theorem ti' (i:Int) (h:dw' n w v a U):
  Calls Tryz.prog 18 #[A' v, .int .i64 i] w fun r w'=>
   ∃lv,r= .returned lv/\w'.ownsRow w.heap.size 9 1 lv (aG' a i).length (aV' (aG' a i))/\Below w.heap.size w w':=by
 obtain⟨p,g,free,sh,H,st,c,z,D,hs,F,rfl⟩:=h;have c0:w.cell? ⟨v,0,none⟩=some (A' p):=t' (i:=0) z;have G:=y' (oM' D hs.dead F i);generalize aG' a i=xs at *;clear D z F hs;unfold A' at *;go_enter Tryz.func18,Tryz.ntmps18;go_wp2_with (go_at_call 47;refine(i' G).mono ?_;rintro r y ⟨lv,rfl,k1,k2⟩;replace k1:=y' k1;replace k2:=y' k2);go_ret;exact⟨lv,rfl,i' k1,i' k2⟩
theorem xd' (m:Int) (h:dw' n w v a U) (r:m<=9223372036854775807):Calls Tryz.prog 11 #[A' v, .int .i64 m] w fun z w'=>z= .returned (.tuple #[])/\dw' m.toNat w' v a U/\Far U w w':=xQ' m h r
theorem wH' {op:Nat} (m:Int) (h:iC' op w v a U) (z:m<=9223372036854775807):Calls Tryz.prog 11 #[A' v, .int .i64 m] w fun r w'=>r= .returned (.tuple #[])/\iC' op w' v a U/\Far U w w':=by
 obtain⟨p,g,free,sh,st,c,D,F,hs,G,rfl⟩:=h;refine(tg' D F m z).mono ?_;rintro r y ⟨rfl,k1,k2,k3⟩;exact⟨rfl,⟨p,g,free,sh,_,c,k1,k2,⟨hs.dead,hs.op,hs.dk⟩,G,rfl⟩,k3⟩
end
end Go.Proofs.YtamafdcnbcoegabGreat
namespace Go.Proofs.YtamafdcnbcoegabGreat
open Go.RowKit
theorem xT' {P r:Prop} (h:P->r) (k:P):r:=h k
def hE' (a:Mod.Sk) (i:Int):List ByteArray:=if 0<=i/\i < 3 then a.logs i.toNat else []
theorem iD' (e s:Nat) (f:Mod.Flow) (t:Nat) (r:∀x∈f.kept,x.1.size<=20):∀i,(Mod.sendTo e s f t i).2.length<=i/\∀l∈ (Mod.sendTo e s f t i).2,l.length<=35
 |0=>⟨Nat.le_refl _,fun l hl=>by cases hl⟩
 |i+1=>by
  obtain⟨h1,h2⟩:=iD' e s f t r i;rw[Mod.sendTo];split
  ·exact⟨by omega,h2⟩
  ·rename_i x z;split
   ·refine⟨by simp;omega,fun l hl=>?_⟩;rw[List.mem_append,List.mem_singleton]at hl;rcases hl with hl|rfl
    ·exact h2 l hl
    ·have:=r x (List.mem_of_getElem? z);rw[Wire.length_bytes];simp;omega
   ·exact⟨by omega,h2⟩
theorem hG' {N:Nat} {a:Mod.Ag} (r:aL' N a):a.tick.2.length<=12/\∀l∈a.tick.2,l.length<=35:=by
 unfold Mod.Ag.tick;split
 ·exact⟨by simp,fun l hl=>by cases hl⟩
 ·split
  ·refine⟨by simp,fun l hl=>?_⟩;rw[List.mem_singleton]at hl;rw[hl,Wire.length_bytes];simp
  ·have h:=fun s (hs:s < 3)=>iD' a.epoch s (a.fl s) (a.ticks+1) (fun x z=>(r.bod s hs x z).1) 4;have h0:=h 0 (by omega);have h1:=h 1 (by omega);have h2:=h 2 (by omega);simp only[Mod.sendOut,List.nil_append];refine⟨by simp only[List.length_append];omega,fun l hl=>?_⟩;rw[List.mem_append,List.mem_append]at hl;rcases hl with (hl|hl)|hl
   ·exact h0.2 l hl
   ·exact h1.2 l hl
   ·exact h2.2 l hl
def bQ' (c:Int) (n:Nat):Nat:=((if c < 0 then -(c+1)else c) % (n:Int)).toNat
theorem eb' (c:Int) {n:Nat} (r:0 < n):bQ' c n < n:=by
 unfold bQ';have h1:=Int.emod_lt_of_pos (if c < 0 then -(c+1)else c) (show(0:Int) < n by omega);have h2:=Int.emod_nonneg (if c < 0 then -(c+1)else c) (show(n:Int)≠0 by omega);omega
theorem qG' {t:Array Value} {k:Nat} {c:Bool} (h:t[k]?.getD undef= .bool c):t[k]? =some (.bool c):=by
 cases r:t[k]? with
 |none=>rw[r]at h;simp[undef]at h
 |some v=>rw[r]at h;simp at h;rw[h]
theorem qH' (n:Nat):aL' n ag0:=⟨by simp[ag0],by simp[ag0],by simp[ag0],fun s hs x r=>by simp[ag0]at r⟩
theorem mR' (w:World) (v:Value) (L:List UInt8) (aW:ab' w v L) (M:L.length=7808) {h:Mod.Hd} {at':Nat} {rs:List Mod.Rc} (aA:Mod.openSt L=some (h,at',rs)):
  Calls Tryz.prog 53 #[v] w fun aB w'=>(¬ (h.b=0/\h.d=0)\/Mod.skLd rs 0 (fun _=>[])=none)/\aB= .returned (.tuple #[.pointer none, .int .i64 2])/\Below w.heap.size w w'\/
   h.b=0/\h.d=0/\∃logs p c,Mod.skLd rs 0 (fun _=>[])=some logs/\aB= .returned (.tuple #[A' p, .int .i64 0])/\aN' w' p h.a logs (fun _=>[]) (cD' L h at') c/\Below w.heap.size w w'/\∀k,PkU p c k->w.heap.size<=k:=by
 have aa:=gJ' w v L 122 aW (by omega) (by omega) (by omega) aA;rw[nz']at aa;obtain⟨aC,aD⟩:=Mod.openSt_some aA;have aX:=tf' aD;have aY:rs.length=120:=by have:=(Mod.recsFrom_some _ _ aD).1;rw[this,M]
 obtain⟨_,aZ,ba,_⟩:=Mod.newest_some aC;have bb:=Mod.headIs_small aZ;rw[<-ba]at bb;have bc:(cD' L h at').dk.bytes.length=7808:=by have:=(Mod.opened_ok aC (m:=122) (by omega) (by omega)).len;exact this
 obtain⟨bY,cap,rfl,bu,bw,_⟩:=aW;obtain⟨n,be⟩:∃n,n=L.length:=⟨_,rfl⟩;rw[<-be]at M bu bw aa ⊢;subst M;generalize cD' L h at'=st at *;obtain⟨ep,aE⟩:∃ep,ep=h.a:=⟨_,rfl⟩;obtain⟨J,aF⟩:∃J,J=h.b:=⟨_,rfl⟩;obtain⟨nd,aG⟩:∃nd,nd=h.d:=⟨_,rfl⟩;rw[<-aE,<-aF,<-aG]at aa;rw[<-aE,<-aF,<-aG];have bf:ep<=2147483647:=by omega
 have bz:=y' aa;have ah:=y' (And.intro aX (And.intro aY (And.intro bc bf)));have ai:=fun y=>y' (gG' ep y);clear be aA aC aD aZ ba bb aa aX aY bc aE aF aG bf;obtain⟨res,aj⟩:∃res,res=Mod.skLd rs 0 (fun _=>[]):=⟨_,rfl⟩;rw[<-aj];unfold A' at *;go_enter Tryz.func53,Tryz.ntmps53;go_upto_region 7 with (go_at_call 74;refine(i' bz).mono ?_;rintro aB y ⟨s,dp,lv,bA,rv,rfl,bg,bh,ab,I⟩;obtain⟨bZ,ak,rfl,_,_,bi⟩:=(as'.of_own (au' ab (Nat.zero_le _))).shape);obtain⟨ao,bB,rfl,_⟩:=bi (by omega);have bC:bB=0:=by
  rcases ab with ⟨_,⟨h,_⟩|⟨g',ca,cb,h,_⟩⟩
  ·cases h
  ·injection h with h;injection h with h;injection h
 subst bC;clear bi;obtain⟨r,aH⟩:∃r,r=y.heap.size:=⟨_,rfl⟩;have ap:=y' aH;rw[<-aH];have bD:w.heap.size<=r:=by have:=I.size;omega
 clear aH;refine H' (fun x=>x.heap[r]? =some (.cells #[.int .i64 ep, .int .i64 J, .int .i64 nd, .slice (some ⟨ao,0,none⟩) 120 ak] 143 (0,0))/\x.heap[r+1]? =some (.cells (es' s ep (.slice none 0 0)) 125 (0,0))/\Below r y x) ?_ ?_
 ·rw[i' ap];exact ca' _ _ _
 rintro x ⟨h5,aq,au⟩;have aI:=lt_of_block aq;have aJ:=ay' (au' ab (Nat.zero_le _)) (fun g X=>by have:=(World.ownsRow.lt ab g X).2;exact au.block g (by rw[i' ap];exact this));have cc:(Value.slice (some ⟨ao,0,none⟩) 120 ak).ownBlock≠some (r+1):=fun e=>(as'.of_own aJ).ne aq (by decide) e;have aK:=y' (bg.far (C' (E:=fun _=>False) (by rw[<-i' ap];exact au)) (fun _ _ h=>h));have bE:=y' bh;have av:=y' (I.trans (au.mono bD));have bj:=y' h5;have ac:=y' aq;have aL:=y' aJ;clear bg bh ab aJ I au h5 aq ap;have bk:¬StU s dp lv bA (r+1):=by
  rintro(h|h)
  ·have h1:=(i' aK).blk;rw[<-h,i' ac]at h1;injection h1 with h1;injection h1 with _ h1 _;exact absurd h1 (by decide)
  ·exact el' (i' aK).dk (i' ac) (by decide) (by decide) (by decide) h
 by_cases U:J=0/\nd=0
 ·have bF:∀D:World,(Op.equalIn 10000 100 (.agg #[.int .i64 ep, .int .i64 J, .int .i64 nd]) (.agg #[.int .i64 ep, .int .i64 0, .int .i64 0])).run Tryz.prog D= .ok true D:=fun D=>by rw[ik'];simp[U.1,U.2]
  have ad:=y' U;clear U;have ax:=fun(D:World) (h1:D.heap[r+1]? = _) (h2:D.ownsRow 0 150 3 (.slice (some ⟨ao,0,none⟩) 120 ak) 120 (cT' rs))=>y' (oH' (p:=r+1) (e:=ep) (s:=s) h1 h2 (i' ah).2.1 (by omega) (i' ah).1 (i' ah).2.2.2);rw[<-aj]at ax;have cd:=y' aj;clear aj;unfold A' at ax;refine dh' (by kernel_rfl)
   [fun v _=>v= .pointer (some ⟨r,0,none⟩),fun v _=>v= .agg #[.int .i64 ep, .int .i64 J, .int .i64 nd],fun v _=>v= .pointer (some ⟨r+1,0,none⟩),fun v _=>v= .pointer (some ⟨r+1,0,none⟩),fun v _=>v= .pointer (some ⟨r+1,1,none⟩),fun v _=>v= .int .i64 ep,fun v _=>v= .agg #[.int .i64 ep, .int .i64 0, .int .i64 0],fun v _=>v= .bool false,fun v _=>v= .bool false,
    fun v _=>v= .pointer (some ⟨r+1,0,none⟩),fun v _=>v= .pointer (some ⟨r,3,none⟩),fun v _=>v= .slice (some ⟨ao,0,none⟩) 120 ak,fun _ _=>True,fun _ _=>True,fun _ _=>True]
   [[(5,none)],[(26,some 0)],[(7,none)],[(28,some 2)],[(29,some 3)],[(30,some 4)],[(31,some 5)],[(27,some 1),(32,some 6)],[(33,some 7)],[(7,none),(34,some 8)],[(5,none),(34,some 8)],[(36,some 10),(34,some 8)],[(35,some 9),(37,some 11),(34,some 8)],[(38,some 12),(34,some 8)],[(34,some 8),(39,some 13)]] [some 26,some 27,some 28,some 29,some 30,some 31,some 32,some 33,some 34,some 35,some 36,some 37,some 38,some 39,some 40] [false,false,false,false,false,false,false,false,false,false,false,false,false,false,false,false,false,false,false,false,false,false,false,false,false,false,true,true,true,true,true,true,true,true,true,true,true,true,true,true,true,false,false,false,false,false,false,false,false,false,false,false]
   12 _ rfl (Nat.le_of_ble_eq_true (n:=13) (by kernel_rfl)) (by kernel_rfl) (by kernel_rfl) (by kernel_rfl) (by kernel_rfl) (by kernel_rfl) (by kernel_rfl) ?_ ?_ ?_ ?_
  ·repeat' (first|exact O' _|exact X'|exact trivial|apply And.intro)
  ·refine⟨?_,?_,?_,?_,?_,?_,?_,?_,?_,?_,?_,?_,trivial⟩;all_goals
    intro a' D F G;have z5:=(F.block _ (by omega)).trans (i' bj);have O:=(F.block _ aI).trans (i' ac);have aM:=t' (i:=0) z5;have aN:=t' (i:=1) z5;have aO:=t' (i:=2) z5;have aP:=t' (i:=3) z5;have Y:=t' (i:=1) O;simp[es']at aM aN aO aP Y;clear F z5 O;simp only[M',List.getD_cons_zero,List.getD_cons_succ,Array.getD_eq_getD_getElem?]at G;try simp at G
    try (have X:a'.tmps[34]? =some (.bool false):=eL' (by first|exact G|exact G.1|exact G.2|exact G.2.2))
    try go_simp
    try simp only[X,if_true]
    try go_simp
    try exact Below.refl _ _
   all_goals first
    |exact⟨rfl,Below.refl _ _⟩
    |exact⟨_,rfl,Below.refl _ _,rfl⟩
    |(refine(i' (ai _)).mono ?_;rintro e z ⟨rfl,I⟩;exact⟨rfl,I⟩)
    |(refine(i' (ai _)).mono ?_;rintro e z ⟨rfl,I⟩;exact⟨_,rfl,I,rfl⟩)
    |skip
  ·intro f D H;simp only[af',List.take]at H;have aQ:=H.2.2.2.2.2.2.2.2.1;clear H;simp only[Y',aQ];rfl
  ·intro f D F H;simp only[af',List.take]at H;have aQ:=H.2.2.2.2.2.2.2.2.1;have bG:=H.2.2.2.2.2.2.2.2.2.1;have bH:=H.2.2.2.2.2.2.2.2.2.2.2.1;have O:=(F.block _ aI).trans (i' ac);have bl:=ay' (i' aL) (fun g X=>F.block g (World.ownsRow.lt (i' aL) g X).2);have aR:=y' (i' (ax D O bl));have Q:=y' F;clear H O bl F ax;simp only[Y',aQ,bG,bH];generalize f 26=bI;generalize f 27=bJ;generalize f 28=bK;generalize f 29=bL;generalize f 30=bM;generalize f 31=bN;generalize f 32=bO;generalize f 33=bP;go_simp;refine(i' aR).mono ?_;rintro e z ⟨rfl,hF,hl⟩;have ay:=y' hF;have aS:=y' hl;clear hF hl;intro bm ce;obtain⟨m,rfl⟩:∃m,bm=m+2:=⟨bm - 2,by omega⟩;refine bE' (i:=13) (by kernel_rfl) rfl rfl ?_;go_simp;refine bE' (i:=14) (by kernel_rfl) rfl rfl ?_;go_simp;refine dJ' (by kernel_rfl) ?_;have aT:Far (fun k=>k=r+1) w z:=(C' (E:=fun k=>k=r+1) (i' av)).trans ((C' (E:=fun k=>k=r+1) (i' Q)).trans (i' ay) (fun _ _ h=>h)) (fun _ _ h=>h);have V:Below w.heap.size w z:=aT.below (Nat.le_refl _) (fun k Z h=>by omega);cases res with
   |none=>have aU:=y' V;clear V aT aR aS ay Q;go_wp2;go_ret2;first|exact .inl ⟨.inr rfl,rfl,i' aU⟩|exact⟨rfl,i' aU⟩|exact .inl ⟨rfl,i' aU⟩
   |some logs=>
    have M:=(i' aS) logs rfl;have bn:=M.behind (i' Q);have bo:Far (fun k=>k=r+1) x z:=(C' (E:=fun k=>k=r+1) (i' Q)).trans (i' ay) (fun _ _ h=>h);have bp:=(i' aK).far bo (fun k Z e=>bk (by rw[<-e];exact Z));obtain⟨arr,cf,K,_,_⟩:=M;have bq:=lt_of_block K.blk;have br:z.cell? ⟨r+1,11,none⟩=some (.slice none 0 0):=by rw[t' K.blk];exact K.ar
    have cg:∀o,(z.alloc o).cell? ⟨r+1,11,none⟩=some (.slice none 0 0):=fun o=>(World.cell?_alloc_lt z _ ⟨r+1,11,none⟩ bq).trans br;have ch:∀o,(z.alloc o).frozen? ⟨r+1,11,none⟩=false:=fun o=>I' (i:=11) ((hao _ _ bq).trans K.blk);have ci:¬r+1=z.heap.size:=by omega
    have bQ:=y' (And.intro bn (And.intro bp V));clear br bn bp K bo aT aS ay Q aR;go_wp2;go_ret2;obtain⟨M,bR,V⟩:=i' bQ;obtain⟨R,bt⟩:∃R,R=Obj.cells (bf' (r+1)).toArray 130 (0,0):=⟨_,rfl⟩;obtain⟨az,aV⟩:∃az,az=z.setCell ⟨r+1,11,none⟩ (.slice (some ⟨z.heap.size,0,none⟩) 2 2):=⟨_,rfl⟩;have bS:az.heap.size=z.heap.size:=by rw[aV,World.size_setCell]
    have bT:as' (az.alloc R) 130 2 (.slice (some ⟨z.heap.size,0,none⟩) 2 2) 2 (bf' (r+1)):=by refine⟨by simp[bf'], .inr ⟨z.heap.size,0,2,(bf' (r+1)).toArray,rfl,?_,by omega,by unfold maxLen;omega,by simp[bf'],by simp[bf']⟩⟩;rw[<-bS,heap_alloc_new,bt]
    obtain⟨c,bU,bV⟩:=wA' M bR (i' ah).2.2.1 (fun k Z e=>bk (by rw[<-e];exact Z)) aV bT;have bW:R=Obj.cells #[.int .i64 1, .func (.func 87) #[.pointer (some ⟨r+1,0,none⟩)] #[], .int .i64 3, .func (.func 88) #[.pointer (some ⟨r+1,0,none⟩)] #[]] 130 (0,0):=by rw[bt];rfl
    subst bW;subst aV;have cj:=(i' av).size;refine .inr ⟨(i' ad).1,(i' ad).2,logs,r+1,c,rfl,rfl,bU,?_,fun k Z=>?_⟩
    ·exact(V.setCell (p:=⟨r+1,11,none⟩) (by show w.heap.size<=r+1;omega) _).alloc (by rw[World.size_setCell];exact V.size) _
    ·rcases bV k Z with h|h|h|h
     ·omega
     ·omega
     ·exact(i' bE) k h
     ·have h2:some z.heap.size=some k:=h;injection h2 with h2;have:=V.size;omega
 ·have bF:∀D:World,(Op.equalIn 10000 100 (.agg #[.int .i64 ep, .int .i64 J, .int .i64 nd]) (.agg #[.int .i64 ep, .int .i64 0, .int .i64 0])).run Tryz.prog D= .ok false D:=fun D=>by
   rw[ik'];congr 1;by_cases Y:J=0
   ·have ck:¬nd=0:=fun e=>U ⟨Y,e⟩;have:((nd:Int) ==0)=false:=by simp;omega
    simp[Y,this]
   ·have:((J:Int) ==0)=false:=by simp;omega
    simp[this]
  have ad:=y' U;clear U aL;refine cz' (by kernel_rfl)
   [fun v _=>v= .pointer (some ⟨r,0,none⟩),fun v _=>v= .agg #[.int .i64 ep, .int .i64 J, .int .i64 nd],fun v _=>v= .pointer (some ⟨r+1,0,none⟩),fun v _=>v= .pointer (some ⟨r+1,0,none⟩),fun v _=>v= .pointer (some ⟨r+1,1,none⟩),fun v _=>v= .int .i64 ep,fun v _=>v= .agg #[.int .i64 ep, .int .i64 0, .int .i64 0],fun v _=>v= .bool true,fun v _=>v= .bool true,
    fun _ _=>True,fun _ _=>True,fun _ _=>True,fun _ _=>True,fun _ _=>True,fun v _=>v= .bool true]
   [[(5,none)],[(26,some 0)],[(7,none)],[(28,some 2)],[(29,some 3)],[(30,some 4)],[(31,some 5)],[(27,some 1),(32,some 6)],[(33,some 7)],[(7,none),(34,some 8)],[(5,none),(34,some 8)],[(36,some 10),(34,some 8)],[(35,some 9),(37,some 11),(34,some 8)],[(38,some 12),(34,some 8)],[(34,some 8),(39,some 13)]] [some 26,some 27,some 28,some 29,some 30,some 31,some 32,some 33,some 34,some 35,some 36,some 37,some 38,some 39,some 40] [false,false,false,false,false,false,false,false,false,false,false,false,false,false,false,false,false,false,false,false,false,false,false,false,false,false,true,true,true,true,true,true,true,true,true,true,true,true,true,true,true,false,false,false,false,false,false,false,false,false,false,false]
   (by kernel_rfl) (by kernel_rfl) (by kernel_rfl) (by kernel_rfl) ?_ ?_ ?_
  ·repeat' (first|exact O' _|exact X'|exact trivial|apply And.intro)
  ·refine⟨?_,?_,?_,?_,?_,?_,?_,?_,?_,?_,?_,?_,?_,?_,?_,trivial⟩;all_goals
    intro a' D F G;have z5:=(F.block _ (by omega)).trans (i' bj);have O:=(F.block _ aI).trans (i' ac);have aM:=t' (i:=0) z5;have aN:=t' (i:=1) z5;have aO:=t' (i:=2) z5;have aP:=t' (i:=3) z5;have Y:=t' (i:=1) O;simp[es']at aM aN aO aP Y;clear F z5 O;simp only[M',List.getD_cons_zero,List.getD_cons_succ,Array.getD_eq_getD_getElem?]at G;try simp at G
    try (have X:a'.tmps[34]? =some (.bool true):=eL' (by first|exact G|exact G.1|exact G.2|exact G.2.2))
    try go_simp
    try exact Below.refl _ _
    try trivial
   all_goals first
    |exact⟨rfl,Below.refl _ _⟩
    |exact⟨_,rfl,Below.refl _ _,rfl⟩
    |(refine(i' (ai _)).mono ?_;rintro e z ⟨rfl,I⟩;exact⟨rfl,I⟩)
    |(refine(i' (ai _)).mono ?_;rintro e z ⟨rfl,I⟩;exact⟨_,rfl,I,rfl⟩)
    |skip
  ·intro f D F H;simp only[af']at H;have bX:=H.2.2.2.2.2.2.2.2.2.2.2.2.2.2.1;have Q:=y' ((i' av).trans (F.mono (i' av).size));clear H F;simp only[Y',bX];generalize f 26=bI;generalize f 27=bJ;generalize f 28=bK;generalize f 29=bL;generalize f 30=bM;generalize f 31=bN;generalize f 32=bO;generalize f 33=bP;generalize f 34=cl;generalize f 35=cm;generalize f 36=cn;generalize f 37=co;generalize f 38=cp;generalize f 39=cq;go_wp2;go_ret2;first|exact .inl ⟨.inl (i' ad),rfl,i' Q⟩|exact⟨.inl (i' ad),rfl,i' Q⟩
end Go.Proofs.YtamafdcnbcoegabGreat
