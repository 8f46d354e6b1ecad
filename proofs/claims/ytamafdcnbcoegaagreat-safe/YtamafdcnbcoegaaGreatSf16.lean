/-
  Part 16 of a proof: L30, D25, B1, L32, L33, L38, LB5, T6, U5, T8, V6, K22.
-/
import Derived.Test.YtamafdcnbcoegaaGreatSf15
set_option maxRecDepth 100000
set_option maxHeartbeats 40000000
namespace Go.Proofs.YtamafdcnbcoegaaGreat
open Go.RowKit
def vU' (s a b d:Nat) (rv:Value):Array Value:= #[y' s, .int .i64 a, .int .i64 b, .int .i64 d,
 .slice none 0 0, .map none, .slice none 0 0, .map none, .slice none 0 0, .map none, .slice none 0 0, .map none, .slice none 0 0, .map none, .slice none 0 0, .map none, .slice none 0 0, .map none, .slice none 0 0, .map none, .slice none 0 0, .map none,
 .slice none 0 0, .int .i64 0, .bool false, .bool false,rv]
theorem uQ' {w x:World} {p s dp:Nat} {g:Nat->Nat} {l:Mod.Ld} {dlv duv rv:Value} {st:Mod.Stv} (h:gK' w x p s g l) (hs:cC' x s dp st dlv duv) (hl:st.dk.bytes.length=1664) (D:∀k,StU s dp dlv duv k->k≠p)
  {y:World} (F:y=x.setCell ⟨p,26,none⟩ rv) {R:Obj} (G:ao' (y.alloc R) 183 2 rv 3 (aD' p)):
  ∃c,aA' (y.alloc R) p g 0 false false l.free (et' l) st c/\(∀k,PaU p c k->k=p\/w.heap.size<=k\/StU s dp dlv duv k\/rv.ownBlock=some k):=by
 obtain⟨arr,nv,mv,fv,K,J,N⟩:=h;subst F;have H:=O' x p 26 rv;have z:Below (x.setCell ⟨p,26,none⟩ rv).heap.size (x.setCell ⟨p,26,none⟩ rv) ((x.setCell ⟨p,26,none⟩ rv).alloc R):=(Below.refl _ _).alloc (Nat.le_refl _) _;have r:Far (fun k=>k=p) x ((x.setCell ⟨p,26,none⟩ rv).alloc R):=H.trans (A' (E:=fun _=>False) z) (fun _ _ h=>h.elim);have f:∀j,j≠26->(arr.setIfInBounds 26 rv)[j]? =arr[j]? :=fun j hj=>Array.getElem?_setIfInBounds_ne (fun e=>hj e.symm);refine⟨⟨arr.setIfInBounds 26 rv,s,dp,nv,mv,fv,rv,dlv,duv⟩,⟨⟨?_,by simpa using K.sz,?_,?_,?_,?_,?_,?_,?_,?_,?_,?_,?_,K.apf,K.aps⟩,?_,G,hl⟩,?_⟩
 ·exact(z.block p (by simp;exact lt_of_block K.blk)).trans (af' K.blk)
 ·rw[f _ (by omega)];exact K.a0
 ·intro i hi;rw[f _ (by omega)];exact K.ag i hi
 ·intro i hi;rw[f _ (by omega)];exact K.an i hi
 ·intro i hi;rw[f _ (by omega)];exact K.am i hi
 ·rw[f _ (by omega)];exact K.af
 ·rw[f _ (by omega)];exact K.at'
 ·rw[f _ (by omega)];exact K.aw
 ·rw[f _ (by omega)];exact K.ae
 ·have:=K.sz;simp[this]
 ·exact K.fr.far r (fun g I e=>K.fr.ne K.blk (by decide) (by rw[I,e]))
 ·intro i hi;exact(K.shs i hi).far r (fun k u e=>(K.shs i hi).ne K.blk (by decide) (by rw[<-e];exact u))
 ·exact hs.far r (fun k u e=>D k u e)
 ·rintro k (h|h|h)
  ·rcases N k h with h|h
   ·exact .inl h
   ·exact .inr (.inl h)
  ·exact .inr (.inr (.inl h))
  ·exact .inr (.inr (.inr h))
theorem pv' (w:World) (v:Value) (L:List UInt8) (ay:Y' w v L) (z:L.length=1664) {h:Mod.Hd} {at':Nat} {rs:List Mod.Rc} (ab:Mod.openSt L=some (h,at',rs)):
  Calls Tryz.prog 64 #[v] w fun G w'=>Mod.ldRes h.num rs=none/\G= .returned (.tuple #[.pointer none, .int .i64 2])/\Below w.heap.size w w'\/
   ∃l p c,Mod.ldRes h.num rs=some l/\G= .returned (.tuple #[y' p, .int .i64 0])/\aA' w' p h.num 0 false false l.free (et' l) (cw' L h at') c/\Below w.heap.size w w'/\∀k,PaU p c k->w.heap.size<=k:=by
 have H:=go' w v L 26 ay (by omega) (by omega) (by omega) ab;rw[mF']at H;obtain⟨ac,ad⟩:=Mod.openSt_some ab;have az:=rM' ad;have aA:rs.length=24:=by have:=(Mod.recsFrom_some _ _ ad).1;rw[this,z]
 obtain⟨_,aB,aC,_⟩:=Mod.newest_some ac;have aD:=Mod.headIs_small aB;rw[<-aC]at aD;have aE:∀i,i < 3->h.num i<=2147483647:=fun i _=>by
  unfold Mod.Hd.num;split
  ·omega
  ·split <;> omega
 have aF:(cw' L h at').dk.bytes.length=1664:=by have:=(Mod.opened_ok ac (m:=26) (by omega) (by omega)).len;exact this
 obtain⟨br,cap,rfl,ba,bb,_⟩:=ay;obtain⟨n,aG⟩:∃n,n=L.length:=⟨_,rfl⟩;rw[<-aG]at z ba bb H ⊢;subst z;generalize cw' L h at'=st at *;have aH:h.num 0=h.a:=rfl;have aI:h.num 1=h.b:=rfl;have aJ:h.num 2=h.d:=rfl;rw[<-aH,<-aI,<-aJ]at H;generalize h.num=I at *;have aK:=t' H;have M:=t' (And.intro az (And.intro aA (And.intro aF aE)));clear aG ab ac ad aB aC aD H az aA aF aH aI aJ aE;obtain⟨res,O⟩:∃res,res=Mod.ldRes I rs:=⟨_,rfl⟩;rw[<-O];obtain⟨Q,ah⟩:∃Q,Q=I 0:=⟨_,rfl⟩;obtain⟨U,ai⟩:∃U,U=I 1:=⟨_,rfl⟩;obtain⟨nd,aj⟩:∃nd,nd=I 2:=⟨_,rfl⟩;rw[<-ah,<-ai,<-aj]at aK;have ak:=t' (And.intro ah (And.intro ai aj));clear ah ai aj;unfold y' at *;go_enter Tryz.func64,Tryz.ntmps64;go_upto_region 7 with (go_at_call 102;refine(i' aK).mono ?_;rintro G y ⟨s,dp,lv,bc,rv,rfl,aL,aM,J,ao⟩;obtain⟨bt,bd,rfl,_,_,aN⟩:=(ao'.of_own (ap' J (Nat.zero_le _))).shape);obtain⟨be,bf,rfl,_⟩:=aN (by omega);have bg:bf=0:=by
  rcases J with ⟨_,⟨h,_⟩|⟨g',bu,bw,h,_⟩⟩
  ·cases h
  ·injection h with h;injection h with h;injection h
 subst bg;clear aN;obtain⟨f,ap⟩:∃f,f=y.heap.size:=⟨_,rfl⟩;have V:=t' ap;rw[<-ap];have bh:w.heap.size<=f:=by have:=ao.size;omega
 clear ap;refine C' (fun x=>x.heap[f]? =some (.cells #[.int .i64 Q, .int .i64 U, .int .i64 nd, .slice (some ⟨be,0,none⟩) 24 bd] 187 (0,0))/\x.heap[f+1]? =some (.cells (vU' s Q U nd (.slice none 0 0)) 151 (0,0))/\Below f y x) ?_ ?_
 ·rw[i' V];exact bS' _ _ _
 rintro x ⟨h5,X,Y⟩;have bz:=lt_of_block X;have aO:=m' (i:=3) h5;simp at aO;have aP:=aw' (ap' J (Nat.zero_le _)) (fun g bi=>by have:=(World.ownsRow.lt J g bi).2;exact Y.block g (by rw[i' V];exact this));have aq:=t' (aL.far (A' (E:=fun _=>False) (by rw[<-i' V];exact Y)) (fun _ _ h=>h));have bj:=t' aM;have au:=t' (ao.trans (Y.mono bh));have aQ:=t' X;have aR:gK' x x (f+1) s I Mod.ld0:=ub' X (by rw[<-(i' ak).1,<-(i' ak).2.1,<-(i' ak).2.2];rfl);have av:=ra' aR aP (i' M).2.1 (by omega) (i' M).1 (i' M).2.2.2;rw[<-O]at av;have Z:=t' av;have bA:=t' O;clear aL aM J aP ao Y h5 X V aR av O;have aS:¬StU s dp lv bc (f+1):=by
  rintro(h|h)
  ·have h1:=(i' aq).blk;rw[<-h,i' aQ]at h1;injection h1 with h1;injection h1 with _ h1 _;exact absurd h1 (by decide)
  ·exact dY' (i' aq).dk (i' aQ) (by decide) (by decide) (by decide) h
 unfold y' at Z;cases res with
 |none=>
  go_wp2_with (go_at_call 103;refine(i' Z).mono ?_;rintro G r ⟨rfl,hF,_⟩;replace hF:=t' hF)
  go_ret2
  have D:Far (fun k=>k=f+1) w r:=(A' (E:=fun k=>k=f+1) (i' au)).trans (i' hF) (fun _ _ h=>h);first|exact .inl ⟨rfl,rfl,D.below (Nat.le_refl _) (fun k u h=>by omega)⟩|exact⟨rfl,D.below (Nat.le_refl _) (fun k u h=>by omega)⟩|exact .inl ⟨rfl,D.below (Nat.le_refl _) (fun k u h=>by omega)⟩
 |some l=>
  go_upto_region 9 with (go_at_call 103;refine(i' Z).mono ?_;rintro G r ⟨rfl,hF,hl⟩;have z:=hl l rfl;clear hl)
  have aT:=(i' aq).far hF (fun k u e=>aS (by rw[<-e];exact u));have D:Far (fun k=>k=f+1) w r:=(A' (E:=fun k=>k=f+1) (i' au)).trans hF (fun _ _ h=>h);have F:Below w.heap.size w r:=D.below (Nat.le_refl _) (fun k u h=>by omega);have bk:=t' (And.intro z (And.intro aT F));obtain⟨arr,nv,mv,fv,K,_,_⟩:=z;have aU:f+1 < r.heap.size:=lt_of_block K.blk;have aV:r.cell? ⟨f+1,26,none⟩=some (.slice none 0 0):=by rw[m' K.blk];exact K.ar
  have bB:∀o,(r.alloc o).cell? ⟨f+1,26,none⟩=some (.slice none 0 0):=fun o=>(World.cell?_alloc_lt r _ ⟨f+1,26,none⟩ aU).trans aV;have bC:∀o,(r.alloc o).frozen? ⟨f+1,26,none⟩=false:=fun o=>D' (i:=26) ((hao _ _ aU).trans K.blk);have bD:¬f+1=r.heap.size:=by omega
  clear aV K hF D F aT aO Z;go_wp2;go_ret2;obtain⟨z,bl,F⟩:=i' bk;obtain⟨R,aW⟩:∃R,R=Obj.cells (aD' (f+1)).toArray 183 (0,0):=⟨_,rfl⟩;obtain⟨aa,ax⟩:∃aa,aa=r.setCell ⟨f+1,26,none⟩ (.slice (some ⟨r.heap.size,0,none⟩) 3 3):=⟨_,rfl⟩;have bm:aa.heap.size=r.heap.size:=by rw[ax,World.size_setCell]
  have bn:ao' (aa.alloc R) 183 2 (.slice (some ⟨r.heap.size,0,none⟩) 3 3) 3 (aD' (f+1)):=by refine⟨by simp[aD'], .inr ⟨r.heap.size,0,3,(aD' (f+1)).toArray,rfl,?_,by omega,by unfold maxLen;omega,by simp[aD'],by simp[aD']⟩⟩;rw[<-bm,heap_alloc_new,aW]
  obtain⟨c,aX,bo⟩:=uQ' z bl (i' M).2.2.1 (fun k u e=>aS (by rw[<-e];exact u)) ax bn;have bp:R=Obj.cells #[.int .i64 2, .func (.func 104) #[.pointer (some ⟨f+1,0,none⟩)] #[], .int .i64 4, .func (.func 105) #[.pointer (some ⟨f+1,0,none⟩)] #[], .int .i64 5, .func (.func 106) #[.pointer (some ⟨f+1,0,none⟩)] #[]] 183 (0,0):=by rw[aW];rfl
  subst bp;subst ax;have bE:=(i' au).size;have bq:∀z3,z3=((r.setCell ⟨f+1,26,none⟩ (.slice (some ⟨r.heap.size,0,none⟩) 3 3)).alloc (.cells #[.int .i64 2, .func (.func 104) #[.pointer (some ⟨f+1,0,none⟩)] #[], .int .i64 4, .func (.func 105) #[.pointer (some ⟨f+1,0,none⟩)] #[], .int .i64 5, .func (.func 106) #[.pointer (some ⟨f+1,0,none⟩)] #[]] 183 (0,0)))->Below w.heap.size w z3/\∀k,PaU (f+1) c k->w.heap.size<=k:=by
   rintro _ rfl;refine⟨(F.setCell (p:=⟨f+1,26,none⟩) (by show w.heap.size<=f+1;omega) _).alloc (by rw[World.size_setCell];exact F.size) _,fun k u=>?_⟩;rcases bo k u with h|h|h|h
   ·omega
   ·omega
   ·exact(i' bj) k h
   ·have h2:some r.heap.size=some k:=h;injection h2 with h2;have:=F.size;omega
  obtain⟨aY,aZ⟩:=bq _ rfl;first|exact .inr ⟨l,f+1,c,rfl,rfl,aX,aY,aZ⟩|exact⟨l,f+1,c,rfl,rfl,aX,aY,aZ⟩
theorem lX' {w:World} {p:Nat} {d:Mod.Dk} {lv M:Value} (f:dS' w p d lv M) (O:Int):
  Calls Tryz.prog 144 #[y' p, .int .u64 O] w fun D w'=>∃r,D= .returned r/\as' w.heap.size w' r d.bytes/\Below w.heap.size w w':=by
 obtain⟨V,cap,F,_⟩:=(ao'.of_own f.row).shape;obtain⟨X,Y,G,_⟩:=f.un.shape;have Q:=f.len;have H:Y' w lv d.bytes:=(show as' 0 w lv d.bytes from f.row).at
 have I:=t' (fu' w lv d.bytes H (by omega) Q.2);have c0:w.cell? ⟨p,0,none⟩=some lv:=m' (i:=0) f.blk;have c1:=m' (i:=1) f.blk;simp at c1;rw[G]at c1;have U:=lt_of_block f.blk;rw[F]at c0 I;clear H F G f;unfold y';go_enter Tryz.func144,Tryz.ntmps144;go_upto_region 2 with (go_at_call 192;refine(i' I).mono ?_;rintro D y ⟨r,rfl,u,z⟩;obtain⟨Z,aa,rfl,_⟩:=u.shape);have c1:=(z.cell (p:=⟨p,1,none⟩) U).trans c1;have J:=t' (And.intro u z);clear u z c0;go_wp2;go_loopw[6,7,18] (fun _ _ i wr=>i= .int .i64 0/\wr=y) (fun _ _ _ _=>0)
 case atStart=>exact⟨rfl,rfl⟩
 case round=>obtain⟨rfl,rfl⟩:=hrel;go_wp2;go_ret;exact⟨_,rfl,(i' J).1,(i' J).2⟩
theorem fI' {w:World} {s dp:Nat} {st:Mod.Stv} {lv G:Value} (f:cC' w s dp st lv G) (D:Int):
  Calls Tryz.prog 99 #[y' s, .int .u64 D] w fun F w'=>∃r,F= .returned r/\as' w.heap.size w' r st.dk.bytes/\Below w.heap.size w w':=by
 have c0:w.cell? ⟨s,0,none⟩=some (y' dp):=m' (i:=0) f.blk;have H:=t' (lX' f.dk D);clear f;unfold y' at *;go_enter Tryz.func99,Tryz.ntmps99;go_wp2_with (go_at_call 144;refine(i' H).mono ?_;rintro F y ⟨r,rfl,u,z⟩;replace u:=t' u;replace z:=t' z);go_ret;exact⟨_,rfl,i' u,i' z⟩
theorem pw' {w:World} {p:Nat} {d:Mod.Dk} {lv u:Value} (f:dS' w p d lv u) (n:Int) (M:n<=9223372036854775807):
  Calls Tryz.prog 145 #[y' p, .int .i64 n] w fun H w'=>H= .returned (.tuple #[])/\dS' w' p {d with armed:=n.toNat} lv u/\Far (fun k=>k=p) w w':=by
 have D:=fun v=>t' (af' (j:=2) (v:=v) f.blk);have F:=t' f;have O:w.frozen? ⟨p,2,none⟩=false:=D' (i:=2) f.blk;have c2:=m' (i:=2) f.blk;simp at c2;clear f;have key:∀m:Nat,m=n.toNat->dS' (w.setCell ⟨p,2,none⟩ (.int .i64 m)) p {d with armed:=n.toNat} lv u/\Far (fun k=>k=p) w (w.setCell ⟨p,2,none⟩ (.int .i64 m)):=by
  rintro m rfl;have f:=i' F;have z:=O' w p 2 (.int .i64 n.toNat);have h1:=i' (D (.int .i64 n.toNat));refine⟨⟨?_,aw' f.row (fun g r=>z.rest g (World.ownsRow.lt f.row g r).2 (fun e=>?_)),f.un.far z (fun g r e=>?_),f.len,by show n.toNat<= _;omega⟩,z⟩
  ·simpa using h1
  ·exact(ao'.of_own f.row).ne f.blk (by decide) (by rw[r,e])
  ·exact f.un.ne f.blk (by decide) (by rw[r,e])
 have G:=t' key;clear key D F;by_cases h0:(0:Int)<=n
 ·have I:max (0:Int) n=n:=by omega
  unfold y';go_enter Tryz.func145,Tryz.ntmps145;go_wp2;obtain⟨k1,k2⟩:=(i' G) n.toNat rfl;have J:((n.toNat:Nat):Int)=n:=by omega
  rw[J]at k1 k2;exact bodyPost_end (results_none rfl _ _ _) rfl ⟨rfl,k1,k2⟩
 ·have I:max (0:Int) n=0:=by omega
  unfold y';go_enter Tryz.func145,Tryz.ntmps145;go_wp2;obtain⟨k1,k2⟩:=(i' G) 0 (by omega);exact bodyPost_end (results_none rfl _ _ _) rfl ⟨rfl,k1,k2⟩
theorem hZ' {w:World} {s dp:Nat} {st:Mod.Stv} {lv r:Value} (f:cC' w s dp st lv r) (n:Int) (z:n<=9223372036854775807):
  Calls Tryz.prog 101 #[y' s, .int .i64 n] w fun u w'=>u= .returned (.tuple #[])/\cC' w' s dp {st with dk:={st.dk with armed:=n.toNat}} lv r/\Far (fun k=>k=dp) w w':=by
 have c0:w.cell? ⟨s,0,none⟩=some (y' dp):=m' (i:=0) f.blk;have D:=t' (pw' f.dk n z);have F:=t' f;clear f;unfold y' at *;go_enter Tryz.func101,Tryz.ntmps101;go_wp2_with (go_at_call 145;refine(i' D).mono ?_;rintro u y ⟨rfl,k1,k2⟩;replace k1:=t' k1;replace k2:=t' k2);have f:=i' F;have G:s≠dp:=fun e=>f.sep (.inl e);exact bodyPost_end (results_none rfl _ _ _) rfl ⟨rfl,⟨(i' k2).blk f.blk G,i' k1,f.op,f.ct,f.hd⟩,i' k2⟩
theorem lY' {w:World} {p e:Nat} {logs:Nat->List ByteArray} {sh:Nat->List (Nat×Value)} {st:Mod.Stv} {c:Sv} (f:aL' w p e logs sh st c) (D:Int):
  Calls Tryz.prog 59 #[y' p, .int .u64 D] w fun F w'=>∃r,F= .returned r/\as' w.heap.size w' r st.dk.bytes/\Below w.heap.size w w':=by
 have c0:w.cell? ⟨p,0,none⟩=some (y' c.s):=by rw[m' f.ks.blk,f.ks.a0]
 have G:=t' (fI' f.stt D);clear f;unfold y' at *;go_enter Tryz.func59,Tryz.ntmps59;go_wp2_with (go_at_call 99;refine(i' G).mono ?_;rintro F y ⟨r,rfl,u,z⟩;replace u:=t' u;replace z:=t' z);go_ret;exact⟨_,rfl,i' u,i' z⟩
theorem px' {w:World} {p:Nat} {g:Nat->Nat} {tk:Nat} {wel fen:Bool} {free:List Nat} {sh:Nat->List (Nat×Value)} {st:Mod.Stv} {c:Av} (f:aA' w p g tk wel fen free sh st c) (D:Int):
  Calls Tryz.prog 58 #[y' p, .int .u64 D] w fun F w'=>∃r,F= .returned r/\as' w.heap.size w' r st.dk.bytes/\Below w.heap.size w w':=by
 have c0:w.cell? ⟨p,0,none⟩=some (y' c.s):=by rw[m' f.ks.blk,f.ks.a0]
 have G:=t' (fI' f.stt D);clear f;unfold y' at *;go_enter Tryz.func58,Tryz.ntmps58;go_wp2_with (go_at_call 99;refine(i' G).mono ?_;rintro F y ⟨r,rfl,u,z⟩;replace u:=t' u;replace z:=t' z);go_ret;exact⟨_,rfl,i' u,i' z⟩
theorem mG' {w:World} {v p e:Nat} {logs:Nat->List ByteArray} {sh:Nat->List (Nat×Value)} {st:Mod.Stv} {c:Sv} (f:w.heap[v]? =some (.cells #[y' p] 93 (0,0))) (z:aL' w p e logs sh st c) (D:Int):
  Calls Tryz.prog 30 #[y' v, .int .u64 D] w fun F w'=>∃r,F= .returned r/\as' w.heap.size w' r st.dk.bytes/\Below w.heap.size w w':=by
 have c0:w.cell? ⟨v,0,none⟩=some (y' p):=m' (i:=0) f;have G:=t' (lY' z D);clear z f;unfold y' at *;go_enter Tryz.func30,Tryz.ntmps30;go_wp2_with (go_at_call 59;refine(i' G).mono ?_;rintro F y ⟨r,rfl,u,f⟩;replace u:=t' u;replace f:=t' f);go_ret;exact⟨_,rfl,i' u,i' f⟩
theorem mH' {w:World} {v p:Nat} {g:Nat->Nat} {tk:Nat} {wel fen:Bool} {free:List Nat} {sh:Nat->List (Nat×Value)} {st:Mod.Stv} {c:Av} (f:w.heap[v]? =some (.cells #[y' p] 90 (0,0))) (z:aA' w p g tk wel fen free sh st c) (D:Int):
  Calls Tryz.prog 29 #[y' v, .int .u64 D] w fun F w'=>∃r,F= .returned r/\as' w.heap.size w' r st.dk.bytes/\Below w.heap.size w w':=by
 have c0:w.cell? ⟨v,0,none⟩=some (y' p):=m' (i:=0) f;have G:=t' (px' z D);clear z f;unfold y' at *;go_enter Tryz.func29,Tryz.ntmps29;go_wp2_with (go_at_call 58;refine(i' G).mono ?_;rintro F y ⟨r,rfl,u,f⟩;replace u:=t' u;replace f:=t' f);go_ret;exact⟨_,rfl,i' u,i' f⟩
theorem iP' {w:World} {p e:Nat} {logs:Nat->List ByteArray} {sh:Nat->List (Nat×Value)} {st:Mod.Stv} {c:Sv} (f:aL' w p e logs sh st c) (hs:st.dk.dead=false) (bs:Value) (l:List UInt8) (F:Y' w bs l) (G:Wire.reads l=false):
  Calls Tryz.prog 56 #[y' p,bs] w fun z H=>z= .returned (.tuple #[.slice none 0 0, .int .i64 1])/\Below w.heap.size w H:=by
 have c0:w.cell? ⟨p,0,none⟩=some (y' c.s):=by rw[m' f.ks.blk,f.ks.a0]
 have D:=ab' f.stt;rw[hs]at D;have I:=t' D;have r:=cr' bs l w F;rw[G]at r;simp only[Bool.false_eq_true,if_false,cD']at r;have J:=t' r;clear f D r;unfold y' at *;go_enter Tryz.func56,Tryz.ntmps56;go_wp2_with (first|(go_at_call 86;refine(i' I).mono ?_;rintro z y ⟨rfl,rfl⟩)|(go_at_call 54;refine(i' J).mono ?_;rintro z y ⟨rfl,u⟩;replace u:=t' u));go_ret2;exact⟨rfl,(i' u).alloc (i' u).size _⟩
section
variable {w:World} {p:Nat} {g:Nat->Nat} {tk:Nat} {wel fen:Bool} {free:List Nat} {sh:Nat->List (Nat×Value)} {st:Mod.Stv} {c:Av} {a:Mod.Ag} {pl:Nat->List Nat}
theorem lZ' (f:aA' w p g tk wel fen free sh st c) (hs:st.dk.dead=true) (i:Int) (s:ByteArray):
  Calls Tryz.prog 52 #[y' p, .int .i64 i, .string s] w fun u w'=>u= .returned (.int .i64 3)/\w'=w:=by
 have c0:w.cell? ⟨p,0,none⟩=some (y' c.s):=by rw[m' f.ks.blk,f.ks.a0]
 have r:=ab' f.stt;rw[hs]at r;have z:=t' r;clear f r;unfold y' at *;go_enter Tryz.func52,Tryz.ntmps52;go_wp2_with (go_at_call 86;refine(i' z).mono ?_;rintro u y ⟨rfl,D⟩;obtain rfl:w=y:=D.symm);go_ret;exact⟨rfl,rfl⟩
theorem kW' (f:aA' w p g tk wel fen free sh st c) (hs:st.dk.dead=true) (bs:Value):
  Calls Tryz.prog 57 #[y' p,bs] w fun u w'=>u= .returned (.int .i64 3)/\w'=w:=by
 have c0:w.cell? ⟨p,0,none⟩=some (y' c.s):=by rw[m' f.ks.blk,f.ks.a0]
 have r:=ab' f.stt;rw[hs]at r;have z:=t' r;clear f r;unfold y' at *;go_enter Tryz.func57,Tryz.ntmps57;go_wp2_with (go_at_call 86;refine(i' z).mono ?_;rintro u y ⟨rfl,D⟩;obtain rfl:w=y:=D.symm);go_ret;exact⟨rfl,rfl⟩
theorem sL' (f:aA' w p g tk wel fen free sh st c) (n:Int) (u:n<=9223372036854775807):
  Calls Tryz.prog 61 #[y' p, .int .i64 n] w fun r w'=>r= .returned (.tuple #[])/\aA' w' p g tk wel fen free sh {st with dk:={st.dk with armed:=n.toNat}} c/\Far (fun k=>k=c.dp) w w':=by
 have c0:w.cell? ⟨p,0,none⟩=some (y' c.s):=by rw[m' f.ks.blk,f.ks.a0]
 have z:=t' (hZ' f.stt n u);have D:=t' f;clear f;unfold y' at *;go_enter Tryz.func61,Tryz.ntmps61;go_wp2_with (go_at_call 101;refine(i' z).mono ?_;rintro r y ⟨rfl,k1,k2⟩;replace k1:=t' k1;replace k2:=t' k2);have f:=i' D;exact bodyPost_end (results_none rfl _ _ _) rfl ⟨rfl,⟨f.ks.far (i' k2) (fun k F e=>f.sep k F (by rw[e];exact .inr (.inl rfl))),i' k1,f.rl.far (i' k2) (fun g G e=>(f.sepr g G).2 (by rw[e];exact .inr (.inl rfl))),f.len⟩,i' k2⟩
theorem py' (u:aA' w p g tk wel fen free sh st c) (hs:st.dk.dead=true) (Z:tk<=1000000000):
  Calls Tryz.prog 53 #[y' p] w fun z Q=>z= .returned (.slice none 0 0)/\az' w Q p g (tk+1) wel fen free sh st c:=by
 have U:w.cell? ⟨p,23,none⟩=some (.int .i64 tk):=by rw[m' u.ks.blk,u.ks.at']
 have f23:w.frozen? ⟨p,23,none⟩=false:=D' (i:=23) u.ks.blk;obtain⟨r,D⟩:∃r,r=tk+1:=⟨_,rfl⟩;rw[<-D];have V:=t' D;have X:=t' u;clear u D;unfold y' at *;go_enter Tryz.func53,Tryz.ntmps53;go_upto_region 2 with fail;refine C' (fun x=>az' w x p g r wel fen free sh st c) ?_ ?_
 ·rw[show((tk:Int)+1)=((r:Nat):Int) by have:=i' V;omega];exact ee' (i' X) r
 clear U f23;rintro x Y;obtain⟨c1,f,H,I,s1,J⟩:=Y;have aa:x.cell? ⟨p,25,none⟩=some (.bool fen):=by rw[m' f.ks.blk,f.ks.ae]
 have ab:x.cell? ⟨p,0,none⟩=some (y' c1.s):=by rw[m' f.ks.blk,f.ks.a0]
 have F:=ab' f.stt;rw[hs]at F;have M:=t' F;have O:=t' (⟨c1,f,H,I,s1,J⟩:az' w x p g r wel fen free sh st c);clear f H I s1 J F;unfold y' at *;cases fen with
 |true=>
  go_wp2_with (go_at_call 86;refine(i' M).mono ?_;rintro z y ⟨rfl,G⟩;obtain rfl:x=y:=G.symm)
  go_ret;exact⟨rfl,i' O⟩
 |false=>
  go_wp2_with (go_at_call 86;refine(i' M).mono ?_;rintro z y ⟨rfl,G⟩;obtain rfl:x=y:=G.symm)
  go_ret;exact⟨rfl,i' O⟩
end
theorem pz' {L:List UInt8} {hd:Mod.Hd} {at':Nat} {rs:List Mod.Rc} {l:Mod.Ld} (F:Mod.openSt L=some (hd,at',rs)) (hl:Mod.ldAll hd.num rs 0 Mod.ld0=some l) (G:∀i,i < 3->Mod.okP (l.sh i) (hd.num i)=true) (H:L.length=1664):
  aO' (Mod.agOf hd.o hd.num l) (hd.o+1) hd.num l.free (et' l) (Mod.plOf l):=by
 obtain⟨h1,P,h3⟩:=Mod.agDisk_opened F hl G H;have u:∀i,i < 3->((Mod.agOf hd.o hd.num l).fl i).base=hd.num i:=fun i hi=>by unfold Mod.agOf;simp only;rw[if_pos hi]
 have z:∀i,i < 3->((Mod.agOf hd.o hd.num l).fl i).kept=(l.sh i).map fun e=>(e.2.1,0):=fun i hi=>by unfold Mod.agOf;simp only;rw[if_pos hi]
 have I:∀i,i < 3->((Mod.agOf hd.o hd.num l).fl i).held=[]:=fun i hi=>by unfold Mod.agOf;simp only;rw[if_pos hi]
 have D:∀i,et' l (i * 3+1)=[]:=fun i=>by unfold et';rw[if_neg (by omega)]
 have f:∀i,et' l (i * 3+2)=[]:=fun i=>by unfold et';rw[if_neg (by omega)]
 refine⟨rfl,fun i hi=>(u i hi).symm,P.pn,fun i hi=>?_,fun i hi n=>?_,fun i hi=>?_,fun i hi n=>?_,fun i hi=>?_,fun i hi=>?_,P.nd,P.lt,P.sum⟩
 ·rw[dt',mE',u i hi,z i hi,h3 i hi]
 ·rw[D];unfold cH';rw[z i hi,List.getElem?_map];show none= _;split
  ·rfl
  ·cases (l.sh i)[n - ((Mod.agOf hd.o hd.num l).fl i).base - 1]? with
   |none=>rfl
   |some e=>rfl
 ·rw[D];exact fun x r=>by cases r
 ·rw[f,I i hi];rfl
 ·rw[f];exact fun x r=>by cases r
 ·rw[f];simp
def fd' (op ct n:Nat) (w:World) (v:Nat) (a:Mod.Ag) (r:Nat->Prop):Prop:=
 ∃p g free sh f st c,w.heap[v]? =some (.cells #[y' p] 90 (0,0))/\aA' w p g a.ticks a.welcome a.fenced free sh st c/\eR' op ct n st a free f/\aO' a st.opening g free sh f/\r=fun k=>k=v\/PaU p c k
def ia' (op:Nat) (w:World) (v:Nat) (a:Mod.Ag) (f:Nat->Prop):Prop:=
 ∃p g free sh st c,w.heap[v]? =some (.cells #[y' p] 90 (0,0))/\aA' w p g a.ticks a.welcome a.fenced free sh st c/\uM' op st a/\a.epoch=op/\f=fun k=>k=v\/PaU p c k
section
variable {op ct n N:Nat} {w w':World} {v:Nat} {a:Mod.Ag} {U:Nat->Prop}
theorem rN' (h:fd' op ct n w v a U):∀k,U k->k < w.heap.size:=by
 obtain⟨p,g,free,sh,z,st,c,f,r,_,_,rfl⟩:=h;rintro k (rfl|u)
 ·exact lt_of_block f
 ·exact r.lt k u
theorem pA' {E:Nat->Prop} (h:fd' op ct n w v a U) (f:Far E w w') (r:∀k,U k->¬E k):fd' op ct n w' v a U:=by
 obtain⟨p,g,free,sh,u,st,c,z,D,h1,h2,rfl⟩:=h;exact⟨p,g,free,sh,u,st,c,f.blk z (r v (.inl rfl)),D.far f (fun k F=>r k (.inr F)),h1,h2,rfl⟩
theorem uR' (h:ia' op w v a U):∀k,U k->k < w.heap.size:=by
 obtain⟨p,g,free,sh,st,c,f,r,_,_,rfl⟩:=h;rintro k (rfl|u)
 ·exact lt_of_block f
 ·exact r.lt k u
theorem ud' {E:Nat->Prop} (h:ia' op w v a U) (f:Far E w w') (r:∀k,U k->¬E k):ia' op w' v a U:=by
 obtain⟨p,g,free,sh,st,c,u,z,h1,h2,rfl⟩:=h;exact⟨p,g,free,sh,st,c,f.blk u (r v (.inl rfl)),z.far f (fun k D=>r k (.inr D)),h1,h2,rfl⟩
theorem rd' (h:fd' op ct 0 w v a U):wf' w v a U:=by
 obtain⟨p,g,free,sh,f,st,c,r,u,h1,h2,rfl⟩:=h;exact⟨p,g,free,sh,f,st,c,r,u,h1.sound,h2,rfl⟩
theorem uS' (h:fd' op ct n w v a U):a.epoch=op:=by
 obtain⟨p,g,free,sh,f,st,c,r,u,h1,h2,rfl⟩:=h;rw[<-h2.ep];exact h1.op
theorem nH' {p:Nat} {c:Av} {f:World} {a':Mod.Ag} (u:w.heap[v]? =some (.cells #[y' p] 90 (0,0))) (z:¬PaU p c v) (D:a'.epoch=op) (h:fa' op w f p a' c):
  ∃U',ia' op f v a' U'/\Far (fun k=>k=v\/PaU p c k) w f/\∀k,U' k->(k=v\/PaU p c k)\/w.heap.size<=k:=by
 obtain⟨g,free,sh,st,⟨F,K,r,G,s1,I⟩,hs⟩:=h;refine⟨_,⟨p,g,free,sh,st,F,r.blk u z,K,hs,D,rfl⟩,r.mono (fun _ _ h=> .inr h),?_⟩;rintro k (rfl|H)
 ·exact .inl (.inl rfl)
 ·exact(G k H).imp .inr id
theorem nI' (i:Int) (s:ByteArray) (h:fd' op ct 1 w v a U) (D:aH' N a) (M:N < 1000000000) (h0:a.refuses i s.size=0):
  Calls Tryz.prog 21 #[y' v, .int .i64 i, .string s] w fun f w'=>
   ∃U',f= .returned (.int .i64 4)/\ia' op w' v a U'/\Far U w w'/\∀k,U' k->U k\/w.heap.size<=k:=by
 have F:=uS' h;obtain⟨p,g,free,sh,O,st,c,r,u,hs,G,rfl⟩:=h;have c0:w.cell? ⟨v,0,none⟩=some (y' p):=m' (i:=0) r;have H:Calls Tryz.prog 52 #[y' p, .int .i64 i, .string s] w fun f I=>f= .returned (.int .i64 4)/\fa' op w I p a c:=by obtain⟨⟨h1,h2⟩,h3,h4⟩:=eC' h0;obtain⟨m,rfl⟩:=Int.eq_ofNat_of_zero_le h1;exact ny' u hs G (i:=m) (by omega) s h3 h4 (by have:=D.sum m (by omega);omega)
 have J:=t' H;have z:=t' (And.intro r (And.intro (fG' u r) F));clear u G hs r H F h0 D;unfold y' at *;go_enter Tryz.func21,Tryz.ntmps21;go_wp2_with (go_at_call 52;refine(i' J).mono ?_;rintro f y ⟨rfl,k1⟩;replace k1:=t' k1);go_ret;obtain⟨U',h1,h2,h3⟩:=nH' (i' z).1 (i' z).2.1 (i' z).2.2 (i' k1);exact⟨U',rfl,h1,h2,h3⟩
theorem nJ' (i:Int) (s:ByteArray) (h:ia' op w v a U):Calls Tryz.prog 21 #[y' v, .int .i64 i, .string s] w fun f w'=>f= .returned (.int .i64 3)/\w'=w:=by
 obtain⟨p,g,free,sh,st,c,r,u,hs,D,rfl⟩:=h;have c0:w.cell? ⟨v,0,none⟩=some (y' p):=m' (i:=0) r;have z:=t' (lZ' u hs.dead i s);clear u r;unfold y' at *;go_enter Tryz.func21,Tryz.ntmps21;go_wp2_with (go_at_call 52;refine(i' z).mono ?_;rintro f y ⟨rfl,rfl⟩);go_ret;exact⟨rfl,rfl⟩
theorem ma' (bs:Value) (h:ia' op w v a U):Calls Tryz.prog 28 #[y' v,bs] w fun f w'=>f= .returned (.int .i64 3)/\w'=w:=by
 obtain⟨p,g,free,sh,st,c,r,u,hs,D,rfl⟩:=h;have c0:w.cell? ⟨v,0,none⟩=some (y' p):=m' (i:=0) r;have z:=t' (kW' u hs.dead bs);clear u r;unfold y' at c0 z;show Calls Tryz.prog _ #[.pointer (some ⟨v,0,none⟩),bs] w _;go_enter Tryz.func28,Tryz.ntmps28;go_wp2_with (go_at_call 57;refine(i' z).mono ?_;rintro f y ⟨rfl,rfl⟩);go_ret;exact⟨rfl,rfl⟩
theorem re' (h:ia' op w v a U) (F:a.ticks<=1000000000):Calls Tryz.prog 24 #[y' v] w fun z w'=>
  ∃U',z= .returned (.slice none 0 0)/\ia' op w' v {a with ticks:=a.ticks+1} U'/\Far U w w'/\∀k,U' k->U k\/w.heap.size<=k:=by
 obtain⟨p,g,free,sh,st,c,f,u,hs,D,rfl⟩:=h;have c0:w.cell? ⟨v,0,none⟩=some (y' p):=m' (i:=0) f;have G:=t' (py' u hs.dead F);have H:=t' (And.intro f (And.intro (fG' u f) (And.intro D hs)));clear u f D hs;unfold y' at *;go_enter Tryz.func24,Tryz.ntmps24;go_wp2_with (go_at_call 53;refine(i' G).mono ?_;rintro z y ⟨rfl,k1⟩;replace k1:=t' k1);go_ret;obtain⟨h1,h2,h3,h4⟩:=i' H;obtain⟨I,J,M,O,Q,r⟩:=h4.dk;obtain⟨U',k2,k3,k4⟩:=nH' (a':={a with ticks:=a.ticks+1}) h1 h2 h3 ⟨g,free,sh,st,i' k1,⟨h4.dead,h4.op,I,J,M,O,Q.same (fun i _=>⟨rfl,rfl⟩),⟨r.pn,r.nd,r.lt,r.sum⟩⟩⟩;exact⟨U',rfl,k2,k3,k4⟩
theorem rO' {p:Nat} {g:Nat->Nat} {tk:Nat} {wel fen:Bool} {free:List Nat} {sh:Nat->List (Nat×Value)} {st:Mod.Stv} {c:Av} (f:w.heap[v]? =some (.cells #[y' p] 90 (0,0))) (r:aA' w p g tk wel fen free sh st c) (m:Int) (u:m<=9223372036854775807):
  Calls Tryz.prog 34 #[y' v, .int .i64 m] w fun z w'=>z= .returned (.tuple #[])/\w'.heap[v]? =some (.cells #[y' p] 90 (0,0))/\aA' w' p g tk wel fen free sh {st with dk:={st.dk with armed:=m.toNat}} c/\Far (fun k=>k=v\/PaU p c k) w w':=by
 have c0:w.cell? ⟨v,0,none⟩=some (y' p):=m' (i:=0) f;have F:=t' (sL' r m u);have G:=fG' r f;have H:=t' f;clear r f u;unfold y' at *;go_enter Tryz.func34,Tryz.ntmps34;go_wp2_with (go_at_call 61;refine(i' F).mono ?_;rintro z y ⟨rfl,k1,k2⟩;replace k1:=t' k1;replace k2:=t' k2);have D:=i' k2;exact bodyPost_end (results_none rfl _ _ _) rfl ⟨rfl,D.blk (i' H) (fun e=>G (by rw[e];exact .inr (.inl (.inr (.inl rfl))))),i' k1,D.mono (fun k _ e=> .inr (by rw[e];exact .inr (.inl (.inr (.inl rfl)))))⟩
theorem wj' (m:Int) (h:fd' op ct n w v a U) (r:m<=9223372036854775807):Calls Tryz.prog 34 #[y' v, .int .i64 m] w fun f w'=>f= .returned (.tuple #[])/\fd' op ct m.toNat w' v a U/\Far U w w':=by
 obtain⟨p,g,free,sh,u,st,c,z,D,hs,F,rfl⟩:=h;refine(rO' z D m r).mono ?_;rintro f y ⟨rfl,k1,k2,k3⟩;exact⟨rfl,⟨p,g,free,sh,u,_,c,k1,k2,⟨hs.dead,rfl,hs.op,hs.ct,hs.dk⟩,F,rfl⟩,k3⟩
theorem wk' (h:fd' op ct n w v a U):∃ (L:List UInt8) (c2 hd:Nat) (free:List Nat) (f:Nat->List Nat),Mod.AgDisk L op c2 hd a free f/\Mod.Places a free f/\∀x,Below w.heap.size w x->∀r:Int,
  Calls Tryz.prog 29 #[y' v, .int .u64 r] x fun F y=>∃u,F= .returned u/\as' x.heap.size y u L/\Below x.heap.size x y:=by
 obtain⟨p,g,free,sh,f,st,c,z,G,hs,H,rfl⟩:=h;refine⟨st.dk.bytes,st.count,st.head,free,f,by rw[<-hs.op];exact hs.dk,H.places,fun x D r=>?_⟩;exact mH' ((D.block _ (lt_of_block z)).trans z) (G.far (E:=fun _=>False) (A' D) (fun _ _ e=>e)) r
theorem vV' (h:ia' op w v a U):a.epoch=op/\∃ (L:List UInt8) (c2 hd:Nat) (free:List Nat) (r:Nat->List Nat),Mod.AgDisk L op c2 hd a free r/\Mod.Places a free r/\∀x,Below w.heap.size w x->∀f:Int,
  Calls Tryz.prog 29 #[y' v, .int .u64 f] x fun F y=>∃u,F= .returned u/\as' x.heap.size y u L/\Below x.heap.size x y:=by
 obtain⟨p,g,free,sh,st,c,z,G,hs,H,rfl⟩:=h;obtain⟨c2,hd,I,J,M,O⟩:=hs.dk;refine⟨H,st.dk.bytes,c2,hd,I,J,by rw[<-hs.op];exact M,O,fun x D f=>?_⟩;exact mH' ((D.block _ (lt_of_block z)).trans z) (G.far (E:=fun _=>False) (A' D) (fun _ _ e=>e)) f
end
theorem pB' {g:Nat->Nat} {rs:List Mod.Rc} {l:Mod.Ld} (h1:Mod.ldAll g rs 0 Mod.ld0=some l) (h2:∀i,i < 3->Mod.okP (l.sh i) (g i)=true):Mod.ldRes g rs=some l:=by
 unfold Mod.ldRes;rw[h1];simp only
 rw[if_pos ⟨h2 0 (by omega),h2 1 (by omega),h2 2 (by omega)⟩]
theorem mI' {w:World} (bs:Value) (L:List UInt8) (U:Y' w bs L) (G:L.length=1664) {h:Mod.Hd} {at':Nat} {rs:List Mod.Rc} {l:Mod.Ld} (H:Mod.openSt L=some (h,at',rs)) (hl:Mod.ldAll h.num rs 0 Mod.ld0=some l) (f:∀i,i < 3->Mod.okP (l.sh i) (h.num i)=true):
  Calls Tryz.prog 37 #[bs] w fun z w'=>
   ∃v V,z= .returned (.tuple #[y' v, .int .i64 0])/\fd' (h.o+1) 1 0 w' v (Mod.agOf h.o h.num l) V/\Below w.heap.size w w'/\∀k,V k->w.heap.size<=k:=by
 have D:Hid (Calls Tryz.prog 64 #[bs] w fun z w'=>∃p c,z= .returned (.tuple #[y' p, .int .i64 0])/\aA' w' p h.num 0 false false l.free (et' l) (cw' L h at') c/\Below w.heap.size w w'/\∀k,PaU p c k->w.heap.size<=k):=by
  refine(pv' w bs L U G H).mono ?_;rintro z y (⟨h1,_⟩|⟨Y,p,c,I,rfl,k1,k2,k3⟩)
  ·rw[pB' hl f]at h1;cases h1
  ·rw[pB' hl f]at I;injection I with I;subst I;exact⟨p,c,rfl,k1,k2,k3⟩
 have F:Hid (eR' (h.o+1) 1 0 (cw' L h at') (Mod.agOf h.o h.num l) l.free (Mod.plOf l)):=⟨rfl,rfl,rfl,Nat.le_refl _,(Mod.agDisk_opened H hl f G).1⟩;have u:Hid (aO' (Mod.agOf h.o h.num l) (cw' L h at').opening h.num l.free (et' l) (Mod.plOf l)):=pz' H hl f G;have J:(Mod.agOf h.o h.num l).ticks=0:=rfl;have M:(Mod.agOf h.o h.num l).welcome=false:=rfl;have O:(Mod.agOf h.o h.num l).fenced=false:=rfl;clear U H G hl f;generalize Mod.agOf h.o h.num l=a at *;generalize cw' L h at'=st at D F u;generalize h.o+1=op1 at F ⊢;generalize h.num=Z at D u;generalize et' l=aa at D u;generalize Mod.plOf l=ab at F u;generalize l.free=ac at D F u;have X:=t' (And.intro J (And.intro M O));clear J M O;unfold y' at *;go_enter Tryz.func37,Tryz.ntmps37;go_wp2_with (go_at_call 64;refine(i' D).mono ?_;rintro z y ⟨p,c,rfl,K,r,Q⟩;replace K:=t' K;replace r:=t' r;replace Q:=t' Q);go_ret2;have r:=i' r;obtain⟨J,M,O⟩:=i' X;refine⟨y.heap.size,_,rfl,⟨p,_,_,_,_,st,c,heap_alloc_new _ _,?_,i' F,i' u,rfl⟩,r.alloc r.size _,?_⟩
 ·rw[J,M,O];exact(i' K).below ((Below.refl _ _).alloc (Nat.le_refl _) _)
 ·rintro k (rfl|f)
  ·exact r.size
  ·exact(i' Q) k f
theorem vW' {w:World} (bs:Value) (L:List UInt8) {op c2 hd:Nat} {a:Mod.Ag} {free:List Nat} {r:Nat->List Nat} (F:Y' w bs L) (u:Mod.AgDisk L op c2 hd a free r) (P:Mod.Places a free r) (G:a.epoch=op) (H:op<=1073741824) (I:∀i,i < 3->(a.fl i).base+(a.fl i).kept.length<=1073741824):
  Calls Tryz.prog 37 #[bs] w fun J w'=>∃v z,J= .returned (.tuple #[y' v, .int .i64 0])/\fd' (op+1) 1 0 w' v (Mod.reop a) z/\Below w.heap.size w w'/\∀k,z k->w.heap.size<=k:=by
 obtain⟨f,at',rs,l,M,O,Q,D⟩:=Mod.agLoad_some (u.loads P G H I);have U:f.o=op:=by have:=congrArg Mod.Ag.epoch D;have h1:(Mod.reop a).epoch=a.epoch+1:=rfl;have h2:(Mod.agOf f.o f.num l).epoch=f.o+1:=rfl;omega
 subst U;rw[D];exact mI' bs L F u.ok.len M O Q
theorem uT':Mod.ldAll Mod.hd0.num ((List.range (26 - 2)).map fun _=>Mod.rc0) 0 Mod.ld0=some ⟨List.range 24,fun _=>[]⟩:=by rfl
theorem uU':Mod.agOf Mod.hd0.o Mod.hd0.num ⟨List.range 24,fun _=>[]⟩={epoch:=1,ticks:=0,welcome:=false,fenced:=false,fl:=fun _=>{base:=0,kept:=[],held:=[]}}:=by
 unfold Mod.agOf;congr 1;funext i;split
 ·have:Mod.hd0.num i=0:=by
   unfold Mod.Hd.num;repeat' split
   all_goals rfl
  rw[this];rfl
 ·rfl
theorem pC' {w:World} (bs:Value) (r:Y' w bs (List.replicate 1664 0)):
  Calls Tryz.prog 37 #[bs] w fun u w'=>
   ∃v f,u= .returned (.tuple #[y' v, .int .i64 0])/\fd' 1 1 0 w' v {epoch:=1,ticks:=0,welcome:=false,fenced:=false,fl:=fun _=>{base:=0,kept:=[],held:=[]}} f/\Below w.heap.size w w'/\∀k,f k->w.heap.size<=k:=by
 have z:=Mod.openSt_nought 26 (by omega);rw[<-uU'];exact mI' bs _ r (by rw[List.length_replicate]) z uT' (fun i _=>by
  have:Mod.hd0.num i=0:=by
   unfold Mod.Hd.num;repeat' split
   all_goals rfl
  show Mod.okP [] (Mod.hd0.num i)=true;rw[this];rfl)
def wl' (w:World) (v:Nat) (a:Mod.Ag) (f:Nat->Prop):Prop:=fd' a.epoch (1+fH' a) 0 w v a f
section
variable {N:Nat} {w w':World} {v:Nat} {a:Mod.Ag} {U:Nat->Prop}
theorem mJ' {op ct f n:Nat} (h:fd' op ct n w v a U) (r:ct<=f):fd' op f n w v a U:=by
 obtain⟨p,g,free,sh,u,st,c,z,D,hs,F,rfl⟩:=h;exact⟨p,g,free,sh,u,st,c,z,D,⟨hs.dead,hs.arm,hs.op,Nat.le_trans hs.ct r,hs.dk⟩,F,rfl⟩
theorem sM' (f:aH' N a) (r:N < 1000000000):fH' a<=12884901882:=rK' (fun i hi=>by have:=f.sum i hi;omega)
theorem pD' {i:Int} {s:ByteArray} (h0:a.refuses i s.size=0):1+fH' a+1<=1+fH' (ai' a i s)/\(ai' a i s).epoch=a.epoch:=by
 obtain⟨⟨h1,h2⟩,h3,h4⟩:=eC' h0;obtain⟨m,rfl⟩:=Int.eq_ofNat_of_zero_le h1;have f:m < 3:=by omega
 have:ai' a (m:Int) s=a.submit m s:=by unfold ai';rw[if_pos h0];rfl
 rw[this];refine⟨?_,rfl⟩;obtain rfl|rfl|rfl:m=0\/m=1\/m=2:=by omega
 all_goals
  simp[fH',Mod.Ag.submit,Mod.upd];omega
theorem sN' (a:Mod.Ag) (l:List UInt8):(aI' a l).2.epoch=a.epoch:=by
 unfold aI';split
 ·unfold Mod.Ag.deliver;repeat' split
  all_goals rfl
 ·rfl
theorem uV' (a:Mod.Ag):a.tick.1.epoch=a.epoch:=by
 unfold Mod.Ag.tick;repeat' split
 all_goals rfl
theorem vX' (bs:Value) (L:List UInt8) {c2 hd:Nat} {free:List Nat} {f:Nat->List Nat} (u:Y' w bs L) (z:Mod.AgDisk L a.epoch c2 hd a free f) (P:Mod.Places a free f) (D:a.epoch<=1073741824) (F:∀i,i < 3->(a.fl i).base+(a.fl i).kept.length<=1073741824):
  Calls Tryz.prog 37 #[bs] w fun r w'=>∃v U,r= .returned (.tuple #[y' v, .int .i64 0])/\wl' w' v (Mod.reop a) U/\Below w.heap.size w w'/\∀k,U k->w.heap.size<=k:=by
 refine(vW' bs L u z P rfl D F).mono ?_;rintro r y ⟨v,U,rfl,k1,k2,k3⟩;exact⟨v,U,rfl,mJ' k1 (by omega),k2,k3⟩
theorem pE' (bs:Value) (r:Y' w bs (List.replicate 1664 0)):
  Calls Tryz.prog 37 #[bs] w fun f w'=>
   ∃v U,f= .returned (.tuple #[y' v, .int .i64 0])/\wl' w' v {epoch:=1,ticks:=0,welcome:=false,fenced:=false,fl:=fun _=>{base:=0,kept:=[],held:=[]}} U/\Below w.heap.size w w'/\∀k,U k->w.heap.size<=k:=by
 refine(pC' bs r).mono ?_;rintro f y ⟨v,U,rfl,k1,k2,k3⟩;exact⟨v,U,rfl,mJ' k1 (by omega),k2,k3⟩
end
attribute [local go_sem] Oper.semAt_some
section
variable {w:World} {p:Nat} {g:Nat->Nat} {free:List Nat} {sh:Nat->List (Nat×Value)} {st:Mod.Stv} {c:Av} {a:Mod.Ag} {pl:Nat->List Nat}
theorem pF' (F:aA' w p g a.ticks a.welcome a.fenced free sh st c) (hs:st.dk.dead=false) (U:aO' a st.opening g free sh pl) (i:Nat) (X:i < 3):
  Calls Tryz.prog 55 #[y' p, .int .i64 i] w fun aj aS=>∃v,aj= .returned v/\aS.ownsRow w.heap.size 9 1 v (a.spool i).length (aK' (a.spool i))/\Below w.heap.size w aS:=by
 have c0:w.cell? ⟨p,0,none⟩=some (y' c.s):=by rw[m' F.ks.blk,F.ks.a0]
 have az:=ab' F.stt;rw[hs]at az;have bp:=t' az;have aA:=bc' (i:Int) w;rw[show Wire.isStr (i:Int)=true by simp[Wire.isStr];omega]at aA;have bq:=t' aA;have bO:=lt_of_block F.ks.blk;have ak:=fun y (z:Below w.heap.size w y)=>t' (tw' (F.below z).ks.blk (F.ks.an (i * 3) (by omega)) ((F.below z).ks.shs (i * 3) (by omega)));rw[show 4+i * 3 * 2=4+i * 6 by omega]at ak;have Y:(sh (i * 3)).length=(a.spool i).length:=by rw[U.kp i X,do' _ _ _ (U.pn i X)];simp[Mod.Ag.spool]
 have aT:(0:Int)<=(i:Int):=by omega
 have bP:(i:Int) < 3:=by omega
 have ao:∀k (u:k < (sh (i * 3)).length),∃ (J:ByteArray) (q:Nat),(sh (i * 3))[k].2=bZ' J q/\(a.spool i)[k]? =some J:=by
  intro k u;have aU:k < (a.fl i).kept.length:=by rw[Y]at u;simpa[Mod.Ag.spool]using u
  have h1:=iC' (a.fl i).base (a.fl i).kept (pl i) k (U.pn i X) aU;rw[<-U.kp i X,List.getElem?_eq_getElem u]at h1;injection h1 with h1;exact⟨_,_,by rw[h1],by simp[Mod.Ag.spool,List.getElem?_eq_getElem aU]⟩
 have aV:na' (sh (i * 3)):=by rw[U.kp i X];exact ga' _ _ _
 have br:(a.spool i).length<=24:=by have h1:=U.sum;have h2:=ng' (a:=a) X;simp[Mod.Ag.spool];omega
 have aB:=fun y (z:Below w.heap.size w y)=>t' ((F.below z).ks.shs (i * 3) (by omega));have aC:∀y (z:Below w.heap.size w y),Hid (y.cell? ⟨p,4+i * 6,none⟩=some (c.nv (i * 3))/\y.cell? ⟨p,4+i * 6+1,none⟩=some (c.mv (i * 3))):=fun y z=>t' ⟨by
  rw[m' (F.below z).ks.blk,show 4+i * 6=4+i * 3 * 2 by omega,F.ks.an (i * 3) (by omega)],by
  rw[m' (F.below z).ks.blk,show 4+i * 6+1=4+i * 3 * 2+1 by omega,F.ks.am (i * 3) (by omega)]⟩
 obtain⟨L,aW⟩:∃L,L=sh (i * 3):=⟨_,rfl⟩;obtain⟨nv,aX⟩:∃v,v=c.nv (i * 3):=⟨_,rfl⟩;obtain⟨mv,aY⟩:∃v,v=c.mv (i * 3):=⟨_,rfl⟩;obtain⟨M,aZ⟩:∃M,M=a.spool i:=⟨_,rfl⟩;rw[<-aX,<-aY]at aB aC;rw[<-aW]at aB ak ao aV Y;rw[<-aZ]at ao Y br ⊢;have bt:=t' ao;have ba:=t' Y;clear F U az Y ao aW aX aY aZ aA;unfold y' at *;refine callsIn_wide.1 (callsIn_of_wp_marks (n:=5) Tryz.func55 rfl trivial ?_ rfl);refine wpIn_wide.2 ?_;simp only[Tryz.ntmps55,List.size_toArray,List.length_cons,List.length_nil,Nat.reduceAdd,Nat.reduceSub,Array.replicate_succ,Array.replicate_zero,List.push_toArray,List.append_toArray,List.nil_append,List.cons_append];go_upto_region 4 with (first|(go_at_call 87;refine(i' bq).mono ?_;rintro aj y ⟨rfl,aD⟩;obtain rfl:w=y:=aD.symm)|(go_at_call 86;refine(i' bp).mono ?_;rintro aj y ⟨rfl,aD⟩;obtain rfl:w=y:=aD.symm));obtain⟨f,Z⟩:∃f,f=w.heap.size:=⟨_,rfl⟩;have aE:=t' Z;rw[<-Z];refine C' (fun x=>x.heap[f]? =some (.cells #[.slice none 0 0] 45 (0,0))/\Below f w x/\x.heap.size=f+1) ?_ ?_
 ·rw[Z];exact⟨heap_alloc_new _ _,(Below.refl _ _).alloc (Nat.le_refl _) _,by simp⟩
 rintro x ⟨h5,r,bb⟩;have bc:=t' (i' (ak x (by rw[<-Z];exact r)));have aa:=t' (And.intro h5 (And.intro r bb));clear Z h5 r bb ak;go_wp2_with (go_at_call 97;refine(i' bc).mono ?_;rintro aj y ⟨rfl,z⟩);clear bc;have aF:y.heap.size=f+3:=by rw[z];simp[df',(i' aa).2.2]
 have ap:x.heap.size=f+1:=(i' aa).2.2;have aG:y.heap[f]? =some (.cells #[.slice none 0 0] 45 (0,0)):=by rw[z];unfold df';rw[hao _ _ (by simp;omega),hao _ _ (by omega)];exact(i' aa).1
 have aH:y.heap[f+1]? =some (.cells #[.pointer (some ⟨p,4+i * 6,none⟩)] 209 (0,0)):=by rw[z];unfold df';rw[hao _ _ (by simp;omega),<-ap];exact heap_alloc_new _ _
 have aI:y.heap[f+2]? =some (.cells #[.int .i64 L.length] 3 (0,0)):=by rw[z];unfold df';have:=heap_alloc_new (x.alloc (.cells #[.pointer (some ⟨p,4+i * 6,none⟩)] 209)) (.cells #[.int .i64 L.length] 3);rw[World.size_alloc,ap]at this;exact this
 have aJ:Below f w y:=by rw[z];unfold df';exact((i' aa).2.1.alloc (by omega) _).alloc (by simp;omega) _
 rw[<-z,ap];clear z ap aa;refine wpIn_wide.1 (jg' (n:=5) (b:=f+1) (p:=p) (o:=4+i * 6) (m:=L.length) nv mv L aV rfl rfl (fun k W=>(∃v,W.heap[f]? =some (.cells #[v] 45 (0,0))/\W.ownsRow (f+5) 9 1 v k (aK' (M.take k)))/\W.heap[f+1]? =some (.cells #[.pointer (some ⟨p,4+i * 6,none⟩)] 209 (0,0))/\W.heap[f+2]? =some (.cells #[.int .i64 L.length] 3 (0,0))/\Below f w W/\f+5<=W.heap.size) ?_ ?_ ?_ ?_ ?_ ?_)
 ·rintro k W bQ ⟨⟨v,h5,G⟩,h1,h2,r,V⟩ D;rw[aF]at D;have H:=fun k (h:k≠f+3) (bu:k≠f+4)=>D.rest k h (by omega);refine⟨⟨v,(H f (by omega) (by omega)).trans h5,M' G (fun g I=>?_)⟩,(H _ (by omega) (by omega)).trans h1,(H _ (by omega) (by omega)).trans h2,⟨D.os.trans r.os,D.tape.trans r.tape,D.output.trans r.output,by rw[D.size];exact r.size,fun k u=>(H k (by omega) (by omega)).trans (r.block k u)⟩,by rw[D.size];exact V⟩;have:=(World.ownsRow.lt G g I).1;exact H g (by omega) (by omega)
 ·rintro k W ⟨_,h1,h2,r,_⟩;have aK:Below w.heap.size w W:=by rw[<-i' aE];exact r
  exact⟨m' h1,m' h2,(i' (aC W aK)).1,(i' (aC W aK)).2,i' (aB W aK)⟩
 ·intro W bd bR;have u:=fun k (u:k < y.heap.size)=>bd.block k u;exact⟨⟨_,(u f (by omega)).trans aG,World.ownsRow_nil _ _ _ _⟩,(u _ (by omega)).trans aH,(u _ (by omega)).trans aI,aJ.trans (bd.mono (by omega)),by omega⟩
 ·intro k u W bw bz bA;rw[aF]at bA ⊢;obtain⟨J,q,be,bf⟩:=(i' bt) k u;rw[be];obtain⟨⟨v,h5,G⟩,h1,h2,r,V⟩:=bz;generalize L[k].1=bS at *;have bg:M.take (k+1)=M.take k++[J]:=by rw[List.take_add_one,bf];rfl
  have bT:k < 24:=by have:=i' ba;omega
  have bB:=t' bg;have bh:=t' (And.intro h5 (And.intro G (And.intro h1 (And.intro h2 (And.intro r V)))));clear h5 G h1 h2 r V bg bf aG aH aI aJ be bw u;unfold bZ';obtain⟨O,ab⟩:∃O,O=W.heap.size:=⟨_,rfl⟩;have bU:f+5<=O:=by omega
  have bV:=t' ab;gi_wp2;refine⟨⟨hao _ _ (by omega),hao _ _ (by omega)⟩,?_⟩;intro Q D;obtain⟨h5,G,h1,h2,r,V⟩:=i' bh;have H:∀j,j≠f+3->j≠f+4->j < W.heap.size->Q.heap[j]? =W.heap[j]? :=fun j h bu hl=>(D.rest j h (by omega)).trans (hao _ _ hl);have bi:Q.heap[O]? =some (.cells #[.string J, .int .i64 q] 158 (0,0)):=by rw[D.rest O (by omega) (by omega),ab];exact heap_alloc_new _ _
  have bC:Q.heap.size=O+1:=by rw[D.size,ab];simp
  have ac:=(H f (by omega) (by omega) (by omega)).trans h5;have aq:=(H _ (by omega) (by omega) (by omega)).trans h1;have au:=(H _ (by omega) (by omega) (by omega)).trans h2;have av:Below f w Q:=⟨D.os.trans r.os,D.tape.trans r.tape,D.output.trans r.output,by have:=r.size;omega,fun j hj=>(H j (by omega) (by omega) (by omega)).trans (r.block j hj)⟩;have ad:Q.ownsRow (f+5) 9 1 v k (aK' (M.take k)):=M' G (fun g I=>by have:=World.ownsRow.lt G g I;exact H g (by omega) (by omega) this.2);obtain⟨bj,cap,rfl,_⟩:=(al' ad).shape;have bD:=m' (i:=0) ac;have bW:=D' (i:=0) ac;have bE:=m' (i:=0) bi;simp at bD bE;rw[<-ab];obtain⟨xs,aL⟩:∃xs,xs=aK' (M.take k):=⟨_,rfl⟩;rw[<-aL]at ad;have bX:xs.length=k:=ad.1 |> fun h=>by simpa using h
  have bF:=t' aL;have bk:=t' (And.intro ac (And.intro aq (And.intro au av)));have aM:=t' ad;clear h5 G h1 h2 r V H bi ac aq au av ad D bh aL ab;have bG:∀bl,(Q.alloc bl).heap[f]? =some (.cells #[.slice bj k cap] 45 (0,0)):=fun bl=>(hao _ _ (by omega)).trans (i' bk).1;have bm:∀j,j < f+5->some j≠(Value.slice bj k cap).ownBlock:=fun j hj e=>by have:=(World.ownsRow.lt (i' aM) j e.symm).1;omega
  have bn:=cell_one_new Q (.string J) 9;rw[bC]at bn;obtain⟨i0,hi,aT,bH,bI⟩:=info_parts mX';gi_wp2_with (gi_at_builtin;go_loud (refine wpListIn_append_own _ rfl (.tmp 27) (.tmp 30) 45 rfl (f+5) 9 i0 _ 1 16 Tryz.underlying45 hi aT bH bI rfl (by decide) _ k xs rfl (World.ownsRow.alloc (i' aM) _) ⟨O+1,0,none⟩ 1 1 [.string J] rfl rfl bn (by simp[Value.oneCell']) (by unfold maxLen;omega) (by omega) (by simp;omega) ?_;intro bY aN ah ax _;obtain⟨aO,aP,bJ,_⟩:=(al' ah).shape;subst bJ;have ai:=(ax.block f (by simp;omega) (bm f (by omega))).trans (bG _);have bK:=m' (i:=0) ai;have bZ:=D' (i:=0) ai;simp at bK;replace ai:=t' ai;replace ah:=t' ah;replace ax:=t' ax));obtain⟨ac,aq,au,av⟩:=i' bk;have I:=i' ax;have ca:O+2<=aN.heap.size:=by have:=I.size;simp at this;omega
  have aQ:=O' aN f 0 (.slice aO (k+1) aP);have ay:∀j,j≠f->j < f+5->(aN.setCell ⟨f,0,none⟩ (.slice aO (k+1) aP)).heap[j]? =Q.heap[j]? :=fun j bL bM=>
   (aQ.rest j (by omega) bL).trans ((I.block j (by simp;omega) (bm j bM)).trans (hao _ _ (by omega)))
  refine⟨ay _ (by omega) (by omega),ay _ (by omega) (by omega),⟨_,by have:=af' (j:=0) (v:= .slice aO (k+1) aP) (i' ai);simpa using this,?_⟩,(ay _ (by omega) (by omega)).trans aq,(ay _ (by omega) (by omega)).trans au,?_,?_⟩
  ·have e:aK' (M.take (k+1))=xs++[.string J]:=by rw[i' bB,i' bF];simp[aK']
   rw[e];exact M' (i' ah) (fun g bN=>by have:=World.ownsRow.lt (i' ah) g bN;exact aQ.rest g this.2 (by omega))
  ·exact((av.alloc (by omega) _).grown I (by simp;omega) (fun j e=>by have:=(World.ownsRow.lt (i' aM) j e).1;omega)).setCell (p:=⟨f,0,none⟩) (Nat.le_refl _) _
  ·have:=aQ.size;omega
 ·intro k W h;have:=h.2.2.2.2;omega
 ·intro W h hK;rw[aF]at hK ⊢;rw[Nat.min_self,i' ba,List.take_length]at h;obtain⟨⟨v,h5,G⟩,_,_,r,V⟩:=h;have c5:=m' (i:=0) h5;simp at c5;have aR:=t' (And.intro G r);clear h5 G r aG aH aI aJ;go_wp2;have bo:∀j,j≠f+3->(W.putObj (f+3) (.deferred none)).heap[j]? =W.heap[j]? :=fun j h=>World.putObj_heap_other h;refine⟨by simp, .inl ⟨_,_,rfl,run_takeDeferred hK,?_⟩⟩;refine⟨_,results_tmp rfl _ _ _,_,rfl,ap' (M' (i' aR).1 (fun g I=>bo g (by have:=(World.ownsRow.lt (i' aR).1 g I).1;omega))) (by have:=i' aE;omega),?_⟩;obtain⟨_,r⟩:=i' aR;rw[<-i' aE];exact⟨r.os,r.tape,r.output,by rw[World.putObj_size];exact r.size,fun k u=>(bo k (by omega)).trans (r.block k u)⟩
theorem nK' (r:aA' w p g a.ticks a.welcome a.fenced free sh st c) (hs:st.dk.dead=false) (u:aO' a st.opening g free sh pl) (i:Int):
  Calls Tryz.prog 55 #[y' p, .int .i64 i] w fun z D=>∃v,z= .returned v/\D.ownsRow w.heap.size 9 1 v (au' a i).length (aK' (au' a i))/\Below w.heap.size w D:=by
 unfold au';by_cases h:0<=i/\i < 3
 ·rw[if_pos h];obtain⟨n,rfl⟩:=Int.eq_ofNat_of_zero_le h.1;exact pF' r hs u n (by omega)
 ·rw[if_neg h];have F:Wire.isStr i=false:=by
   cases G:Wire.isStr i
   ·rfl
   ·simp[Wire.isStr]at G;omega
  have f:=bc' i w;rw[F]at f;have H:=t' f;clear r u hs f F h;unfold y' at *;go_enter Tryz.func55,Tryz.ntmps55;go_wp2_with (go_at_call 87;refine(i' H).mono ?_;rintro z y ⟨rfl,I⟩;obtain rfl:w=y:=I.symm);go_ret;exact⟨_,rfl,World.ownsRow_nil _ _ _ _,Below.refl _ _⟩
end
def iQ' (n:Nat) (w:World) (v:Nat) (a:Mod.Ag) (f:Nat->Prop):Prop:=fd' a.epoch (1+fH' a) n w v a f
section
variable {n N:Nat} {w w':World} {v:Nat} {a:Mod.Ag} {U:Nat->Prop}
theorem mc' (a:Mod.Ag) (i:Int) (s:ByteArray):(ai' a i s).epoch=a.epoch:=by
 unfold ai';split <;> rfl
theorem rP' {p:Nat} {c:Av} {f:World} {a':Mod.Ag} (u:w.heap[v]? =some (.cells #[y' p] 90 (0,0))) (z:¬PaU p c v) {op:Nat×Nat} (D:a'.epoch=op.1) (h:bE' op w f p a' c):
  ∃U',iQ' op.2 f v a' U'/\Far (fun k=>k=v\/PaU p c k) w f/\∀k,U' k->(k=v\/PaU p c k)\/w.heap.size<=k:=by
 obtain⟨g,free,sh,F,st,⟨G,K,r,H,s1,M⟩,hs,I⟩:=h;unfold cn' at hs;rw[<-D]at hs;refine⟨_,⟨p,g,free,sh,F,st,G,r.blk u z,K,hs,I,rfl⟩,r.mono (fun _ _ h=> .inr h),?_⟩;rintro k (rfl|J)
 ·exact .inl (.inl rfl)
 ·exact(H k J).imp .inr id
def sO' (a:Mod.Ag) (i:Int) (s:ByteArray) (n:Nat):Nat:=if a.refuses i s.size=0 then n - 1 else n
theorem pG' (i:Int) (s:ByteArray) (h:iQ' n w v a U) (H:aH' N a) (O:N < 1000000000) (I:n≠1\/a.refuses i s.size≠0):
  Calls Tryz.prog 21 #[y' v, .int .i64 i, .string s] w fun f w'=>
   ∃U',f= .returned (.int .i64 (a.refuses i s.size))/\iQ' (sO' a i s n) w' v (ai' a i s) U'/\Far U w w'/\∀k,U' k->U k\/w.heap.size<=k:=by
 obtain⟨p,g,free,sh,aa,st,c,u,r,hs,z,rfl⟩:=h;have c0:w.cell? ⟨v,0,none⟩=some (y' p):=m' (i:=0) u;have J:Calls Tryz.prog 52 #[y' p, .int .i64 i, .string s] w fun f D=>f= .returned (.int .i64 (a.refuses i s.size))/\bE' (a.epoch,sO' a i s n) w D p (ai' a i s) c:=by
  unfold sO';by_cases h0:a.refuses i s.size=0
  ·rw[if_pos h0];obtain⟨M,ab⟩:=pD' h0;have F:ai' a i s=a.submit i.toNat s:=by unfold ai';rw[if_pos h0]
   obtain⟨⟨h1,h2⟩,h3,h4⟩:=eC' h0;obtain⟨m,rfl⟩:=Int.eq_ofNat_of_zero_le h1;have ac:=sM' H O;refine(hP' r hs (by omega) (I.resolve_right (by rw[h0];simp)) z (i:=m) (by omega) s h3 h4 (by have:=H.sum m (by omega);omega)).mono ?_;rintro f D ⟨rfl,g2,Q,V,X,Y,k1,k2,k3⟩;rw[F]at M ⊢;refine⟨by rw[h0],g2,Q,V,X,Y,k1,?_,k3⟩;exact⟨k2.dead,k2.arm,k2.op,Nat.le_trans k2.ct M,k2.dk⟩
  ·rw[if_neg h0];have F:ai' a i s=a:=by unfold ai';rw[if_neg h0]
   rw[F];refine(hO' r hs.dead z i s h0).mono ?_;rintro f D ⟨rfl,rfl⟩;exact⟨rfl,bM' r hs z⟩
 have Z:=t' J;have G:=t' (And.intro u (And.intro (fG' r u) (mc' a i s)));generalize ai' a i s=ad at *;generalize a.refuses i s.size=e at *;generalize sO' a i s n=ah at *;clear r z hs u J I;unfold y' at *;go_enter Tryz.func21,Tryz.ntmps21;go_wp2_with (go_at_call 52;refine(i' Z).mono ?_;rintro f y ⟨rfl,k1⟩;replace k1:=t' k1);go_ret;obtain⟨U',h1,h2,h3⟩:=rP' (i' G).1 (i' G).2.1 (i' G).2.2 (i' k1);exact⟨U',rfl,h1,h2,h3⟩
theorem mK' (bs:Value) (l:List UInt8) (h:iQ' n w v a U) (M:aH' N a) (Q:N < 1000000000) (z:Y' w bs l) (D:n≠1\/eS' a l=0):
  Calls Tryz.prog 28 #[y' v,bs] w fun F w'=>
   ∃U',F= .returned (.int .i64 (aI' a l).1)/\iQ' (dT' (0,n) (eS' a l)).2 w' v (aI' a l).2 U'/\Far U w w'/\∀k,U' k->U k\/w.heap.size<=k:=by
 obtain⟨p,g,free,sh,V,st,c,f,u,hs,G,rfl⟩:=h;have c0:w.cell? ⟨v,0,none⟩=some (y' p):=m' (i:=0) f;have H:=kP' (op:=(a.epoch,n)) u hs G (fun i hi=>by have:=M.sum i hi;omega) bs l z D;have I:(aI' a l).2.epoch=(dT' (a.epoch,n) (eS' a l)).1:=by rw[uN'];exact sN' a l
 have J:(dT' (a.epoch,n) (eS' a l)).2=(dT' (0,n) (eS' a l)).2:=by unfold dT';split <;> rfl
 have O:=t' H;have r:=t' (And.intro f (And.intro (fG' u f) (And.intro I J)));generalize (aI' a l).2=X at *;generalize (aI' a l).1=e at *;generalize dT' (a.epoch,n) (eS' a l)=Y at *;generalize (dT' (0,n) (eS' a l)).2=Z at *;clear u G hs f z H I J D;unfold y' at *;go_enter Tryz.func28,Tryz.ntmps28;go_wp2_with (go_at_call 57;refine(i' O).mono ?_;rintro F y ⟨rfl,k1⟩;replace k1:=t' k1);go_ret;obtain⟨U',h1,h2,h3⟩:=rP' (i' r).1 (i' r).2.1 (i' r).2.2.1 (i' k1);rw[(i' r).2.2.2]at h1;exact⟨U',rfl,h1,h2,h3⟩
theorem md' (bs:Value) (l:List UInt8) (h:iQ' 1 w v a U) (H:aH' N a) (J:N < 1000000000) (u:Y' w bs l) (z:0 < eS' a l):
  Calls Tryz.prog 28 #[y' v,bs] w fun D w'=>
   ∃U',D= .returned (.int .i64 4)/\ia' a.epoch w' v a U'/\Far U w w'/\∀k,U' k->U k\/w.heap.size<=k:=by
 obtain⟨p,g,free,sh,M,st,c,f,r,hs,F,rfl⟩:=h;have c0:w.cell? ⟨v,0,none⟩=some (y' p):=m' (i:=0) f;have I:=t' (kQ' (op:=(a.epoch,1)) r hs F rfl bs l z (fun i hi=>by have:=H.sum i hi;omega) u);have G:=t' (And.intro f (fG' r f));clear r F hs f u z;unfold y' at *;go_enter Tryz.func28,Tryz.ntmps28;go_wp2_with (go_at_call 57;refine(i' I).mono ?_;rintro D y ⟨rfl,k1⟩;replace k1:=t' k1);go_ret;obtain⟨U',h1,h2,h3⟩:=nH' (i' G).1 (i' G).2 rfl (i' k1);exact⟨U',rfl,h1,h2,h3⟩
theorem ue' (h:iQ' n w v a U) (H:aH' N a) (I:N < 1000000000):
  Calls Tryz.prog 24 #[y' v] w fun z w'=>
   ∃lv fs U',z= .returned lv/\L' w.heap.size w' lv fs (a.tick.2.map fun l=>⟨l.toArray⟩) U'/\iQ' n w' v a.tick.1 U'/\Far U w w'/\∀k,U' k->U k\/w.heap.size<=k:=by
 obtain⟨p,g,free,sh,ac,st,c,f,u,hs,D,rfl⟩:=h;have c0:w.cell? ⟨v,0,none⟩=some (y' p):=m' (i:=0) f;have J:=t' (po' (op:=(a.epoch,n)) u hs D H I);have ad:=lt_of_block f;have M:=t' (And.intro f (fG' u f));have O:=t' (uV' a);generalize a.tick.1=ah at *;generalize a.tick.2=fr at *;clear u D hs f;unfold y' at *;go_enter Tryz.func24,Tryz.ntmps24;go_wp2_with (go_at_call 53;refine(i' J).mono ?_;rintro z y ⟨lv,fs,rfl,k1⟩;replace k1:=t' k1);go_ret;obtain⟨F,k1,⟨g2,free2,Q,V,X,K,Y,Z⟩,G,aa,s1,ai⟩:=i' k1;obtain⟨f,ab⟩:=i' M;refine⟨lv,fs,fun k=>k=v\/PaU p F k,rfl,k1.apartU ?_,⟨p,g2,free2,Q,V,X,F,G.blk f ab,K,by rw[i' O];exact Y,Z,rfl⟩,G.mono (fun _ _ h=> .inr h),?_⟩
 ·rintro k r (rfl|hu)
  ·have:=(k1.lt k r).1;omega
  ·exact k1.clear k r hu
 ·rintro k (rfl|r)
  ·exact .inl (.inl rfl)
  ·exact(aa k r).imp .inr id
theorem rQ' (i:Int) (h:iQ' n w v a U):
  Calls Tryz.prog 26 #[y' v, .int .i64 i] w fun f w'=>
   ∃lv,f= .returned lv/\w'.ownsRow w.heap.size 9 1 lv (au' a i).length (aK' (au' a i))/\Below w.heap.size w w':=by
 obtain⟨p,g,free,sh,F,st,c,r,u,hs,z,rfl⟩:=h;have c0:w.cell? ⟨v,0,none⟩=some (y' p):=m' (i:=0) r;have D:=t' (nK' u hs.dead z i);generalize au' a i=xs at *;clear u r z hs;unfold y' at *;go_enter Tryz.func26,Tryz.ntmps26;go_wp2_with (go_at_call 55;refine(i' D).mono ?_;rintro f y ⟨lv,rfl,k1,k2⟩;replace k1:=t' k1;replace k2:=t' k2);go_ret;exact⟨lv,rfl,i' k1,i' k2⟩
theorem wm' (m:Int) (h:iQ' n w v a U) (f:m<=9223372036854775807):Calls Tryz.prog 34 #[y' v, .int .i64 m] w fun r w'=>r= .returned (.tuple #[])/\iQ' m.toNat w' v a U/\Far U w w':=wj' m h f
theorem uW' {op:Nat} (m:Int) (h:ia' op w v a U) (r:m<=9223372036854775807):Calls Tryz.prog 34 #[y' v, .int .i64 m] w fun f w'=>f= .returned (.tuple #[])/\ia' op w' v a U/\Far U w w':=by
 obtain⟨p,g,free,sh,st,c,u,z,hs,D,rfl⟩:=h;refine(rO' u z m r).mono ?_;rintro f y ⟨rfl,k1,k2,k3⟩;exact⟨rfl,⟨p,g,free,sh,_,c,k1,k2,⟨hs.dead,hs.op,hs.dk⟩,D,rfl⟩,k3⟩
end
end Go.Proofs.YtamafdcnbcoegaaGreat
namespace Go.Proofs.YtamafdcnbcoegaaGreat
open Go.RowKit
def dJ' (a:Mod.Sk) (i:Int):List ByteArray:=if 0<=i/\i < 3 then a.logs i.toNat else []
theorem ib' (e s:Nat) (f:Mod.Flow) (t:Nat) (r:∀x∈f.kept,x.1.size<=20):∀i,(Mod.sendTo e s f t i).2.length<=i/\∀l∈ (Mod.sendTo e s f t i).2,l.length<=35
 |0=>⟨Nat.le_refl _,fun l hl=>by cases hl⟩
 |i+1=>by
  obtain⟨h1,h2⟩:=ib' e s f t r i;rw[Mod.sendTo];split
  ·exact⟨by omega,h2⟩
  ·rename_i x u;split
   ·refine⟨by simp;omega,fun l hl=>?_⟩;rw[List.mem_append,List.mem_singleton]at hl;rcases hl with hl|rfl
    ·exact h2 l hl
    ·have:=r x (List.mem_of_getElem? u);rw[Wire.length_bytes];simp;omega
   ·exact⟨by omega,h2⟩
theorem kX' {N:Nat} {a:Mod.Ag} (f:aH' N a):a.tick.2.length<=12/\∀l∈a.tick.2,l.length<=35:=by
 unfold Mod.Ag.tick;split
 ·exact⟨by simp,fun l hl=>by cases hl⟩
 ·split
  ·refine⟨by simp,fun l hl=>?_⟩;rw[List.mem_singleton]at hl;rw[hl,Wire.length_bytes];simp
  ·have h:=fun s (hs:s < 3)=>ib' a.epoch s (a.fl s) (a.ticks+1) (fun x r=>(f.bod s hs x r).1) 4;have h0:=h 0 (by omega);have h1:=h 1 (by omega);have h2:=h 2 (by omega);simp only[Mod.sendOut,List.nil_append];refine⟨by simp only[List.length_append];omega,fun l hl=>?_⟩;rw[List.mem_append,List.mem_append]at hl;rcases hl with (hl|hl)|hl
   ·exact h0.2 l hl
   ·exact h1.2 l hl
   ·exact h2.2 l hl
def bI' (c:Int) (n:Nat):Nat:=((if c < 0 then -(c+1)else c) % (n:Int)).toNat
theorem dK' (c:Int) {n:Nat} (f:0 < n):bI' c n < n:=by
 unfold bI';have h1:=Int.emod_lt_of_pos (if c < 0 then -(c+1)else c) (show(0:Int) < n by omega);have h2:=Int.emod_nonneg (if c < 0 then -(c+1)else c) (show(n:Int)≠0 by omega);omega
theorem jr' (n:Nat):aH' n ag0:=⟨by simp[ag0],by simp[ag0],by simp[ag0],fun s hs x f=>by simp[ag0]at f⟩
theorem me' (w:World) (v:Value) (L:List UInt8) (aV:Y' w v L) (J:L.length=7808) {h:Mod.Hd} {at':Nat} {rs:List Mod.Rc} (az:Mod.openSt L=some (h,at',rs)):
  Calls Tryz.prog 65 #[v] w fun aA w'=>(¬ (h.b=0/\h.d=0)\/Mod.skLd rs 0 (fun _=>[])=none)/\aA= .returned (.tuple #[.pointer none, .int .i64 2])/\Below w.heap.size w w'\/
   h.b=0/\h.d=0/\∃logs p c,Mod.skLd rs 0 (fun _=>[])=some logs/\aA= .returned (.tuple #[y' p, .int .i64 0])/\aL' w' p h.a logs (fun _=>[]) (cw' L h at') c/\Below w.heap.size w w'/\∀k,PkU p c k->w.heap.size<=k:=by
 have Z:=go' w v L 122 aV (by omega) (by omega) (by omega) az;rw[mF']at Z;obtain⟨aB,aC⟩:=Mod.openSt_some az;have aW:=rM' aC;have aX:rs.length=120:=by have:=(Mod.recsFrom_some _ _ aC).1;rw[this,J]
 obtain⟨_,aY,aZ,_⟩:=Mod.newest_some aB;have ba:=Mod.headIs_small aY;rw[<-aZ]at ba;have bb:(cw' L h at').dk.bytes.length=7808:=by have:=(Mod.opened_ok aB (m:=122) (by omega) (by omega)).len;exact this
 obtain⟨bW,cap,rfl,br,bt,_⟩:=aV;obtain⟨n,bc⟩:∃n,n=L.length:=⟨_,rfl⟩;rw[<-bc]at J br bt Z ⊢;subst J;generalize cw' L h at'=st at *;obtain⟨ep,aD⟩:∃ep,ep=h.a:=⟨_,rfl⟩;obtain⟨I,aE⟩:∃I,I=h.b:=⟨_,rfl⟩;obtain⟨nd,aF⟩:∃nd,nd=h.d:=⟨_,rfl⟩;rw[<-aD,<-aE,<-aF]at Z;rw[<-aD,<-aE,<-aF];have bd:ep<=2147483647:=by omega
 have bu:=t' Z;have ad:=t' (And.intro aW (And.intro aX (And.intro bb bd)));have ah:=fun y=>t' (gl' ep y);clear bc az aB aC aY aZ ba Z aW aX bb aD aE aF bd;obtain⟨res,ai⟩:∃res,res=Mod.skLd rs 0 (fun _=>[]):=⟨_,rfl⟩;rw[<-ai];unfold y' at *;go_enter Tryz.func65,Tryz.ntmps65;go_upto_region 7 with (go_at_call 102;refine(i' bu).mono ?_;rintro aA y ⟨s,dp,lv,bw,rv,rfl,be,bf,aa,H⟩;obtain⟨bX,aj,rfl,_,_,bg⟩:=(ao'.of_own (ap' aa (Nat.zero_le _))).shape);obtain⟨ak,bz,rfl,_⟩:=bg (by omega);have bA:bz=0:=by
  rcases aa with ⟨_,⟨h,_⟩|⟨g',bY,bZ,h,_⟩⟩
  ·cases h
  ·injection h with h;injection h with h;injection h
 subst bA;clear bg;obtain⟨f,aG⟩:∃f,f=y.heap.size:=⟨_,rfl⟩;have ao:=t' aG;rw[<-aG];have bB:w.heap.size<=f:=by have:=H.size;omega
 clear aG;refine C' (fun x=>x.heap[f]? =some (.cells #[.int .i64 ep, .int .i64 I, .int .i64 nd, .slice (some ⟨ak,0,none⟩) 120 aj] 187 (0,0))/\x.heap[f+1]? =some (.cells (ef' s ep (.slice none 0 0)) 176 (0,0))/\Below f y x) ?_ ?_
 ·rw[i' ao];exact bS' _ _ _
 rintro x ⟨h5,ap,aq⟩;have aH:=lt_of_block ap;have aI:=aw' (ap' aa (Nat.zero_le _)) (fun g V=>by have:=(World.ownsRow.lt aa g V).2;exact aq.block g (by rw[i' ao];exact this));have ca:(Value.slice (some ⟨ak,0,none⟩) 120 aj).ownBlock≠some (f+1):=fun e=>(ao'.of_own aI).ne ap (by decide) e;have aJ:=t' (be.far (A' (E:=fun _=>False) (by rw[<-i' ao];exact aq)) (fun _ _ h=>h));have bC:=t' bf;have au:=t' (H.trans (aq.mono bB));have bh:=t' h5;have ab:=t' ap;have aK:=t' aI;clear be bf aa aI H aq h5 ap ao;have bi:¬StU s dp lv bw (f+1):=by
  rintro(h|h)
  ·have h1:=(i' aJ).blk;rw[<-h,i' ab]at h1;injection h1 with h1;injection h1 with _ h1 _;exact absurd h1 (by decide)
  ·exact dY' (i' aJ).dk (i' ab) (by decide) (by decide) (by decide) h
 by_cases Q:I=0/\nd=0
 ·have bD:∀z:World,(Op.equalIn 10000 136 (.agg #[.int .i64 ep, .int .i64 I, .int .i64 nd]) (.agg #[.int .i64 ep, .int .i64 0, .int .i64 0])).run Tryz.prog z= .ok true z:=fun z=>by rw[hw'];simp[Q.1,Q.2]
  have ac:=t' Q;clear Q;have av:=fun(z:World) (h1:z.heap[f+1]? = _) (h2:z.ownsRow 0 155 3 (.slice (some ⟨ak,0,none⟩) 120 aj) 120 (cJ' rs))=>t' (nG' (p:=f+1) (e:=ep) (s:=s) h1 h2 (i' ad).2.1 (by omega) (i' ad).1 (i' ad).2.2.2);rw[<-ai]at av;have cb:=t' ai;clear ai;unfold y' at av;refine en' (by kernel_rfl)
   [fun v _=>v= .pointer (some ⟨f,0,none⟩),fun v _=>v= .agg #[.int .i64 ep, .int .i64 I, .int .i64 nd],fun v _=>v= .pointer (some ⟨f+1,0,none⟩),fun v _=>v= .pointer (some ⟨f+1,0,none⟩),fun v _=>v= .pointer (some ⟨f+1,1,none⟩),fun v _=>v= .int .i64 ep,fun v _=>v= .agg #[.int .i64 ep, .int .i64 0, .int .i64 0],fun v _=>v= .bool false,fun v _=>v= .bool false,
    fun v _=>v= .pointer (some ⟨f+1,0,none⟩),fun v _=>v= .pointer (some ⟨f,3,none⟩),fun v _=>v= .slice (some ⟨ak,0,none⟩) 120 aj,fun _ _=>True,fun _ _=>True,fun _ _=>True]
   [[(5,none)],[(26,some 0)],[(7,none)],[(28,some 2)],[(29,some 3)],[(30,some 4)],[(31,some 5)],[(27,some 1),(32,some 6)],[(33,some 7)],[(7,none),(34,some 8)],[(5,none),(34,some 8)],[(36,some 10),(34,some 8)],[(35,some 9),(37,some 11),(34,some 8)],[(38,some 12),(34,some 8)],[(34,some 8),(39,some 13)]] [some 26,some 27,some 28,some 29,some 30,some 31,some 32,some 33,some 34,some 35,some 36,some 37,some 38,some 39,some 40] [false,false,false,false,false,false,false,false,false,false,false,false,false,false,false,false,false,false,false,false,false,false,false,false,false,false,true,true,true,true,true,true,true,true,true,true,true,true,true,true,true,false,false,false,false,false,false,false,false,false,false,false]
   12 _ rfl (Nat.le_of_ble_eq_true (n:=13) (by kernel_rfl)) (by kernel_rfl) (by kernel_rfl) (by kernel_rfl) (by kernel_rfl) (by kernel_rfl) (by kernel_rfl) ?_ ?_ ?_ ?_
  ·repeat' (first|exact J' _|exact Z'|exact trivial|apply And.intro)
  ·refine⟨?_,?_,?_,?_,?_,?_,?_,?_,?_,?_,?_,?_,trivial⟩;all_goals
    intro a' z D F;have z5:=(D.block _ (by omega)).trans (i' bh);have M:=(D.block _ aH).trans (i' ab);have aL:=m' (i:=0) z5;have aM:=m' (i:=1) z5;have aN:=m' (i:=2) z5;have aO:=m' (i:=3) z5;have X:=m' (i:=1) M;simp[ef']at aL aM aN aO X;clear D z5 M;simp only[I',List.getD_cons_zero,List.getD_cons_succ,Array.getD_eq_getD_getElem?]at F;try simp at F
    try (have V:a'.tmps[34]? =some (.bool false):=ey' (by first|exact F|exact F.1|exact F.2|exact F.2.2))
    try go_simp
    try simp only[V,if_true]
    try go_simp
    try exact Below.refl _ _
   all_goals first
    |exact⟨rfl,Below.refl _ _⟩
    |exact⟨_,rfl,Below.refl _ _,rfl⟩
    |(refine(i' (ah _)).mono ?_;rintro e u ⟨rfl,H⟩;exact⟨rfl,H⟩)
    |(refine(i' (ah _)).mono ?_;rintro e u ⟨rfl,H⟩;exact⟨_,rfl,H,rfl⟩)
    |skip
  ·intro r z G;simp only[ae',List.take]at G;have aP:=G.2.2.2.2.2.2.2.2.1;clear G;simp only[R',aP];rfl
  ·intro r z D G;simp only[ae',List.take]at G;have aP:=G.2.2.2.2.2.2.2.2.1;have bE:=G.2.2.2.2.2.2.2.2.2.1;have bF:=G.2.2.2.2.2.2.2.2.2.2.2.1;have M:=(D.block _ aH).trans (i' ab);have bj:=aw' (i' aK) (fun g V=>D.block g (World.ownsRow.lt (i' aK) g V).2);have aQ:=t' (i' (av z M bj));have O:=t' D;clear G M bj D av;simp only[R',aP,bE,bF];generalize r 26=bG;generalize r 27=bH;generalize r 28=bI;generalize r 29=bJ;generalize r 30=bK;generalize r 31=bL;generalize r 32=bM;generalize r 33=bN;go_simp;refine(i' aQ).mono ?_;rintro e u ⟨rfl,hF,hl⟩;have ax:=t' hF;have aR:=t' hl;clear hF hl;intro bk cc;obtain⟨m,rfl⟩:∃m,bk=m+2:=⟨bk - 2,by omega⟩;refine fY' (i:=13) (by kernel_rfl) rfl rfl ?_;go_simp;refine fY' (i:=14) (by kernel_rfl) rfl rfl ?_;go_simp;refine iz' (by kernel_rfl) ?_;have aS:Far (fun k=>k=f+1) w u:=(A' (E:=fun k=>k=f+1) (i' au)).trans ((A' (E:=fun k=>k=f+1) (i' O)).trans (i' ax) (fun _ _ h=>h)) (fun _ _ h=>h);have U:Below w.heap.size w u:=aS.below (Nat.le_refl _) (fun k Y h=>by omega);cases res with
   |none=>have aT:=t' U;clear U aS aQ aR ax O;go_wp2;go_ret2;first|exact .inl ⟨.inr rfl,rfl,i' aT⟩|exact⟨rfl,i' aT⟩|exact .inl ⟨rfl,i' aT⟩
   |some logs=>
    have J:=(i' aR) logs rfl;have bl:=J.behind (i' O);have bm:Far (fun k=>k=f+1) x u:=(A' (E:=fun k=>k=f+1) (i' O)).trans (i' ax) (fun _ _ h=>h);have bn:=(i' aJ).far bm (fun k Y e=>bi (by rw[<-e];exact Y));obtain⟨arr,cd,K,_,_⟩:=J;have bo:=lt_of_block K.blk;have bp:u.cell? ⟨f+1,11,none⟩=some (.slice none 0 0):=by rw[m' K.blk];exact K.ar
    have ce:∀o,(u.alloc o).cell? ⟨f+1,11,none⟩=some (.slice none 0 0):=fun o=>(World.cell?_alloc_lt u _ ⟨f+1,11,none⟩ bo).trans bp;have cf:∀o,(u.alloc o).frozen? ⟨f+1,11,none⟩=false:=fun o=>D' (i:=11) ((hao _ _ bo).trans K.blk);have cg:¬f+1=u.heap.size:=by omega
    have bO:=t' (And.intro bl (And.intro bn U));clear bp bl bn K bm aS aR ax O aQ;go_wp2;go_ret2;obtain⟨J,bP,U⟩:=i' bO;obtain⟨R,bq⟩:∃R,R=Obj.cells (aY' (f+1)).toArray 179 (0,0):=⟨_,rfl⟩;obtain⟨ay,aU⟩:∃ay,ay=u.setCell ⟨f+1,11,none⟩ (.slice (some ⟨u.heap.size,0,none⟩) 2 2):=⟨_,rfl⟩;have bQ:ay.heap.size=u.heap.size:=by rw[aU,World.size_setCell]
    have bR:ao' (ay.alloc R) 179 2 (.slice (some ⟨u.heap.size,0,none⟩) 2 2) 2 (aY' (f+1)):=by refine⟨by simp[aY'], .inr ⟨u.heap.size,0,2,(aY' (f+1)).toArray,rfl,?_,by omega,by unfold maxLen;omega,by simp[aY'],by simp[aY']⟩⟩;rw[<-bQ,heap_alloc_new,bq]
    obtain⟨c,bS,bT⟩:=uP' J bP (i' ad).2.2.1 (fun k Y e=>bi (by rw[<-e];exact Y)) aU bR;have bU:R=Obj.cells #[.int .i64 1, .func (.func 109) #[.pointer (some ⟨f+1,0,none⟩)] #[], .int .i64 3, .func (.func 110) #[.pointer (some ⟨f+1,0,none⟩)] #[]] 179 (0,0):=by rw[bq];rfl
    subst bU;subst aU;have ch:=(i' au).size;refine .inr ⟨(i' ac).1,(i' ac).2,logs,f+1,c,rfl,rfl,bS,?_,fun k Y=>?_⟩
    ·exact(U.setCell (p:=⟨f+1,11,none⟩) (by show w.heap.size<=f+1;omega) _).alloc (by rw[World.size_setCell];exact U.size) _
    ·rcases bT k Y with h|h|h|h
     ·omega
     ·omega
     ·exact(i' bC) k h
     ·have h2:some u.heap.size=some k:=h;injection h2 with h2;have:=U.size;omega
 ·have bD:∀z:World,(Op.equalIn 10000 136 (.agg #[.int .i64 ep, .int .i64 I, .int .i64 nd]) (.agg #[.int .i64 ep, .int .i64 0, .int .i64 0])).run Tryz.prog z= .ok false z:=fun z=>by
   rw[hw'];congr 1;by_cases X:I=0
   ·have ci:¬nd=0:=fun e=>Q ⟨X,e⟩;have:((nd:Int) ==0)=false:=by simp;omega
    simp[X,this]
   ·have:((I:Int) ==0)=false:=by simp;omega
    simp[this]
  have ac:=t' Q;clear Q aK;refine cp' (by kernel_rfl)
   [fun v _=>v= .pointer (some ⟨f,0,none⟩),fun v _=>v= .agg #[.int .i64 ep, .int .i64 I, .int .i64 nd],fun v _=>v= .pointer (some ⟨f+1,0,none⟩),fun v _=>v= .pointer (some ⟨f+1,0,none⟩),fun v _=>v= .pointer (some ⟨f+1,1,none⟩),fun v _=>v= .int .i64 ep,fun v _=>v= .agg #[.int .i64 ep, .int .i64 0, .int .i64 0],fun v _=>v= .bool true,fun v _=>v= .bool true,
    fun _ _=>True,fun _ _=>True,fun _ _=>True,fun _ _=>True,fun _ _=>True,fun v _=>v= .bool true]
   [[(5,none)],[(26,some 0)],[(7,none)],[(28,some 2)],[(29,some 3)],[(30,some 4)],[(31,some 5)],[(27,some 1),(32,some 6)],[(33,some 7)],[(7,none),(34,some 8)],[(5,none),(34,some 8)],[(36,some 10),(34,some 8)],[(35,some 9),(37,some 11),(34,some 8)],[(38,some 12),(34,some 8)],[(34,some 8),(39,some 13)]] [some 26,some 27,some 28,some 29,some 30,some 31,some 32,some 33,some 34,some 35,some 36,some 37,some 38,some 39,some 40] [false,false,false,false,false,false,false,false,false,false,false,false,false,false,false,false,false,false,false,false,false,false,false,false,false,false,true,true,true,true,true,true,true,true,true,true,true,true,true,true,true,false,false,false,false,false,false,false,false,false,false,false]
   (by kernel_rfl) (by kernel_rfl) (by kernel_rfl) (by kernel_rfl) ?_ ?_ ?_
  ·repeat' (first|exact J' _|exact Z'|exact trivial|apply And.intro)
  ·refine⟨?_,?_,?_,?_,?_,?_,?_,?_,?_,?_,?_,?_,?_,?_,?_,trivial⟩;all_goals
    intro a' z D F;have z5:=(D.block _ (by omega)).trans (i' bh);have M:=(D.block _ aH).trans (i' ab);have aL:=m' (i:=0) z5;have aM:=m' (i:=1) z5;have aN:=m' (i:=2) z5;have aO:=m' (i:=3) z5;have X:=m' (i:=1) M;simp[ef']at aL aM aN aO X;clear D z5 M;simp only[I',List.getD_cons_zero,List.getD_cons_succ,Array.getD_eq_getD_getElem?]at F;try simp at F
    try (have V:a'.tmps[34]? =some (.bool true):=ey' (by first|exact F|exact F.1|exact F.2|exact F.2.2))
    try go_simp
    try exact Below.refl _ _
    try trivial
   all_goals first
    |exact⟨rfl,Below.refl _ _⟩
    |exact⟨_,rfl,Below.refl _ _,rfl⟩
    |(refine(i' (ah _)).mono ?_;rintro e u ⟨rfl,H⟩;exact⟨rfl,H⟩)
    |(refine(i' (ah _)).mono ?_;rintro e u ⟨rfl,H⟩;exact⟨_,rfl,H,rfl⟩)
    |skip
  ·intro r z D G;simp only[ae']at G;have bV:=G.2.2.2.2.2.2.2.2.2.2.2.2.2.2.1;have O:=t' ((i' au).trans (D.mono (i' au).size));clear G D;simp only[R',bV];generalize r 26=bG;generalize r 27=bH;generalize r 28=bI;generalize r 29=bJ;generalize r 30=bK;generalize r 31=bL;generalize r 32=bM;generalize r 33=bN;generalize r 34=cj;generalize r 35=ck;generalize r 36=cl;generalize r 37=cm;generalize r 38=cn;generalize r 39=co;go_wp2;go_ret2;first|exact .inl ⟨.inl (i' ac),rfl,i' O⟩|exact⟨.inl (i' ac),rfl,i' O⟩
end Go.Proofs.YtamafdcnbcoegaaGreat
