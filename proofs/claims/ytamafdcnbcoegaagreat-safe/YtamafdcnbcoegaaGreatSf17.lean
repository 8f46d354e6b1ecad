/-
  Part 17 of a proof: K23, K24, K25, K26, K27.
-/
import Derived.Test.YtamafdcnbcoegaaGreatSf16
set_option maxRecDepth 100000
set_option maxHeartbeats 40000000
namespace Go.Proofs.YtamafdcnbcoegaaGreat
open Go.RowKit
structure Alv (op ct n:Nat) (st:Mod.Stv) (e:Nat) (logs:Nat->List ByteArray):Prop where
 dead:st.dk.dead=false
 arm:st.dk.armed=n
 op:st.opening=op
 ct:st.count<=ct
 dk:Mod.SkDisk st.dk.bytes st.opening st.count st.head e logs
structure Ded (op:Nat) (st:Mod.Stv) (e:Nat) (logs:Nat->List ByteArray):Prop where
 dead:st.dk.dead=true
 op:st.opening=op
 dk:∃ct hd,Mod.SkDisk st.dk.bytes st.opening ct hd e logs
theorem pH' {op ct n:Nat} {st:Mod.Stv} {e:Nat} {logs:Nat->List ByteArray} (h:Alv op ct n st e logs) (f:ct+1 < 18446744073709551616):st.next=st.count+1:=by
 have:=h.ct;unfold Mod.Stv.next
 omega
theorem uY' {op ct n:Nat} {st:Mod.Stv} {e:Nat} {logs:Nat->List ByteArray} (h:Alv op ct n st e logs) (f:ct+1 < 18446744073709551616) (r:n≠1) {s:Nat} (hs:s < 3) {b:ByteArray} (u:b.size<=20) (z:Mod.cnt logs < 120):
  (st.putRecord (Mod.cnt logs) s ((logs s).length+1) b.data.toList).1=0/\Alv op (ct+1) (n - 1) (st.putRecord (Mod.cnt logs) s ((logs s).length+1) b.data.toList).2 e (Mod.logAdd logs s b):=by
 have D:=pH' h f;have hd:=h.dk.commit (b:=b) hs u z (by have:=h.ct;omega);have h1:=h.dead;have h2:=h.arm;have h3:=h.ct;unfold Mod.Stv.putRecord Mod.Dk.put;rw[if_neg (by rw[h1];simp),if_neg (by rw[h2];exact r),D];exact⟨rfl,rfl,by show st.dk.armed - 1=n - 1;rw[h2],h.op,by show st.count+1<=ct+1;omega,hd⟩
theorem uZ' {op ct:Nat} {st:Mod.Stv} {e:Nat} {logs:Nat->List ByteArray} (h:Alv op ct 1 st e logs) (k s q:Nat) (b:List UInt8):
  (st.putRecord k s q b).1=4/\Ded op (st.putRecord k s q b).2 e logs:=by
 have h1:=h.dead;have h2:=h.arm;unfold Mod.Stv.putRecord Mod.Dk.put;rw[if_neg (by rw[h1];simp),if_pos h2];exact⟨rfl,rfl,h.op,_,_,h.dk⟩
theorem va' {op ct n:Nat} {st:Mod.Stv} {e:Nat} {logs:Nat->List ByteArray} (h:Alv op ct n st e logs) (r:ct+1 < 18446744073709551616) (u:n≠1) {f:Nat} (z:f<=2147483647):
  (st.putNumbers f 0 0).1=0/\Alv op (ct+1) (n - 1) (st.putNumbers f 0 0).2 f logs:=by
 have D:=pH' h r;have hd:=h.dk.epoch z (by have:=h.ct;omega);have h1:=h.dead;have h2:=h.arm;have h3:=h.ct;unfold Mod.Stv.putNumbers Mod.Dk.put;rw[if_neg (by rw[h1];simp),if_neg (by rw[h2];exact u),D];exact⟨rfl,rfl,by show st.dk.armed - 1=n - 1;rw[h2],h.op,by show st.count+1<=ct+1;omega,hd⟩
theorem vb' {op ct:Nat} {st:Mod.Stv} {e:Nat} {logs:Nat->List ByteArray} (h:Alv op ct 1 st e logs) (a b c:Nat):
  (st.putNumbers a b c).1=4/\Ded op (st.putNumbers a b c).2 e logs:=by
 have h1:=h.dead;have h2:=h.arm;unfold Mod.Stv.putNumbers Mod.Dk.put;rw[if_neg (by rw[h1];simp),if_pos h2];exact⟨rfl,rfl,h.op,_,_,h.dk⟩
def br' (op:Nat) (w x:World) (p e:Nat) (logs:Nat->List ByteArray) (c:Sv):Prop:=∃sh st,bg' w x p e logs sh st c/\Ded op st e logs
def CmG (op ct n:Nat) (w x:World) (p:Nat) (a:Mod.Sk) (i:Nat) (b:ByteArray) (c:Sv) (out:List ByteArray):Prop:=
 ∃sh st,qA' a i ((a.logs i).length+1) b out sh/\(Alv op (ct+out.length) (n - out.length) st a.epoch (grown a i out).logs/\(n=0\/out.length < n))/\bg' w x p a.epoch (grown a i out).logs sh st c
theorem sP' (a:Mod.Sk) (s:Nat) (out:List ByteArray) (c:ByteArray):Mod.logAdd (grown a s out).logs s c=(grown a s (out++[c])).logs:=by
 have:=kC' a s out c;exact this
theorem kY' {op ct n:Nat} {w:World} {p:Nat} {a:Mod.Sk} {sh:Nat->List (Nat×Value)} {st:Mod.Stv} {c:Sv} {out:List ByteArray} {i:Nat} (hi:i < 3) (z:aL' w p a.epoch (grown a i out).logs sh st c) (hs:Alv op (ct+out.length) (n - out.length) st a.epoch (grown a i out).logs) (H:n=0\/out.length < n) (b:ByteArray) (r:b.size<=20) (D:a.count+out.length < 120) (I:ct+1000 < 18446744073709551616):
  Calls Tryz.prog 222 #[y' p, .int .i64 i, .string b] w fun f w'=>
   (f= .returned (.int .i64 0)/\(n=0\/out.length+1 < n)/\∃u,Alv op (ct+(out++[b]).length) (n - (out++[b]).length) u a.epoch (grown a i (out++[b])).logs/\bg' w w' p a.epoch (grown a i (out++[b])).logs sh u c)\/
   (f= .returned (.int .i64 4)/\n=out.length+1/\br' op w w' p a.epoch (grown a i out).logs c):=by
 have F:Mod.cnt (grown a i out).logs < 120:=by have:=iE' a i hi out;unfold Mod.cnt;omega
 refine(qx' z i hi b r (by rw[iE' a i hi];exact D)).mono ?_;rintro f w' ⟨rfl,h⟩;by_cases h1:n=out.length+1
 ·right;have G:Alv op (ct+out.length) 1 st a.epoch (grown a i out).logs:=by rw[show n - out.length=1 by omega]at hs;exact hs
  obtain⟨k1,k2⟩:=uZ' G (((grown a i out).logs 0).length+((grown a i out).logs 1).length+((grown a i out).logs 2).length) i (((grown a i out).logs i).length+1) b.data.toList;rw[k1,if_neg (by omega)]at h;exact⟨by rw[k1],h1,sh,_,h,k2⟩
 ·left;obtain⟨k1,k2⟩:=uY' hs (by omega) (by omega) hi r F;unfold Mod.cnt at k1 k2;rw[k1,if_pos rfl,kC']at h;rw[sP']at k2;refine⟨by rw[k1],by omega,_,?_,h⟩;rw[List.length_append,List.length_singleton,show ct+(out.length+1)=ct+out.length+1 by omega,show n - (out.length+1)=n - out.length - 1 by omega];exact k2
theorem mL' {op ct n:Nat} {w:World} {p:Nat} {a:Mod.Sk} {sh:Nat->List (Nat×Value)} {st:Mod.Stv} {c:Sv} {out:List ByteArray} {i:Nat} (hi:i < 3) (u:aL' w p a.epoch (grown a i out).logs sh st c) (hs:Alv op (ct+out.length) (n - out.length) st a.epoch (grown a i out).logs) (z:n=0\/out.length < n) (b:ByteArray) (D:b.size<=20) (F:a.count+out.length < 120) (G:ct+1000 < 18446744073709551616) (h1:n≠out.length+1):
  Calls Tryz.prog 222 #[y' p, .int .i64 i, .string b] w fun r w'=>
   r= .returned (.int .i64 0)/\∃f,(Alv op (ct+(out++[b]).length) (n - (out++[b]).length) f a.epoch (grown a i (out++[b])).logs/\(n=0\/(out++[b]).length < n))/\bg' w w' p a.epoch (grown a i (out++[b])).logs sh f c:=by
 refine(kY' hi u hs z b D F G).mono ?_;rintro r w' (⟨h2,h3,f,h4,h5⟩|⟨_,h3,_⟩)
 ·exact⟨h2,f,⟨h4,by rw[List.length_append,List.length_singleton];exact h3⟩,h5⟩
 ·exact absurd h3 h1
theorem kZ' {op ct n:Nat} {w:World} {p:Nat} {a:Mod.Sk} {sh:Nat->List (Nat×Value)} {st:Mod.Stv} {c:Sv} {out:List ByteArray} {i:Nat} (hi:i < 3) (r:aL' w p a.epoch (grown a i out).logs sh st c) (hs:Alv op (ct+out.length) (n - out.length) st a.epoch (grown a i out).logs) (u:n=0\/out.length < n) (b:ByteArray) (z:b.size<=20) (D:a.count+out.length < 120) (F:ct+1000 < 18446744073709551616) (h1:n=out.length+1):
  Calls Tryz.prog 222 #[y' p, .int .i64 i, .string b] w fun f w'=>
   f= .returned (.int .i64 4)/\br' op w w' p a.epoch (grown a i out).logs c:=by
 refine(kY' hi r hs u b z D F).mono ?_;rintro f w' (⟨_,h3,_⟩|⟨h2,_,h4⟩)
 ·omega
 ·exact⟨h2,h4⟩
theorem fJ' {a:Mod.Sk} {st q n:Nat}:∀ (f:Nat) (out:List ByteArray),∃r,a.commitFrom st q n f out=out++r
 |0,out=>⟨[],by simp[Mod.Sk.commitFrom]⟩
 |f+1,out=>by
  unfold Mod.Sk.commitFrom;split
  ·split
   ·exact⟨[],by simp⟩
   ·rename_i k _;obtain⟨m,h⟩:=fJ' (a:=a) (st:=st) (q:=q) (n:=n) f (out++[(a.held.getD k (0,0,⟨#[]⟩)).2.2]);exact⟨(a.held.getD k (0,0,⟨#[]⟩)).2.2::m,by rw[h,List.append_assoc];rfl⟩
  ·exact⟨[],by simp⟩
def rf' (op n:Nat) (w x:World) (p:Nat) (a:Mod.Sk) (i:Nat) (b:ByteArray) (c:Sv):Prop:=
 1<=n/\n<=(a.commitFrom i ((a.logs i).length+1) a.count 120 [b]).length/\br' op w x p a.epoch (grown a i ((a.commitFrom i ((a.logs i).length+1) a.count 120 [b]).take (n - 1))).logs c
theorem pI' {a:Mod.Sk} {s q:Nat} {b:ByteArray} {out:List ByteArray} {sh:Nat->List (Nat×Value)} (f:qA' a s q b out sh):∃r,a.commitFrom s q a.count 120 [b]=out++r:=by
 rw[<-f.run];exact fJ' _ _
theorem la' {op ct n:Nat} {w:World} {p:Nat} {a:Mod.Sk} {sh:Nat->List (Nat×Value)} {st:Mod.Stv} {c:Sv} (ac:aL' w p a.epoch a.logs sh st c) (bm:Alv op ct n st a.epoch a.logs) (aF:ct+1000 < 18446744073709551616) (bn:ay' a) (aR:bh' a) (bM:da' a.held sh) (i:Nat) (hi:i < 3) (b:ByteArray) (u:b.size<=20) (aS:a.count < 120):
  Calls Tryz.prog 205 #[y' p, .int .i64 i, .string b] w fun z w'=>
   (z= .returned (.int .i64 0)/\∃out,CmG op ct n w w' p a i b c out/\out=a.commitFrom i ((a.logs i).length+1) a.count 120 [b])\/
   (z= .returned (.int .i64 4)/\rf' op n w w' p a i b c):=by
 have aG:=qB' bn aR bM ac.ks.are i b hi u aS;have aT:n=0\/([]:List ByteArray).length < n:=by simp;omega
 have bo:=pI' aG;have bp:∀out x,n=out.length+1->(∃aH,a.commitFrom i ((a.logs i).length+1) a.count 120 [b]=out++aH/\aH≠ [])->br' op w x p a.epoch (grown a i out).logs c->rf' op n w x p a i b c:=by
  rintro out x co ⟨aH,aI,bN⟩ hd;have cp:0 < aH.length:=List.length_pos_iff.2 bN;refine⟨by omega,by rw[aI,List.length_append];omega,?_⟩;rw[aI,show n - 1=out.length by omega,List.take_left']
  ·exact hd
  ·rfl
 have aU:=fun out x h1 h2 h3=>t' (bp out x h1 h2 h3);clear bp;have cq:=lt_of_block ac.ks.blk;have cr:(a.logs i).length<=120:=ac.ks.loglen hi;have cs:(0:Int)<=(i:Int):=by omega
 have cu:(i:Int) < 3:=by omega
 have bO:=t' aG;have bP:∀y,(∃v:Int,(v=0/\∃out,CmG op ct n w y p a i b c out)\/(v=4/\rf' op n w y p a i b c))->Hid (∃v:Int,(v=0/\∃out,CmG op ct n w y p a i b c out)\/(v=4/\rf' op n w y p a i b c)):=fun y h=>h;have aJ:Calls Tryz.prog 222 #[y' p, .int .i64 i, .string b] w fun z y=>∃v:Int,z= .returned (.int .i64 v)/\((v=0/\∃out,CmG op ct n w y p a i b c out)\/(v=4/\rf' op n w y p a i b c)):=by
  by_cases h1:n=([]:List ByteArray).length+1
  ·refine(kZ' (out:=[]) hi (by rw[cP'];exact ac) (by rw[cP'];exact bm) aT b u (by simpa using aS) aF h1).mono ?_;rintro z y ⟨rfl,hd⟩;obtain⟨m,aI⟩:=bo;exact⟨4,rfl, .inr ⟨rfl,i' (aU [] y h1 ⟨_,by rw[aI];rfl,by simp⟩ hd)⟩⟩
  ·refine(mL' (out:=[]) hi (by rw[cP'];exact ac) (by rw[cP'];exact bm) aT b u (by simpa using aS) aF h1).mono ?_;rintro z y ⟨rfl,aV,h2,h3⟩;exact⟨0,rfl, .inl ⟨rfl,[b],sh,aV,aG,by simpa using h2,by simpa using h3⟩⟩
 have aJ:=t' aJ;clear ac aG bP bo aT;unfold y' at *;go_enter Tryz.func205,Tryz.ntmps205;go_upto_region 3 with (go_at_call 222;refine(i' aJ).mono ?_;rintro z y ⟨v0,rfl,bq⟩);have br:=t' bq;clear bq bO aJ;go_loopw[8,9,10] (fun v8 _ _ wr=>∃v:Int,v8= .int .i64 v/\((v=0/\∃out,CmG op ct n w wr p a i b c out)\/(v=4/\rf' op n w wr p a i b c))) (fun v8 _ _ wr=>if intOf v8=0 then 200 - oQ' (wr.cell? ⟨p,2+i * 3,none⟩)else 0)
 case atStart=>exact⟨v0,rfl,i' br⟩
 case round=>
  obtain⟨v,rfl,hrel⟩:=hrel;clear br;rcases hrel with ⟨rfl,hrel⟩|⟨rfl,bt⟩
  ·obtain⟨out,ad,ak,I,aW,aK⟩:=hrel;obtain⟨c1,F,aX,aY,Q,U⟩:=id aK;have aZ:=kD' a i out;obtain⟨bQ,cap,ba,ao⟩:=F.ks.logc hi;rw[aZ,List.length_append]at ba ao;have Y:=t' (jh' F.ks);rw[iE' a i hi]at Y;have ap:=t' I;have bb:=t' aK;have bu:=t' F;have ah:200 - oQ' (wr.cell? ⟨p,2+i * 3,none⟩)=200 - ((a.logs i).length+out.length):=by rw[ao];rfl
   by_cases ai:a.count+out.length < 120
   ·rw[decide_eq_true ai]at Y;obtain⟨q,J⟩:∃q,q=(a.logs i).length+out.length+1:=⟨_,rfl⟩;have cv:out.length<=120:=by omega
    have bw:=fun y (Z:Below wr.heap.size wr y)=>t' (dn' y p (2+i * 3) _ cap bQ ((Z.cell (p:=⟨p,2+i * 3,none⟩) (lt_of_block F.ks.blk)).trans ao) (by omega));rw[<-J]at bw;have bR:∃ (r:ByteArray) (G:Bool) (aa:Nat->List (Nat×Value)),(∀y,Below wr.heap.size wr y->Calls Tryz.prog 223 #[.pointer (some ⟨p,2+i * 3+1,none⟩), .int .i64 q] y fun z w'=>z= .returned (.tuple #[.agg #[.string r], .bool G])/\su' wr w' p a.epoch (grown a i out).logs aa ak c1/\Far (fun k=>k=p\/ShU (c1.nv i) (c1.mv i) k) y w')/\
      ((G=true/\an' (ad i) (q:Int)=some (dg' r)/\aa=fun t=>if t=i then gE' (ad i) q else ad t)\/(G=false/\an' (ad i) (q:Int)=none/\aa=ad)):=by
     rcases fZ' (F.ks.are i hi) (q:Int)with ⟨r,hl⟩|hl
     ·refine⟨r,true,_,?_, .inl ⟨rfl,hl,rfl⟩⟩;intro y Z;have aq:=F.far (A' (E:=fun _=>False) Z) (fun _ _ h=>h);refine(qz' (aq.shAt hi) q r hl).mono ?_;rintro z w' ⟨rfl,V⟩;obtain⟨bS,h1,h2,h3,h4,h5⟩:=sv' aq hi V (fun x bT=>F.ks.are i hi x ((fz' _ _).subset bT));exact⟨rfl,⟨bS,h1,h2,(A' (E:=PkU p c1) Z).trans h3 (fun _ _ h=>h),h4,h5⟩,V.far⟩
     ·refine⟨⟨#[]⟩,false,_,?_, .inr ⟨rfl,hl,rfl⟩⟩;intro y Z;have aq:=F.far (A' (E:=fun _=>False) Z) (fun _ _ h=>h);refine(qy' (aq.shAt hi) q hl).mono ?_;rintro z w' ⟨rfl,V⟩;exact⟨rfl,⟨c1,aq.far (A' (E:=fun _=>False) V) (fun _ _ h=>h),fun _ h=>h,(A' (E:=PkU p c1) Z).trans (A' V) (fun _ _ h=>h),rfl,rfl⟩,A' V⟩
    have bz:∀k,(k=p\/ShU (c1.nv i) (c1.mv i) k)->k < wr.heap.size:=fun k H=>F.ks.lt k (H.elim .inl (fun h=> .inr (.inr ⟨i,hi,h⟩)));have bA:∀k,PkU p c1 k->k < wr.heap.size:=F.lt;have bB:=(F.ks.shs i hi).sorted;have M:∀k,PkU p c1 k->PkU p c k\/w.heap.size<=k:=aY;have ab:=aX;obtain⟨r,G,aa,bC,bD⟩:=bR;have bc:=t' bC;have bd:=t' bD;have aL:=t' J;have bU:=t' bB;have bV:=t' ah;have au:=t' (And.intro M (And.intro ab (And.intro Q U)));clear aK F aX aY I ba ao aZ ah bC bD J bB M ab Q U;unfold y' at Y;go_upto_region 4 with (go_at_call 204;refine(i' Y).mono ?_;rintro z y ⟨rfl,rfl⟩);refine lP' (by kernel_rfl)
     [fun v _=>v= .pointer (some ⟨p,2+i * 3,none⟩),fun v _=>v= .pointer (some ⟨p,2+i * 3,none⟩),fun v _=>v= .pointer (some ⟨p,2+i * 3+1,none⟩),fun v _=>v= .pointer (some ⟨p,2+i * 3,none⟩),fun v _=>v= .int .i64 q,fun v f=>v= .tuple #[.agg #[.string r], .bool G]/\su' y f p a.epoch (grown a i out).logs aa ak c1,fun v _=>v= .tuple #[.agg #[.string r], .bool G],fun v _=>v= .agg #[.string r],fun v _=>v= .bool G,
     fun v f=>∃g x,v= .pointer (some ⟨g,0,none⟩)/\y.heap.size<=g/\f.heap[g]? =some (.cells #[.string x] 235 (0,0)),fun v f=>∃g,v= .pointer (some ⟨g,0,none⟩)/\y.heap.size<=g/\f.heap[g]? =some (.cells #[.string r] 235 (0,0)),fun v _=>v= .bool G]
     [[(7,none)],[(27,some 0)],[(28,some 1)],[(7,none)],[(30,some 3)],[(29,some 2),(31,some 4)],[(32,some 5)],[(26,some 6)],[(26,some 6)],[],[(9,some 9),(33,some 7)],[(34,some 8)]] [27,28,29,30,31,32,26,33,34,9,9,10] [false,false,false,false,false,false,false,false,false,true,true,false,false,false,false,false,false,false,false,false,false,false,false,false,false,false,true,true,true,true,true,true,true,true,true,false,false,false,false,false,false,false,false]
     [(5,fun k=>k=p\/ShU (c1.nv i) (c1.mv i) k),(10,fun k=>y.heap.size<=k)]
     10 np' nq'
     (by kernel_rfl) (by kernel_rfl) (by kernel_rfl) (by kernel_rfl) (by kernel_rfl) (by kernel_rfl) ?_ ?_ ?_ ?_
    ·repeat' (first|exact J' _|exact Z'|exact(fun _ D f h u=>⟨h.1,h.2.far bA (A' (E:=fun _=>False) u) (fun _ h=>h.elim)⟩)|exact(fun _ D f h u=>h.imp fun _ h=>h.imp fun _ h=>⟨h.1,h.2.1,(u.block _ (lt_of_block h.2.2)).trans h.2.2⟩)|exact(fun _ D f h u=>h.imp fun _ h=>⟨h.1,h.2.1,(u.block _ (lt_of_block h.2.2)).trans h.2.2⟩)|exact trivial|apply And.intro)
    ·refine⟨?_,?_,trivial⟩
     ·repeat' (first|exact trivial|exact .inl rfl|exact .inr (.inr (dF' (ak' _ _)))|exact .inr (.inr (dF' (fun _ D f h hF=>h.imp fun g h=>h.imp fun _ h=>⟨h.1,h.2.1,hF.blk h.2.2 (fun e=>by have:=bz g e;omega)⟩)))|exact .inr (.inr (dF' (fun _ D f h hF=>h.imp fun g h=>⟨h.1,h.2.1,hF.blk h.2.2 (fun e=>by have:=bz g e;omega)⟩)))|apply And.intro)
     ·repeat' (first|exact trivial|exact .inl rfl|exact .inr (.inr (dF' (ak' _ _)))|exact .inr (.inr (dF' (fun _ D f h hF=>⟨h.1,h.2.far bA hF (fun _ h=>h)⟩)))|exact .inr (.inr (fun _ D f h _ bW=>h.imp fun g h=>by obtain⟨x,h1,h2,h3⟩:=h;obtain⟨bX,h4⟩:=bW rfl g x h3;exact⟨bX,h1,h2,h4⟩))|apply And.intro)
    ·refine⟨?_,?_,?_,?_,?_,?_,?_,?_,?_,?_,?_,?_,trivial⟩;all_goals
      intro a' f u av;simp only[I',List.getD_cons_zero,List.getD_cons_succ,Array.getD_eq_getD_getElem?]at av;try simp at av
     iterate 4
      ·clear u;go_simp;exact⟨_,rfl,Far.refl _ _,rfl⟩
     ·have ax:Below y.heap.size y f:=u.below (Nat.le_refl _) (by
       rintro k H ⟨bY,ay,g1,g2,az⟩;simp at ay;rcases ay with rfl|rfl
       ·exact absurd (show ar' _ 5 4=false from g2) (by decide+kernel)
       ·have az:y.heap.size<=k:=az;omega)
      have be:=t' (i' (bw f ax));clear u ax;go_simp;refine(i' be).mono ?_;rintro z bZ ⟨rfl,rfl⟩;exact⟨_,rfl,Far.refl _ _,rfl⟩
     ·have ax:Below y.heap.size y f:=u.below (Nat.le_refl _) (by
       rintro k H ⟨bY,ay,g1,g2,az⟩;simp at ay;rcases ay with rfl|rfl
       ·exact g1 rfl
       ·have az:y.heap.size<=k:=az;omega)
      have be:=t' ((i' bc) f ax);clear u ax;go_simp;refine(i' be).mono ?_;rintro z bZ ⟨rfl,h1,h2⟩;exact⟨_,rfl,ac' (.head _) h2,⟨rfl,h1⟩⟩
     ·obtain⟨av,_⟩:=av;clear u;go_simp;exact⟨_,rfl,Far.refl _ _,rfl⟩
     iterate 2
      ·clear u;go_simp;exact⟨_,rfl,Far.refl _ _,rfl⟩
     ·have ca:=u.size;clear u;go_simp;exact⟨_,rfl,A' ((Below.refl _ _).alloc (Nat.le_refl _) _),⟨_,rfl,ca,⟨#[]⟩,heap_alloc_new _ _⟩⟩
     ·obtain⟨⟨g,bf,bg,cb,X⟩,cw⟩:=av;clear u;have cx:f.cell? ⟨g,0,none⟩=some (.string cb):=m' (i:=0) X;have cy:f.frozen? ⟨g,0,none⟩=false:=D' (i:=0) X;have cc:=t' (And.intro bg X);clear bg X;have cd:=bf;go_simp;obtain⟨g1,g2⟩:=i' cc;refine⟨ac' (.tail _ (.head _)) ((O' f g 0 (.string r)).mono (fun k _ e=>by rw[e];exact g1)),⟨undef,g,?_,g1,?_⟩,?_⟩
      ·show a'.tmps.getD 9 undef= _;rw[Array.getD_eq_getD_getElem?];exact cd
      ·have:=af' (j:=0) (v:= .string r) g2;simpa using this
      ·exact oP' f g r
     ·clear u;go_simp;exact⟨_,rfl,Far.refl _ _,rfl⟩
    ·intro O f hF aM;obtain⟨_,V⟩:=aM.2.2.2.2.2.1;obtain⟨g,bf,bg,X⟩:=aM.2.2.2.2.2.2.2.2.2.2.1;have ce:=aM.2.2.2.2.2.2.2.2.2.2.2.1;clear aM hF;simp only[R',bf,ce];generalize O 26=cz;generalize O 27=cA;generalize O 28=cB;generalize O 29=cC;generalize O 30=cD;generalize O 31=cE;generalize O 32=cF;generalize O 33=cG;generalize O 34=cH;obtain⟨M,ab,Q,U⟩:=i' au;obtain⟨c2,aj,aN,aO,aA,aB⟩:=V;have bh:bg' w f p a.epoch (grown a i out).logs aa ak c:=⟨c2,aj,ab.trans aO (fun k H hu=>(M k hu).elim id (fun h=>by omega)),fun k H=>M k (aN k H),aA.trans Q,aB.trans U⟩;have aP:=t' bh;have cI:f.cell? ⟨g,0,none⟩=some (.string r):=m' (i:=0) X;have bE:=t' aj;have aC:∀k,PkU p c2 k->PkU p c k\/w.heap.size<=k:=fun k H=>M k (aN k H);have aD:=ab.trans aO (fun k H hu=>(M k hu).elim id (fun h=>by omega));have bF:=t' (And.intro aC (And.intro aD (And.intro (aA.trans Q) (aB.trans U))));rcases i' bd with ⟨rfl,hl,aE⟩|⟨rfl,hl,aE⟩
     ·have J:=i' aL;have I:=i' ap;have bG:r.size<=20:=aR.bod _ ((I.on i hi q r).1 hl).1;rw[J]at hl aE;have aQ:=ss' bn aR hi I ai (i' bU) hl;rw[<-aE]at aQ;obtain⟨bi,bj⟩:=aW;obtain⟨cf,bH⟩:=pI' aQ;have bk:∀logs sh st D,bg' f D p a.epoch logs sh st c2->bg' w D p a.epoch logs sh st c:=by
       rintro logs sh st D ⟨c3,bl,cg,ch,s1,ci⟩;refine⟨c3,bl,aD.trans cg (fun k H hu=>(aC k hu).elim id (fun h=>by omega)),fun k H=>?_,s1.trans (aA.trans Q),ci.trans (aB.trans U)⟩;have cj:=aD.size;rcases ch k H with h|h
       ·exact aC k h
       ·exact .inr (Nat.le_trans cj h)
      have bI:Calls Tryz.prog 222 #[y' p, .int .i64 i, .string r] f fun z D=>∃v:Int,z= .returned (.int .i64 v)/\((v=0/\CmG op ct n w D p a i b c (out++[r]))\/(v=4/\rf' op n w D p a i b c)):=by
       by_cases h1:n=out.length+1
       ·refine(kZ' (out:=out) hi aj bi bj r bG ai aF h1).mono ?_;rintro z D ⟨rfl,bJ,bK,hd1,ck⟩;exact⟨4,rfl, .inr ⟨rfl,i' (aU out D h1 ⟨r::cf,by rw[bH];simp,by simp⟩ ⟨bJ,bK,bk _ _ _ _ hd1,ck⟩)⟩⟩
       ·refine(mL' (out:=out) hi aj bi bj r bG ai aF h1).mono ?_;rintro z D ⟨rfl,aV,h2,h3⟩;exact⟨0,rfl, .inl ⟨rfl,aa,aV,aQ,h2,bk _ _ _ _ h3⟩⟩
      have bL:=t' bI;unfold y' at bL;clear hl aE J I aQ bh aj aN aO aC aD M ab Q U aA aB X bc bd aL ap bb bu au aP bk bI bi bj bH bF bE;go_wp2_with (go_at_call 222;refine(i' bL).mono ?_;rintro z D ⟨v,rfl,G⟩;replace G:=t' G);have ah:=i' bV;go_roundw
      case rel=>
       rcases i' G with ⟨rfl,h⟩|⟨rfl,h⟩
       ·exact⟨0,rfl, .inl ⟨rfl,_,h⟩⟩
       ·exact⟨4,rfl, .inr ⟨rfl,h⟩⟩
      case measure=>
       rcases i' G with ⟨rfl,bJ,bK,_,_,c3,bl,_⟩|⟨rfl,h⟩
       ·obtain⟨cJ,cK,_,cl⟩:=bl.ks.logc hi;rw[ah,cl];show(if(0:Int)=0 then 200 - ((grown a i (out++[r])).logs i).length else 0) < (if(0:Int)=0 then _ else 0);rw[if_pos rfl,if_pos rfl,kD',List.length_append,List.length_append,List.length_singleton];have cm:=ix' (a:=a) hi;omega
       ·rw[ah];show(if(4:Int)=0 then _ else 0) < (if(0:Int)=0 then _ else 0);rw[if_neg (by omega),if_pos rfl];have cm:=ix' (a:=a) hi;omega
     ·have J:=i' aL;have I:=i' ap;rw[J]at hl;have cn:=t' (ms' hi I (.inr hl));subst aE;clear hl J I bh aj aN aO aC aD M ab Q U aA aB X bc bd aL bb bu au bF bE;go_wp2;go_ret;exact .inl ⟨rfl,out,⟨_,ak,i' ap,aW,i' aP⟩,i' cn⟩
   ·rw[decide_eq_false ai]at Y;have aP:=t' (ms' hi I (.inl ai));clear aK F aX aY I ba ao aZ ah;unfold y' at Y;go_wp2_with (go_at_call 204;refine(i' Y).mono ?_;rintro z y ⟨rfl,rfl⟩);go_ret;exact .inl ⟨rfl,out,⟨ad,ak,i' ap,aW,i' bb⟩,i' aP⟩
  ·have au:=t' bt;clear bt aU;go_wp2;go_ret;exact .inr ⟨rfl,i' au⟩
def bF' (op ct n:Nat) (w x:World) (p:Nat) (a:Mod.Sk) (c:Sv):Prop:=∃sh st,bg' w x p a.epoch a.logs sh st c/\Alv op ct n st a.epoch a.logs/\da' a.held sh
theorem bF'.behind {op ct n:Nat} {w x y:World} {p:Nat} {a:Mod.Sk} {c:Sv} (h:bF' op ct n x y p a c) (f:Below w.heap.size w x):bF' op ct n w y p a c:=by
 obtain⟨sh,st,⟨r,K,u,N,s1,z⟩,hs,D⟩:=h;exact⟨sh,st,⟨r,K,(A' (E:=PkU p c) f).trans u (fun _ _ h=>h),fun k F=>(N k F).imp id (fun h=>Nat.le_trans f.size h),s1,z⟩,hs,D⟩
theorem bF'.below {op ct n:Nat} {w x y:World} {p:Nat} {a:Mod.Sk} {c:Sv} (h:bF' op ct n w x p a c) (f:Below x.heap.size x y):bF' op ct n w y p a c:=by
 obtain⟨sh,st,h,hs,r⟩:=h;exact⟨sh,st,h.below f,hs,r⟩
theorem cS' {op ct n:Nat} {w:World} {p:Nat} {a:Mod.Sk} {sh:Nat->List (Nat×Value)} {st:Mod.Stv} {c:Sv} (f:aL' w p a.epoch a.logs sh st c) (hs:Alv op ct n st a.epoch a.logs) (r:da' a.held sh):bF' op ct n w w p a c:=⟨sh,st,oF' f,hs,r⟩
theorem br'.behind {op:Nat} {w x y:World} {p e:Nat} {logs:Nat->List ByteArray} {c:Sv} (h:br' op x y p e logs c) (f:Below w.heap.size w x):br' op w y p e logs c:=by
 obtain⟨sh,st,⟨r,K,u,N,s1,z⟩,hs⟩:=h;exact⟨sh,st,⟨r,K,(A' (E:=PkU p c) f).trans u (fun _ _ h=>h),fun k D=>(N k D).imp id (fun h=>Nat.le_trans f.size h),s1,z⟩,hs⟩
def lb' (op ct n:Nat) (w x:World) (p:Nat) (a a':Mod.Sk) (i:Nat) (f:List ByteArray) (k:Nat) (c:Sv) (v:Int):Prop:=
 (v=0/\(n=0\/k < n)/\bF' op (ct+k) (n - k) w x p a' c)\/(v=4/\1<=n/\n<=k/\br' op w x p a.epoch (grown a i (f.take (n - 1))).logs c)
theorem cT' {op ct n:Nat} {w x:World} {p:Nat} {a a':Mod.Sk} {i:Nat} {f:List ByteArray} {c:Sv} (h:bF' op ct n w x p a' c):lb' op ct n w x p a a' i f 0 c 0:= .inl ⟨rfl,by omega,h⟩
theorem lb'.behind {op ct n:Nat} {w x y:World} {p:Nat} {a a':Mod.Sk} {i:Nat} {f:List ByteArray} {k:Nat} {c:Sv} {v:Int} (h:lb' op ct n x y p a a' i f k c v) (r:Below w.heap.size w x):lb' op ct n w y p a a' i f k c v:=by
 rcases h with ⟨h1,h2,h3⟩|⟨h1,h2,h3,h4⟩
 ·exact .inl ⟨h1,h2,h3.behind r⟩
 ·exact .inr ⟨h1,h2,h3,h4.behind r⟩
theorem pJ' {op ct n:Nat} {w:World} {p:Nat} {a:Mod.Sk} {sh:Nat->List (Nat×Value)} {st:Mod.Stv} {c:Sv} (Y:aL' w p a.epoch a.logs sh st c) (hs:Alv op ct n st a.epoch a.logs) (bk:ct+1000 < 18446744073709551616) (aO:ay' a) (bl:bh' a) (ai:da' a.held sh) (e:Int) (i q:Nat) (hi:i < 3) (bO:q<=2147483647) (b:ByteArray) (O:b.size<=20):
  Calls Tryz.prog 163 #[y' p, .agg #[.int .i64 3, .int .i64 e, .int .i64 i, .int .i64 q, .string b]] w fun U w'=>∃v,U= .returned (.int .i64 v)/\lb' op ct n w w' p a (aq' a 3 a.epoch i q b) i (a.commits 3 a.epoch i q b) (a.commits 3 a.epoch i q b).length c v:=by
 have bm:=lt_of_block Y.ks.blk;obtain⟨bn,cap,bo,aP⟩:=Y.ks.logc hi;have bp:=Y.ks.loglen hi;obtain⟨au,aC⟩:∃au,au=(a.logs i).length+1:=⟨_,rfl⟩;obtain⟨d,hd⟩:∃d:Int,d=(q:Int) - (au:Int):=⟨_,rfl⟩;have bP:IntKind.i64.wrap ((q:Int) - (au:Int))=d:=by rw[IntKind.wrap_i64];omega
 have aD:=fun y (J:Below w.heap.size w y)=>t' (dn' y p (2+i * 3) _ cap bn ((J.cell (p:=⟨p,2+i * 3,none⟩) bm).trans aP) (by omega));rw[<-aC]at aD;have aE:=fun y (J:Below w.heap.size w y)=>t' (jh' (Y.ks.far (A' (E:=fun _=>False) J) (fun _ _ h=>h)));have aQ:=fun y (J:Below w.heap.size w y)=>t' (Y.far (A' (E:=fun _=>False) J) (fun _ _ h=>h));obtain⟨room,aF⟩:∃room,room=decide ((a.logs 0).length+(a.logs 1).length+(a.logs 2).length < 120):=⟨_,rfl⟩;rw[<-aF]at aE;have bQ:(0:Int)<=(i:Int):=by omega
 have bR:(i:Int) < 3:=by omega
 have Z:=t' (And.intro aC (And.intro hd (And.intro aF bp)));have bS:=t' Y;have aR:=t' (cA' w #[.int .i64 3, .int .i64 e, .int .i64 i, .int .i64 q, .string b]);clear Y bo aP aC hd aF;unfold y' at *;go_enter Tryz.func163,Tryz.ntmps163;go_upto_region 1 with fail;refine C' (aZ' w #[.int .i64 3, .int .i64 e, .int .i64 i, .int .i64 q, .string b]) (i' aR) ?_;clear aR;intro x r;have aj:=m' (i:=2) r.box;have I:=m' (i:=3) r.box;simp at aj I;have bq:=r.bel;have z:=t' r;clear r;go_quiet (fail);go_upto_region 2 with fail;refine C' (aZ' w #[.int .i64 3, .int .i64 e, .int .i64 i, .int .i64 q, .string b]) ((i' z).drewN _) ?_;clear z aj I bq;intro br r;have I:=m' (i:=3) r.box;simp at I;have aS:=fun n=>t' (i' (aD (br.drewN n) (r.drewN n).bel));have z:=t' r;clear r aD;go_quiet (first|(go_at_call 158;exact Calls.quiet_of_same (i' (aS _))));go_upto_region 3 with fail;refine C' (aZ' w #[.int .i64 3, .int .i64 e, .int .i64 i, .int .i64 q, .string b]) (by first|exact i' z|exact(i' z).drewN _|exact(i' z).drew|exact(i' z).drew.drew) ?_;clear z I aS;intro M r;have aj:=m' (i:=2) r.box;have I:=m' (i:=3) r.box;have av:=m' (i:=4) r.box;simp at aj I av;have ax:=t' (i' (aE M r.bel));have f:=i' (aQ M r.bel);have z:=t' r;clear r aE aQ;have ay:=t' ((cS' f hs ai).behind (i' z).bel);by_cases hd0:d=0
 ·have aT:q=(a.logs i).length+1:=by obtain⟨h1,h2,_⟩:=i' Z;omega
  have aU:=t' aT;clear aT;subst hd0;cases ac:room
  ·have aa:¬ (q=(a.logs i).length+1/\a.count < 120):=by have h:=(i' Z).2.2.1;rw[ac]at h;have h:=of_decide_eq_false h.symm;exact fun bt=>h bt.2
   have ad:=t' (ep' (b:=b) aa);have aV:aq' a 3 a.epoch i q b=a:=by rw[eN' aa,bB',if_neg (fun h=>by have:=i' aU;omega)]
   rw[ac]at ax;have ak:=t' aV;clear f aa aV ac;go_upto_region 5 with (go_at_call 204;refine(i' ax).mono ?_;rintro U y ⟨rfl,rfl⟩);go_quiet (fail);go_wp2;go_ret;exact⟨0,rfl,by rw[i' ak,i' ad];exact cT' ((i' ay).below (below_drewN (Below.refl _ _) _))⟩
  ·have aG:a.count < 120:=by have h:=(i' Z).2.2.1;rw[ac]at h;exact of_decide_eq_true h.symm
   have aW:=t' (la' f hs bk aO bl ai i hi b O aG);rw[ac]at ax;have aX:=t' aG;have az:Calls Tryz.prog 205 #[y' p, .int .i64 i, .string b] M fun U w'=>∃v:Int,U= .returned (.int .i64 v)/\lb' op ct n M w' p a (bT' a i (a.commitFrom i ((a.logs i).length+1) a.count 120 [b])) i (a.commitFrom i ((a.logs i).length+1) a.count 120 [b]) (a.commitFrom i ((a.logs i).length+1) a.count 120 [b]).length c v:=by
    refine(i' aW).mono ?_;rintro U y (⟨rfl,out,⟨bu,bw,bz,aY,bA⟩,bB⟩|⟨rfl,h1,h2,h3⟩)
    ·rw[<-bB];exact⟨0,rfl, .inl ⟨rfl,aY.2,bu,bw,bA,aY.1,uK' bz⟩⟩
    ·exact⟨4,rfl, .inr ⟨rfl,h1,h2,h3⟩⟩
   have az:=t' az;clear aW;unfold y' at az;clear f ac aG;go_wp2_with (first|(go_at_call 204;refine(i' ax).mono ?_;rintro U y ⟨rfl,rfl⟩)|(go_at_call 205;refine(i' az).mono ?_;rintro U y ⟨v,rfl,aH⟩;replace aH:=t' aH));go_ret;refine⟨v,rfl,?_⟩;rw[i' aU,hA' (i' aX),hy' (i' aX)];exact(i' aH).behind (i' z).bel
 ·have bT:(d==0)=false:=by simpa using hd0
  have aa:¬ (q=(a.logs i).length+1/\a.count < 120):=fun h=>by obtain⟨h1,h2,_⟩:=i' Z;omega
  have V:=eN' (b:=b) aa;have ad:=t' (ep' (b:=b) aa);clear aa;by_cases h1:1<=d
  ·by_cases h3:d<=3
   ·have ah:=t' (ks' f.ks.blk (f.ks.am i hi) (f.ks.shs i hi) (f.ks.are i hi) (q:Int));have aI:=(f.ks.shs i hi).sorted;have H:=rG' ai f.ks.are hi q;have aZ:=qI' aO ai f.ks.are hi aI;obtain⟨ab,aJ⟩:∃ab,ab=(an' (sh i) (q:Int)).isSome:=⟨_,rfl⟩;have ah:=fun y (J:Below M.heap.size M y)=>t' (ks' (f.far (A' (E:=fun _=>False) J) (fun _ _ h=>h)).ks.blk (f.ks.am i hi) ((f.far (A' (E:=fun _=>False) J) (fun _ _ h=>h)).ks.shs i hi) (f.ks.are i hi) (q:Int));rw[<-aJ]at ah H;have ao:=fun X (bC:Below M.heap.size M X)=>t' (tE' ((f.far (A' (E:=fun _=>False) bC) (fun _ _ h=>h)).shAt hi) aZ q b);have aA:=(i' z).lt;have bD:=t' f;have aK:=t' (And.intro aI (And.intro H aJ));have ba:=t' V;clear f aJ H aI aZ V;go_upto_region 5 with fail;refine cp' (by kernel_rfl)
     [fun v _=>v= .int .i64 d,fun v _=>v= .bool true,fun v _=>v= .bool true,fun v _=>v= .int .i64 d,fun v _=>v= .bool true,fun v _=>v= .bool true,fun v _=>v= .bool true,
      fun v _=>v= .pointer (some ⟨p,2+i * 3,none⟩),fun v _=>v= .pointer (some ⟨p,2+i * 3,none⟩),fun v _=>v= .pointer (some ⟨p,2+i * 3+1,none⟩),fun v _=>v= .pointer (some ⟨w.heap.size,3,none⟩),fun v _=>v= .int .i64 q,fun v _=>v= .bool ab,fun v _=>v= .bool (!ab),fun v _=>v= .bool (!ab),fun v _=>v= .bool (!ab)]
     [[(6,none)],[(32,some 0)],[(33,some 1)],[(6,none),(34,some 2)],[(35,some 3),(34,some 2)],[(34,some 2),(36,some 4)],[(37,some 5)],[(5,none),(38,some 6)],[(39,some 7),(38,some 6)],[(40,some 8),(38,some 6)],[(3,none),(38,some 6)],[(42,some 10),(38,some 6)],[(41,some 9),(43,some 11),(38,some 6)],[(44,some 12),(38,some 6)],[(38,some 6),(45,some 13)],[(46,some 14)]] [some 32,some 33,some 34,some 35,some 36,some 37,some 38,some 39,some 40,some 41,some 42,some 43,some 44,some 45,some 46,some 31] [false,false,false,false,false,false,false,false,false,false,false,false,false,false,false,false,false,false,false,false,false,false,false,false,false,false,false,false,false,false,false,true,true,true,true,true,true,true,true,true,true,true,true,true,true,true,true,false,false,false,false,false,false,false,false,false]
     (by kernel_rfl) (by kernel_rfl) (by kernel_rfl) (by kernel_rfl) ?_ ?_ ?_
    ·repeat' (first|exact J' _|exact trivial|apply And.intro)
    ·refine⟨?_,?_,?_,?_,?_,?_,?_,?_,?_,?_,?_,?_,?_,?_,?_,?_,trivial⟩;all_goals
      intro a' X D F;have z3:=(D.cell (p:=⟨w.heap.size,3,none⟩) aA).trans I;have bb:=t' (i' (ah X D));clear D ah ao;simp only[I',List.getD_cons_zero,List.getD_cons_succ,Array.getD_eq_getD_getElem?]at F;try simp at F
      try (have bE:a'.tmps[34]? =some (.bool true):=ey' (by first|exact F|exact F.1|exact F.2|exact F.2.2))
      try (have bF:a'.tmps[38]? =some (.bool true):=ey' (by first|exact F|exact F.1|exact F.2|exact F.2.2))
      try go_simp
      try simp only[bE,if_true]
      try simp only[bF,if_true]
      try go_simp
      try exact Below.refl _ _
     all_goals first
      |exact⟨rfl,Below.refl _ _⟩
      |exact⟨_,rfl,Below.refl _ _,rfl⟩
      |(refine(i' bb).mono ?_;rintro e bG ⟨rfl,O⟩;exact⟨rfl,O⟩)
      |(refine(i' bb).mono ?_;rintro e bG ⟨rfl,O⟩;exact⟨_,rfl,O,rfl⟩)
      |skip
    ·intro u X D Q;simp only[ae']at Q;have bH:=Q.2.2.2.2.2.2.2.2.2.2.2.2.2.2.2.1;clear Q;simp only[R',bH];generalize u 32=bU;generalize u 33=bV;generalize u 34=bW;generalize u 35=bX;generalize u 36=bY;generalize u 37=bZ;generalize u 38=ca;generalize u 39=cb;generalize u 40=cc;generalize u 41=cd;generalize u 42=ce;generalize u 43=cf;generalize u 44=cg;generalize u 45=ch;generalize u 46=ci;have z3:=(D.cell (p:=⟨w.heap.size,3,none⟩) aA).trans I;have z4:=(D.cell (p:=⟨w.heap.size,4,none⟩) aA).trans av;have ap:=t' D;have bc:=i' (ao X D);cases ab
     ·have G:bB' a i q b={a with held:=a.held++[(i,q,b)]}:=by obtain⟨bd,be,_⟩:=i' Z;have H:=(i' aK).2.1;rw[bB',if_pos ⟨by omega,by omega,by cases h:a.ix i q with|none=>rfl|some v=>rw[h]at H;cases H⟩]
      have aB:a.ix i q=none:=by have H:=(i' aK).2.1;cases h:a.ix i q with|none=>rfl|some v=>rw[h]at H;cases H
      have aL:=t' (And.intro G aB);have bf:=fun y (J:Below X.heap.size X y)=>t' (i' (ao y (D.trans (J.mono D.size))));simp only[dg']at bf;have bg:w.heap.size < X.heap.size:=Nat.lt_of_lt_of_le aA D.size;clear D bc G aB ah ao aj I av;go_upto_region 6 with fail;refine aj' (by kernel_rfl)
       [fun v _=>v= .pointer (some ⟨p,2+i * 3,none⟩),fun v _=>v= .pointer (some ⟨p,2+i * 3,none⟩),fun v _=>v= .pointer (some ⟨p,2+i * 3+1,none⟩),fun v _=>v= .pointer (some ⟨w.heap.size,3,none⟩),fun v _=>v= .int .i64 q,fun v _=>v= .pointer (some ⟨w.heap.size,4,none⟩),fun v _=>v= .string b,fun v _=>v= .agg #[.string b],fun _ _=>True]
       [[(5,none)],[(47,some 0)],[(48,some 1)],[(3,none)],[(50,some 3)],[(3,none)],[(52,some 5)],[(53,some 6)],[(49,some 2),(51,some 4),(54,some 7)]] [some 47,some 48,some 49,some 50,some 51,some 52,some 53,some 54,some 55] [false,false,false,false,false,false,false,false,false,false,false,false,false,false,false,false,false,false,false,false,false,false,false,false,false,false,false,false,false,false,false,false,false,false,false,false,false,false,false,false,false,false,false,false,false,false,false,true,true,true,true,true,true,true,true,true]
       8 _ rfl rfl (by kernel_rfl) (by kernel_rfl) (by kernel_rfl) (by kernel_rfl) (by kernel_rfl) (by kernel_rfl) ?_ ?_ ?_
      ·repeat' (first|exact J' _|exact Z'|exact trivial|apply And.intro)
      ·refine⟨?_,?_,?_,?_,?_,?_,?_,?_,trivial⟩;all_goals
        intro a' y O F;have I:=(O.cell (p:=⟨w.heap.size,3,none⟩) bg).trans z3;have av:=(O.cell (p:=⟨w.heap.size,4,none⟩) bg).trans z4;clear O;simp only[I',List.getD_cons_zero,List.getD_cons_succ,Array.getD_eq_getD_getElem?]at F;try simp at F
        go_simp;try exact⟨_,rfl,Below.refl _ _,rfl⟩
        try exact Below.refl _ _
      ·intro aq y aM Q;simp only[ae',List.take]at Q;have g2:=Q.2.2.1;have bI:=Q.2.2.2.2.1;have bJ:=Q.2.2.2.2.2.2.2.1;clear Q;have bK:=t' (i' (bf y aM));have bh:=t' aM;clear aM;simp only[R',g2,bI,bJ];generalize aq 47=cj;generalize aq 48=ck;generalize aq 50=cl;generalize aq 52=cm;generalize aq 53=cn;go_simp;refine(i' bK).mono ?_;rintro U co ⟨rfl,bi⟩;have bL:=t' bi;clear bi;go_wp2;go_ret;refine⟨0,rfl,?_⟩;obtain⟨G,aB⟩:=i' aL;rw[i' ba,G,i' ad];have bM:Below w.heap.size w y:=(i' z).bel.trans (((i' ap).trans ((i' bh).mono (i' ap).size)).mono (i' z).bel.size);have bN:Below M.heap.size M y:=(i' ap).trans ((i' bh).mono (i' ap).size);have bj:=(i' bD).far (A' (E:=fun _=>False) bN) (fun _ _ h=>h);refine cT' (bF'.behind ⟨_,st,mt' bj hi (i' bL) ?_,hs,sA' ai i q b hi aB⟩ bM);intro x aN;rcases gY' aN with rfl|aN
       ·exact⟨b,rfl⟩
       ·exact bj.ks.are i hi x aN
     ·have G:bB' a i q b=a:=by have H:=(i' aK).2.1;rw[bB',if_neg (fun h=>by rw[h.2.2]at H;cases H)]
      have aL:=t' G;clear D bc G ah ao;go_wp2;go_ret;exact⟨0,rfl,by rw[i' ba,i' aL,i' ad];exact cT' ((i' ay).below (i' ap))⟩
   ·have G:bB' a i q b=a:=by obtain⟨bd,be,_⟩:=i' Z;rw[bB',if_neg (fun h=>by omega)]
    rw[G]at V;have ak:=t' V;clear f G V;go_upto_region 5 with fail;go_quiet (fail);go_wp2;go_ret;exact⟨0,rfl,by rw[i' ak,i' ad];exact cT' ((i' ay).below (below_drewN (Below.refl _ _) _))⟩
  ·have G:bB' a i q b=a:=by obtain⟨bd,be,_⟩:=i' Z;rw[bB',if_neg (fun h=>by omega)]
   rw[G]at V;have ak:=t' V;clear f G V;go_upto_region 5 with fail;go_quiet (fail);go_wp2;go_ret;exact⟨0,rfl,by rw[i' ak,i' ad];exact cT' ((i' ay).below (below_drewN (Below.refl _ _) _))⟩
def hiW (a:Mod.Sk) (e:Nat):Nat:=if a.epoch < e then 1 else 0
theorem mM' {op ct n:Nat} {w:World} {p:Nat} {a:Mod.Sk} {sh:Nat->List (Nat×Value)} {st:Mod.Stv} {c:Sv} (u:aL' w p a.epoch a.logs sh st c) (hs:Alv op ct n st a.epoch a.logs) (bh:ct+1000 < 18446744073709551616) (aL:da' a.held sh) (e:Nat) (bi:a.epoch<=e) (au:e<=2147483647):
  Calls Tryz.prog 160 #[y' p, .int .i64 e] w fun X w'=>∃v,X= .returned (.int .i64 v)/\lb' op ct n w w' p a (aX' a e) 0 [] (hiW a e) c v:=by
 have c1:w.cell? ⟨p,1,none⟩=some (.int .i64 a.epoch):=by rw[m' u.ks.blk,u.ks.a1]
 by_cases aM:e=a.epoch
 ·subst aM;have aN:=t' (cS' u hs aL);rw[nr',show hiW a a.epoch=0 by unfold hiW;rw[if_neg (by omega)]];have z:((a.epoch:Int) == (a.epoch:Int))=true:=by simp
  clear u;unfold y';go_enter Tryz.func160,Tryz.ntmps160;go_wp2;go_ret;exact⟨0,rfl,cT' (i' aN)⟩
 rw[show hiW a e=1 by unfold hiW;rw[if_pos (by omega)]];obtain⟨J,Y⟩:∃J,J=(st.putNumbers e 0 0).1:=⟨_,rfl⟩;have av:aX' a e={a with epoch:=e,held:=[]}:=by unfold aX' dr';rw[if_pos (by omega)]
 rw[av];have ax:=fun y (aO:cC' y c.s c.dp st c.dlv c.duv)=>t' (cg' y c.s c.dp st c.dlv c.duv aO e 0 0 (by omega) (by omega) (by omega));obtain⟨r,H⟩:∃r,r=(st.putNumbers e 0 0).2:=⟨_,rfl⟩;rw[<-Y,<-H]at ax;have ay:(n≠1/\J=0/\Alv op (ct+1) (n - 1) r e a.logs)\/(n=1/\J=4/\Ded op r a.epoch a.logs):=by
  by_cases h1:n=1
  ·subst h1;have:=vb' hs e 0 0;rw[<-Y,<-H]at this;exact .inr ⟨rfl,this⟩
  ·have:=va' hs (by omega) h1 au;rw[<-Y,<-H]at this;exact .inl ⟨h1,this⟩
 have aP:r.dk.bytes.length=7808:=by
  rw[H];unfold Mod.Stv.putNumbers Mod.Dk.put;simp only
  split
  ·exact u.len
  ·split
   ·exact u.len
   ·simp only
    have:=u.stt.hd;rw[Mod.length_setSec (Mod.length_sealB _ _ (by rw[Mod.length_headIn];omega)) (by rw[u.len];omega)];exact u.len
 have aQ:((e:Int) == (a.epoch:Int))=false:=by simp;omega
 have bj:=lt_of_block u.ks.blk;have G:=t' u;have aR:=fun y=>t' (gl' e y);have ac:=t' ay;obtain⟨ep,ad⟩:∃ep,ep=a.epoch:=⟨_,rfl⟩;have az:=t' ad;rw[<-ad]at c1 aQ G;clear u H Y ay av ad;unfold y' at *;go_enter Tryz.func160,Tryz.ntmps160;go_upto_region 3 with fail;refine Q' (by kernel_rfl)
  [fun v _=>v= .pointer (some ⟨p,0,none⟩),fun v _=>v= .pointer (some ⟨p,0,none⟩),fun v _=>v= .pointer (some ⟨p,0,none⟩),fun v _=>v= .pointer (some ⟨c.s,0,none⟩),fun v _=>v= .int .i64 e,fun v _=>v= .agg #[.int .i64 e, .int .i64 0, .int .i64 0],
   fun v y=>v= .int .i64 J/\∃M,cC' y c.s c.dp r c.dlv M/\Loc w c.duv M,fun v _=>v= .int .i64 J]
  [[(0,none)],[(13,some 0)],[(14,some 1)],[(15,some 2)],[(1,none)],[(17,some 4)],[(16,some 3),(18,some 5)],[(19,some 6)]] [some 13,some 14,some 15,some 16,some 17,some 18,some 19,some 5] [false,false,false,false,false,true,false,false,false,false,false,false,false,true,true,true,true,true,true,true,false,false,false,false,false,false,false,false,false,false,false,false,false,false,false,false,false,false]
  [(6,StU c.s c.dp c.dlv c.duv)]
  (by kernel_rfl) (by kernel_rfl) (by kernel_rfl) (by kernel_rfl) (by kernel_rfl) ?_ ?_ ?_ ?_
 ·repeat' (first|exact J' _|exact(fun _ _ _ h z=>⟨h.1,h.2.imp fun _ h=>⟨h.1.far (A' (E:=fun _=>False) z) (fun _ _ h=>h),h.2⟩⟩)|exact trivial|apply And.intro)
 ·repeat' (first|exact trivial|exact .inl rfl|exact .inr (.inr (ak' _ _))|apply And.intro)
 ·refine⟨?_,?_,?_,?_,?_,?_,?_,?_,trivial⟩;all_goals
   intro a' D z Z;simp only[I',List.getD_cons_zero,List.getD_cons_succ,Array.getD_eq_getD_getElem?]at Z;try simp at Z
  iterate 3
   ·clear z;go_simp;exact⟨_,rfl,Far.refl _ _,rfl⟩
  ·have z0:D.cell? ⟨p,0,none⟩=some (.pointer (some ⟨c.s,0,none⟩)):=by have:=z.blk (i' G).ks.blk (aa' (by intro q F;simp at F;subst F;exact fun h=>(i' G).sep p (.inl rfl) h));rw[m' this,(i' G).ks.a0];rfl
   clear z;go_simp;exact⟨_,rfl,Far.refl _ _,rfl⟩
  ·clear z;go_simp;exact⟨_,rfl,Far.refl _ _,rfl⟩
  ·have ah:=t' (i' (aR D));clear z;go_simp;refine(i' ah).mono ?_;rintro X aS ⟨rfl,aT⟩;exact⟨_,rfl,A' aT,rfl⟩
  ·have ai:Below w.heap.size w D:=z.below (Nat.le_refl _) (by rintro j _ ⟨q,F,g1,g2,bk⟩;simp at F;subst F;exact g1 rfl);have ah:=t' (i' (ax D ((i' G).stt.far (A' (E:=fun _=>False) ai) (fun _ _ h=>h))));have aU:=ai.size;clear z ai;go_simp;refine(i' ah).mono ?_;rintro X aS ⟨rfl,M,k1,k2,k3⟩;exact⟨_,rfl,ac' (.head _) k3,rfl,M,k1,bw' k2 aU⟩
  ·clear z;obtain⟨Z,_⟩:=Z;go_simp;exact⟨_,rfl,Far.refl _ _,rfl⟩
 ·intro I D hF aj;obtain⟨_,M,k1,k2⟩:=aj.2.2.2.2.2.2.1;have aV:=aj.2.2.2.2.2.2.2.1;have hF:Far (StU c.s c.dp c.dlv c.duv) w D:=hF.mono (fun k _ h=>by obtain⟨q,F,h⟩:=h;simp at F;subst F;exact h);have O:aL' D p ep a.logs sh r {c with duv:=M}:=⟨(i' G).ks.far hF (fun k f h=>(i' G).sep k f h),k1,(i' G).rl.far hF (fun g ak h=>((i' G).sepr g ak).2 h),aP⟩;have aA:bg' w D p ep a.logs sh r c:=by
   refine⟨_,O,hF.mono (fun k _ h=> .inr (.inl h)),?_,rfl,rfl⟩;have bl:=hF.size;rintro k (f|(rfl|rfl|f|f)|f)
   ·exact .inl (.inl f)
   ·exact .inl (.inr (.inl (.inl rfl)))
   ·exact .inl (.inr (.inl (.inr (.inl rfl))))
   ·exact .inl (.inr (.inl (.inr (.inr (.inl f)))))
   ·rcases k2 with h|h|⟨g,h,ak⟩
    ·rw[h]at f;cases f
    ·exact .inl (.inr (.inl (.inr (.inr (.inr (by rw[<-h];exact f))))))
    ·rw[h]at f;cases f;exact .inr ak
   ·exact .inl (.inr (.inr f))
  have ao:=t' aA;have aB:D.frozen? ⟨p,1,none⟩=false:=D' (i:=1) O.ks.blk;have aC:D.cell? ⟨p,1,none⟩=some (.int .i64 ep):=by rw[m' O.ks.blk];exact O.ks.a1
  clear aj hF k1 k2 O aA;simp only[R',aV];generalize I 13=bm;generalize I 14=bn;generalize I 15=bo;generalize I 16=bp;generalize I 17=bq;generalize I 18=br;generalize I 19=bt;rcases i' ac with ⟨Q,rfl,aD⟩|⟨Q,rfl,aE⟩;rotate_left
  ·have ap:=t' (And.intro Q aE);clear Q aE ac aB aC;go_wp2;go_ret;refine⟨4,rfl, .inr ⟨rfl,by rw[(i' ap).1];omega,by rw[(i' ap).1];omega,?_⟩⟩;rw[List.take_nil,cP',<-i' az];exact⟨sh,r,i' ao,by rw[i' az];exact(i' ap).2⟩
  have aF:=t' (And.intro Q aD);have aG:=t' ((i' ao).trans (fun bu aW=>sC' aW e au));clear Q aD ac ao;go_upto_region 7 with fail;refine C' (fun y=>bg' w y p e a.logs sh r c) (i' aG) ?_;clear aG aB aC;intro y aH;have aI:=t' aH;clear aH;go_wp2;go_loopw[6,27] (fun _ i wr=>∃j:Nat,j<=3/\i= .int .i64 j/\bg' w wr p e a.logs (fun t=>if t < j then []else sh t) r c) (fun _ i _=>3 - (intOf i).toNat)
  case atStart=>exact⟨0,by omega,rfl,by simpa using i' aI⟩
  case round=>
   obtain⟨j,hj,rfl,f⟩:=hrel;clear aI;by_cases aJ:j < 3
   ·obtain⟨bw,aq,U,V,aa,ab⟩:=id f;have aX:=t' (qw' (aq.shAt aJ));have bz:(0:Int)<=(j:Int):=by omega
    have bA:(j:Int) < 3:=by omega
    have bB:=t' f;have aY:=t' aq;have aZ:=t' (And.intro U (And.intro V (And.intro aa ab)));clear f aq U V aa ab;go_wp2_with (go_at_call 203;refine(i' aX).mono ?_;rintro X y ⟨rfl,H⟩);have F:=mt' (i' aY) aJ H (by intro x ba;cases ba);obtain⟨U,V,aa,ab⟩:=i' aZ;have h2:bg' w y p e a.logs (fun t=>if t < j+1 then []else sh t) r c:=by
     obtain⟨c2,aK,bb,bc,bd,be⟩:=F;have bf:=U.size;have bg:(fun t=>if t=j then([]:List (Nat×Value))else(fun t=>if t < j then []else sh t) t)=fun t=>if t < j+1 then []else sh t:=by
      funext t;by_cases h1:t=j
      ·simp[h1]
      ·by_cases h2:t < j
       ·simp[h1,h2,show t < j+1 by omega]
       ·simp[h1,h2,show ¬t < j+1 by omega]
     rw[bg]at aK;refine⟨c2,aK,U.trans bb (fun k f hu=>(V k hu).elim id (fun h=>by omega)),fun k f=>?_,bd.trans aa,be.trans ab⟩;rcases bc k f with h|h
     ·exact V k h
     ·exact .inr (Nat.le_trans bf h)
    exact⟨⟨j+1,by omega,by go_num,h2⟩,by simp[intOf];omega⟩
   ·obtain rfl:j=3:=by omega
    go_wp2;go_ret;exact⟨0,rfl, .inl ⟨rfl,by have:=(i' aF).1;omega,_,r,f,(i' aF).2,nt'⟩⟩
section
variable {op ct n:Nat} {w:World} {p:Nat} {a:Mod.Sk} {sh:Nat->List (Nat×Value)} {st:Mod.Stv} {c:Sv}
theorem vc' (r:aL' w p a.epoch a.logs sh st c) (hs:Alv op ct n st a.epoch a.logs) (u:ct+1000 < 18446744073709551616) (z:ay' a) (D:bh' a) (F:da' a.held sh) (e:Int) (i q:Nat) (hi:i < 3) (G:q<=2147483647) (b:ByteArray) (H:b.size<=20) (I:n=0\/(a.commits 3 a.epoch i q b).length < n):
  Calls Tryz.prog 163 #[y' p, .agg #[.int .i64 3, .int .i64 e, .int .i64 i, .int .i64 q, .string b]] w fun f w'=>f= .returned (.int .i64 0)/\bF' op (ct+(a.commits 3 a.epoch i q b).length) (n - (a.commits 3 a.epoch i q b).length) w w' p (aq' a 3 a.epoch i q b) c:=by
 refine(pJ' r hs u z D F e i q hi G b H).mono ?_;rintro f w' ⟨v,rfl,⟨rfl,_,h⟩|⟨_,h1,h2,_⟩⟩
 ·exact⟨rfl,h⟩
 ·omega
theorem uf' (r:aL' w p a.epoch a.logs sh st c) (hs:Alv op ct n st a.epoch a.logs) (u:ct+1000 < 18446744073709551616) (z:ay' a) (D:bh' a) (F:da' a.held sh) (e:Int) (i q:Nat) (hi:i < 3) (G:q<=2147483647) (b:ByteArray) (H:b.size<=20) (I:1<=n/\n<=(a.commits 3 a.epoch i q b).length):
  Calls Tryz.prog 163 #[y' p, .agg #[.int .i64 3, .int .i64 e, .int .i64 i, .int .i64 q, .string b]] w fun f w'=>f= .returned (.int .i64 4)/\br' op w w' p a.epoch (grown a i ((a.commits 3 a.epoch i q b).take (n - 1))).logs c:=by
 refine(pJ' r hs u z D F e i q hi G b H).mono ?_;rintro f w' ⟨v,rfl,⟨rfl,h,_⟩|⟨rfl,_,_,h⟩⟩
 ·omega
 ·exact⟨rfl,h⟩
theorem ug' (r:aL' w p a.epoch a.logs sh st c) (hs:Alv op ct n st a.epoch a.logs) (u:ct+1000 < 18446744073709551616) (z:da' a.held sh) (e:Nat) (D:a.epoch<=e) (F:e<=2147483647) (G:n=0\/hiW a e < n):
  Calls Tryz.prog 160 #[y' p, .int .i64 e] w fun f w'=>f= .returned (.int .i64 0)/\bF' op (ct+hiW a e) (n - hiW a e) w w' p (aX' a e) c:=by
 refine(mM' r hs u z e D F).mono ?_;rintro f w' ⟨v,rfl,⟨rfl,_,h⟩|⟨_,h1,h2,_⟩⟩
 ·exact⟨rfl,h⟩
 ·omega
theorem sQ' (r:aL' w p a.epoch a.logs sh st c) (hs:Alv op ct n st a.epoch a.logs) (u:ct+1000 < 18446744073709551616) (z:da' a.held sh) (e:Nat) (D:a.epoch<=e) (F:e<=2147483647) (G:1<=n/\n<=hiW a e):
  Calls Tryz.prog 160 #[y' p, .int .i64 e] w fun f w'=>f= .returned (.int .i64 4)/\br' op w w' p a.epoch a.logs c:=by
 refine(mM' r hs u z e D F).mono ?_;rintro f w' ⟨v,rfl,⟨rfl,h,_⟩|⟨rfl,_,_,h⟩⟩
 ·omega
 ·rw[List.take_nil,cP']at h;exact⟨rfl,h⟩
end
theorem mf' {op ct n:Nat} {w:World} {p:Nat} {a:Mod.Sk} {sh:Nat->List (Nat×Value)} {st:Mod.Stv} {c:Sv} (U:aL' w p a.epoch a.logs sh st c) (hs:Alv op ct n st a.epoch a.logs) (aE:ct+1000 < 18446744073709551616) (bh:ay' a) (bi:bh' a) (bj:da' a.held sh) (i q:Nat) (hi:i < 3) (D:q<=2147483647) (b:ByteArray) (F:b.size<=20) (aF:n=0\/(a.commits 3 a.epoch i q b).length < n):
  Calls Tryz.prog 110 #[y' p, .agg #[.int .i64 3, .int .i64 a.epoch, .int .i64 i, .int .i64 q, .string b]] w fun ai f=>
   ai= .returned (.tuple #[.agg #[.int .i64 4, .int .i64 a.epoch, .int .i64 i, .int .i64 ((aq' a 3 a.epoch i q b).logs i).length, .string (ackBody (aq' a 3 a.epoch i q b) i ((aq' a 3 a.epoch i q b).logs i).length)], .int .i64 0])/\bF' op (ct+(a.commits 3 a.epoch i q b).length) (n - (a.commits 3 a.epoch i q b).length) w f p (aq' a 3 a.epoch i q b) c:=by
 obtain⟨aG,aH⟩:∃aG,aG=n - (a.commits 3 a.epoch i q b).length:=⟨_,rfl⟩;obtain⟨aI,aJ⟩:∃aI,aI=ct+(a.commits 3 a.epoch i q b).length:=⟨_,rfl⟩;have c1:w.cell? ⟨p,1,none⟩=some (.int .i64 a.epoch):=by rw[m' U.ks.blk,U.ks.a1]
 have bk:=lt_of_block U.ks.blk;have ab:=fun y (bl:Below w.heap.size w y)=>t' (vc' (U.far (A' (E:=fun _=>False) bl) (fun _ _ h=>h)) hs aE bh bi bj a.epoch i q hi D b F aF);rw[<-aH,<-aJ]at ab ⊢;clear aH aJ aF;have aj:(aq' a 3 a.epoch i q b).epoch=a.epoch:=by
  unfold aq';split
  ·exact dl' _ _ _ _
  ·rfl
 obtain⟨H,aK⟩:∃H,H=aq' a 3 a.epoch i q b:=⟨_,rfl⟩;rw[<-aK]at ab aj ⊢;obtain⟨ep,aL⟩:∃ep,ep=a.epoch:=⟨_,rfl⟩;rw[<-aL]at c1 ab aj ⊢;have bL:((ep:Int) != (ep:Int))=false:=by simp
 have bm:=t' U.lt;have aM:=t' (ez' w #[.int .i64 3, .int .i64 ep, .int .i64 i, .int .i64 q, .string b] zFr);have bM:(0:Int)<=(i:Int):=by omega
 have bN:(i:Int) < 3:=by omega
 have bn:=t' aj;clear hs aE;clear n;obtain⟨n,V⟩:∃n,n=(H.logs i).length:=⟨_,rfl⟩;rw[<-V];obtain⟨I,X⟩:∃I,I=ackBody H i n:=⟨_,rfl⟩;rw[<-X];have bo:=t' (And.intro V X);clear U aL aK aj V X;unfold y' at *;go_enter Tryz.func110,Tryz.ntmps110;go_upto_region 1 with fail;refine C' (eq' w #[.int .i64 3, .int .i64 ep, .int .i64 i, .int .i64 q, .string b] zFr) (i' aM) ?_;clear aM;intro x u;have ac:=m' (i:=1) u.box;simp at ac;have aN:=(u.bel.cell (p:=⟨p,1,none⟩) bk).trans c1;have M:=t' u;clear u;go_quiet (fail);go_upto_region 3 with fail;refine C' (eq' w #[.int .i64 3, .int .i64 ep, .int .i64 i, .int .i64 q, .string b] zFr) ((i' M).drewN _) ?_;clear M ac aN;intro ay u;have aO:=m' (i:=0) u.box;have ac:=m' (i:=1) u.box;have Y:=m' (i:=2) u.box;have aP:=m' (i:=3) u.box;have aQ:=m' (i:=4) u.box;simp at aO ac Y aP aQ;have aR:=t' (i' (ab ay u.bel));have M:=t' u;clear u ab;go_upto_region 6 with (go_at_call 163;refine(i' aR).mono ?_;rintro ai y ⟨rfl,O⟩);obtain⟨az,aA,⟨c2,aS,ak,ao,ap,aq⟩,au,av⟩:=O;have aT:∀k,w.heap.size<=k->¬PkU p c k:=fun k O h=>by have:=(i' bm) k h;omega
 have bO:=(i' M).lt;refine C' (fun f=>aL' f p H.epoch H.logs az aA c2/\Far (PkU p c) ay f/\f.heap[w.heap.size]? =some (.cells #[.int .i64 3, .int .i64 ep, .int .i64 i, .int .i64 q, .string b] 41 (0,0))/\f.heap[w.heap.size+1]? =some (.cells zFr 41 (0,0))) ⟨aS,ak,ak.blk (i' M).box (aT _ (Nat.le_refl _)),ak.blk (i' M).res (aT _ (by omega))⟩ ?_;clear aO ac Y aP aQ aS ak aR;rintro bp ⟨aU,aV,Q,ad⟩;have Y:bp.cell? ⟨w.heap.size,2,none⟩=some (.int .i64 i):=m' (i:=2) Q;have aW:=t' aU;have aX:=t' aV;have Z:=t' (And.intro Q ad);have aY:=t' (And.intro ao (And.intro ap (And.intro aq (And.intro au av))));clear aU aV Q ad ao ap aq au av;go_quiet (fail);go_upto_region 7 with fail;refine C' (fun f=>aL' f p H.epoch H.logs az aA c2/\Far (PkU p c) ay f/\f.heap[w.heap.size]? =some (.cells #[.int .i64 3, .int .i64 ep, .int .i64 i, .int .i64 q, .string b] 41 (0,0))/\f.heap[w.heap.size+1]? =some (.cells zFr 41 (0,0))) ⟨(i' aW).far (ag' (fun _=>False) _ _) (fun _ _ h=>h),(i' aX).trans (ag' (fun _=>False) _ _) (fun _ _ h=>h.elim),(i' Z).1,(i' Z).2⟩ ?_;clear Y aW aX Z;rintro G ⟨z,aZ,Q,ad⟩;obtain⟨bq,cap,_,ba⟩:=z.ks.logc hi;have br:=z.ks.loglen hi;obtain⟨V,X⟩:=i' bo;rw[<-V]at ba br;have bb:=(i' aY).2.2.2.2;have aB:=fun f (aC:Below G.heap.size G f)=>t' (oD' ((z.far (A' (E:=fun _=>False) aC) (fun _ _ h=>h)).shAt hi) (z.ks.are i hi) n (by omega));rw[lO' bb z.ks.are hi n,<-X]at aB;have bc:=fun f (aC:Below G.heap.size G f)=>t' (bx' f p (2+i * 3) n cap bq ((aC.cell (p:=⟨p,2+i * 3,none⟩) (lt_of_block z.ks.blk)).trans ba));have bt:=lt_of_block z.ks.blk;have bu:G.cell? ⟨p,1,none⟩=some (.int .i64 ep):=by rw[m' z.ks.blk,z.ks.a1,i' bn]
 have Y:G.cell? ⟨w.heap.size,2,none⟩=some (.int .i64 i):=m' (i:=2) Q;have bw:=lt_of_block Q;have bd:=t' z;have bz:=t' aZ;have Z:=t' ad;clear z aZ Q ad V X bb;have bP:p≠w.heap.size+1:=by omega
 refine Q' (by kernel_rfl)
  [fun v _=>v= .pointer (some ⟨p,0,none⟩),fun v _=>v= .pointer (some ⟨p,0,none⟩),fun v _=>v= .pointer (some ⟨p,1,none⟩),fun v _=>v= .int .i64 ep,fun v _=>v= .pointer (some ⟨w.heap.size,2,none⟩),fun v _=>v= .int .i64 i,
   fun v _=>v= .pointer (some ⟨p,2+i * 3,none⟩),fun v _=>v= .int .i64 n,fun v _=>v= .pointer (some ⟨p,2+i * 3,none⟩),fun v _=>v= .int .i64 n,fun v _=>v= .pointer (some ⟨p,2+i * 3,none⟩),fun v _=>v= .pointer (some ⟨p,2+i * 3,none⟩),fun v _=>v= .pointer (some ⟨p,2+i * 3+1,none⟩),
   fun v _=>v= .func (.func 165) #[.pointer (some ⟨p,2+i * 3+1,none⟩)] #[],fun v _=>v= .string I,fun v _=>v= .agg #[.int .i64 4, .int .i64 ep, .int .i64 i, .int .i64 n, .string I],
   fun _ f=>f.heap[w.heap.size+1]? =some (.cells #[.int .i64 4, .int .i64 ep, .int .i64 i, .int .i64 n, .string I] 41 (0,0)),fun v _=>v= .int .i64 0]
  [[(0,none)],[(36,some 0)],[(37,some 1)],[(38,some 2)],[(3,none)],[(40,some 4)],[(7,none)],[(42,some 6)],[(7,none)],[(44,some 8)],[(7,none)],[(46,some 10)],[(47,some 11)],[(48,some 12)],[(45,some 9),(49,some 13)],[(39,some 3),(41,some 5),(43,some 7),(50,some 14)],[(4,none),(51,some 15)],[]] [some 36,some 37,some 38,some 39,some 40,some 41,some 42,some 43,some 44,some 45,some 46,some 47,some 48,some 49,some 50,some 51,none,some 5] [false,false,false,false,false,true,false,false,false,false,false,false,false,false,false,false,false,false,false,false,false,false,false,false,false,false,false,false,false,false,false,false,false,false,false,false,true,true,true,true,true,true,true,true,true,true,true,true,true,true,true,true]
  [(16,fun k=>k=w.heap.size+1)]
  (by kernel_rfl) (by kernel_rfl) (by kernel_rfl) (by kernel_rfl) (by kernel_rfl) ?_ ?_ ?_ ?_
 ·repeat' (first|exact J' _|exact ba' _ _|exact trivial|apply And.intro)
 ·repeat' (first|exact trivial|exact .inl rfl|exact .inr (.inr (ak' _ _))|apply And.intro)
 ·refine⟨?_,?_,?_,?_,?_,?_,?_,?_,?_,?_,?_,?_,?_,?_,?_,?_,?_,?_,trivial⟩
  case refine_17=>
   intro a' f F J;simp only[I',List.getD_cons_zero,List.getD_cons_succ,Array.getD_eq_getD_getElem?]at J;try simp at J
   have ax:=F.blk (i' Z) (by rintro⟨q,D,g1,g2,bQ⟩;simp at D;subst D;exact g1 rfl);clear F;rw[if_pos (by rfl)];refine wp_store_row 41 (.tmp 4) (.tmp 51) rfl (w.heap.size+1) #[.int .i64 4, .int .i64 ep, .int .i64 i, .int .i64 n, .string I] (by simp[Act.eval,J]) (by simp[Act.eval,J]) 41 _ ax (by rw[gG'];rfl) rfl (by rw[Array.all_eq_true_iff_forall_mem];intro bR hu;simp at hu;rcases hu with rfl|rfl|rfl|rfl|rfl <;> rfl) ?_;exact⟨_,rfl,ac' (.head _) (aR' _ _ _),setRow_heap _ _ _ _ _ _ ax⟩
  case refine_18=>intro a' f F J;clear F;go_simp;exact⟨_,rfl,Far.refl _ _,rfl⟩
  all_goals
   intro a' f F J;have ah:Below G.heap.size G f:=eI' F (by intro q D;simp at D;subst D;show ar' _ 16 _=true;decide+kernel);have be:=(ah.cell (p:=⟨w.heap.size,2,none⟩) bw).trans Y;have aN:=(ah.cell (p:=⟨p,1,none⟩) bt).trans bu;have bA:=t' (i' (aB f ah));have bB:=t' (i' (bc f ah));clear F ah aB bc;simp only[I',List.getD_cons_zero,List.getD_cons_succ,Array.getD_eq_getD_getElem?]at J;try simp at J
   go_simp;first
    |exact⟨_,rfl,Far.refl _ _,rfl⟩
    |(refine(i' bB).mono ?_;rintro ai be ⟨rfl,rfl⟩;exact⟨_,rfl,Far.refl _ _,rfl⟩)
    |(refine(i' bA).mono ?_;rintro ai be ⟨rfl,bC⟩;exact⟨_,rfl,A' bC,rfl⟩)
    |skip
 ·intro r f hF aD;have aa:=aD.2.2.2.2.2.2.2.2.2.2.2.2.2.2.2.2.1;have bD:=aD.2.2.2.2.2.2.2.2.2.2.2.2.2.2.2.2.2.1;have ax:f.cell? ⟨w.heap.size+1,0,none⟩=some (.int .i64 4):=m' (i:=0) aa;have bE:f.cell? ⟨w.heap.size+1,1,none⟩=some (.int .i64 ep):=m' (i:=1) aa;have bF:f.cell? ⟨w.heap.size+1,2,none⟩=some (.int .i64 i):=m' (i:=2) aa;have bG:f.cell? ⟨w.heap.size+1,3,none⟩=some (.int .i64 n):=m' (i:=3) aa;have bH:f.cell? ⟨w.heap.size+1,4,none⟩=some (.string I):=m' (i:=4) aa;have hF:Far (fun k=>k=w.heap.size+1) G f:=hF.mono (fun k _ h=>by obtain⟨q,D,h⟩:=h;simp at D;subst D;exact h);have bI:=t' hF;clear aD hF aa;simp only[R',bD];generalize r 36=bS;generalize r 37=bT;generalize r 38=bU;generalize r 39=bV;generalize r 40=bW;generalize r 41=bX;generalize r 42=bY;generalize r 43=bZ;generalize r 44=ca;generalize r 45=cb;generalize r 46=cc;generalize r 47=cd;generalize r 48=ce;generalize r 49=cf;generalize r 50=cg;generalize r 51=ch;go_simp;go_wp2;refine bodyPost_ret (v:= .tuple #[.agg #[.int .i64 4, .int .i64 ep, .int .i64 i, .int .i64 n, .string I], .int .i64 0]) (by simp[results,Tryz.results110,go_sem,ax,bE,bF,bG,bH]) rfl ⟨rfl,?_⟩;obtain⟨ao,ap,aq,au,av⟩:=i' aY;have bf:=(i' M).bel;have bg:=i' bI;have bJ:¬PkU p c2 (w.heap.size+1):=by have bK:=i' Z;exact cj' (i' bd) bK (by decide) (by decide) (by decide) (by decide) (by decide) (by decide) (by decide) (by decide)
  refine⟨az,aA,⟨c2,(i' bd).far bg (fun k O e=>bJ (by rw[<-e];exact O)),?_,fun k O=>(ao k O).imp id (fun h=>Nat.le_trans bf.size h),ap,aq⟩,au,av⟩;exact((A' (E:=PkU p c) bf).trans (i' bz) (fun _ _ h=>h)).trans bg (fun k O e=>by omega)
theorem lc' {op ct n:Nat} {w:World} {p:Nat} {a:Mod.Sk} {sh:Nat->List (Nat×Value)} {st:Mod.Stv} {c:Sv} (G:aL' w p a.epoch a.logs sh st c) (hs:Alv op ct n st a.epoch a.logs) (aY:ct+1000 < 18446744073709551616) (bB:da' a.held sh) (e:Nat) (s q:Int) (b:ByteArray) (aZ:a.epoch<=e) (bC:e<=2147483647) (ba:n=0\/hiW a e < n):
  Calls Tryz.prog 109 #[y' p, .agg #[.int .i64 1, .int .i64 e, .int .i64 s, .int .i64 q, .string b]] w fun Q f=>
   Q= .returned (.tuple #[.agg #[.int .i64 2, .int .i64 e, .int .i64 0, .int .i64 0, .string (jA' a)], .int .i64 0])/\bF' op (ct+hiW a e) (n - hiW a e) w f p (aX' a e) c:=by
 obtain⟨bb,bc⟩:∃bb,bb=n - hiW a e:=⟨_,rfl⟩;obtain⟨bd,be⟩:∃bd,bd=ct+hiW a e:=⟨_,rfl⟩;have c1:w.cell? ⟨p,1,none⟩=some (.int .i64 a.epoch):=by rw[m' G.ks.blk,G.ks.a1]
 have bD:=lt_of_block G.ks.blk;have ax:=fun y (bE:Below w.heap.size w y)=>t' (ug' (G.far (A' (E:=fun _=>False) bE) (fun _ _ h=>h)) hs aY bB e aZ bC ba);rw[<-bc,<-be]at ax ⊢;clear bc be ba hs aY;clear n;have aP:(aX' a e).logs=a.logs:=rfl;have aQ:(aX' a e).epoch=e:=rfl;obtain⟨I,bf⟩:∃I,I=aX' a e:=⟨_,rfl⟩;rw[<-bf]at ax aP aQ ⊢;have ay:=sD' (a.logs 0).length (a.logs 1).length (a.logs 2).length;have bF:=G.ks.loglen (i:=0) (by omega);have bG:=G.ks.loglen (i:=1) (by omega);have bH:=G.ks.loglen (i:=2) (by omega);obtain⟨U,az⟩:∃n,n=(a.logs 0).length:=⟨_,rfl⟩;obtain⟨V,aA⟩:∃n,n=(a.logs 1).length:=⟨_,rfl⟩;obtain⟨X,aB⟩:∃n,n=(a.logs 2).length:=⟨_,rfl⟩;obtain⟨wel,aR⟩:∃v,v=jA' a:=⟨_,rfl⟩;have aS:wel=dR' (a.logs 0).length++dR' (a.logs 1).length++dR' (a.logs 2).length:=aR;rw[<-aR];rw[<-az,<-aA,<-aB]at aS ay;rw[<-aS]at ay;rw[<-az]at bF;rw[<-aA]at bG;rw[<-aB]at bH;have bg:=fun y=>t' (jB' U V X (by omega) (by omega) (by omega) y);rw[ay]at bg;have bI:=t' (And.intro az (And.intro aA (And.intro aB (And.intro aP aQ))));obtain⟨ep,bh⟩:∃ep,ep=a.epoch:=⟨_,rfl⟩;rw[<-bh]at c1 aZ;have cf:¬ (e:Int) < (ep:Int):=by omega
 have bJ:=t' G.lt;have bi:=t' (ez' w #[.int .i64 1, .int .i64 e, .int .i64 s, .int .i64 q, .string b] zFr);clear G bh bf aP aQ az aA aB aR aS ay;unfold y' at *;go_enter Tryz.func109,Tryz.ntmps109;go_upto_region 1 with fail;refine C' (eq' w #[.int .i64 1, .int .i64 e, .int .i64 s, .int .i64 q, .string b] zFr) (i' bi) ?_;clear bi;intro x H;have ah:=m' (i:=1) H.box;simp at ah;have bj:=(H.bel.cell (p:=⟨p,1,none⟩) bD).trans c1;have Y:=t' H;clear H;go_quiet (fail);go_upto_region 3 with fail;refine C' (eq' w #[.int .i64 1, .int .i64 e, .int .i64 s, .int .i64 q, .string b] zFr) ((i' Y).drewN _) ?_;clear Y ah bj;intro ai H;have ah:=m' (i:=1) H.box;simp at ah;have bk:=t' (i' (ax ai H.bel));have Y:=t' H;clear H ax;go_upto_region 6 with (go_at_call 160;refine(i' bk).mono ?_;rintro Q y ⟨rfl,F⟩);obtain⟨aC,aD,⟨c2,bl,aE,aF,aG,aH⟩,aI,aJ⟩:=F;have bK:∀k,w.heap.size<=k->¬PkU p c k:=fun k F h=>by have:=(i' bJ) k h;omega
 have cg:=(i' Y).lt;have bL:=aE.size;obtain⟨r,aT⟩:∃r,r=y.heap.size:=⟨_,rfl⟩;have bm:=t' (aE.blk (i' Y).res (bK _ (by omega)));have bn:=t' bl;have bo:=t' aE;have bM:=t' (And.intro aF (And.intro aG (And.intro aH (And.intro aI aJ))));clear bk bl aE aF aG aH aI aJ ah;go_upto_region 7 with fail;rw[<-aT];refine C' (fun f=>aL' f p I.epoch I.logs aC aD c2/\Far (PkU p c) ai f/\f.heap[w.heap.size+1]? =some (.cells zFr 41 (0,0))/\f.heap[r]? =some (.cells #[.int .i64 0, .int .i64 0, .int .i64 0] 98 (0,0))) ?_ ?_
 ·have D:∀o,Below y.heap.size y (y.alloc o):=fun o=>(Below.refl _ _).alloc (Nat.le_refl _) o;refine⟨(i' bn).far (A' (E:=fun _=>False) (D _)) (fun _ _ h=>h),(i' bo).trans (A' (E:=fun _=>False) (D _)) (fun _ _ h=>h.elim),((D _).block _ (by omega)).trans (i' bm),by rw[aT];exact heap_alloc_new _ _⟩
 have ch:w.heap.size+1 < r:=by omega
 have ci:ai.heap.size<=r:=by omega
 clear bm bn bo aT bL;rintro cj ⟨aK,aL,aM,aN⟩;have bp:=t' (And.intro aK (And.intro aL (And.intro aM aN)));clear aK aL aM aN;go_wp2;go_loopw[8,29] (fun _ i wr=>∃j:Nat,j<=3/\i= .int .i64 j/\aL' wr p I.epoch I.logs aC aD c2/\Far (PkU p c) ai wr/\wr.heap[w.heap.size+1]? =some (.cells zFr 41 (0,0))/\wr.heap[r]? =some (.cells #[.int .i64 (if 0 < j then U else 0:Nat), .int .i64 (if 1 < j then V else 0:Nat), .int .i64 (if 2 < j then X else 0:Nat)] 98 (0,0))) (fun _ i _=>3 - (intOf i).toNat)
 case atStart=>obtain⟨aK,aL,aM,aN⟩:=i' bp;exact⟨0,by omega,rfl,aK,aL,aM,by simpa using aN⟩
 case round=>
  obtain⟨j,hj,rfl,K,Z,aa,u⟩:=hrel;clear bp;have bN:¬PkU p c2 r:=cj' K u (by decide) (by decide) (by decide) (by decide) (by decide) (by decide) (by decide) (by decide);obtain⟨aj,ak,ao,M,ap⟩:=i' bI;obtain⟨bO,bP,_,c0⟩:=K.ks.logc (i:=0) (by omega);obtain⟨bQ,bR,_,ab⟩:=K.ks.logc (i:=1) (by omega);obtain⟨bS,bT,_,ac⟩:=K.ks.logc (i:=2) (by omega);rw[M,<-aj]at c0;rw[M,<-ak]at ab;rw[M,<-ao]at ac;have bq:=t' (bx' wr p 2 U bP bO c0);have br:=t' (bx' wr p 5 V bR bQ ab);have bt:=t' (bx' wr p 8 X bT bS ac);have aq:∀ (k:Nat) (v:Value),aL' (wr.setCell ⟨r,k,none⟩ v) p I.epoch I.logs aC aD c2/\Far (PkU p c) ai (wr.setCell ⟨r,k,none⟩ v)/\(wr.setCell ⟨r,k,none⟩ v).heap[w.heap.size+1]? =some (.cells zFr 41 (0,0)):=fun k v=>by have z:=O' wr r k v;exact⟨K.far z (fun k F e=>bN (by rw[<-e];exact F)),Z.trans z (fun k F e=>by omega),z.blk aa (by omega)⟩
  have aU:=t' aq;have au:=fun k v=>af' (j:=k) (v:=v) u;have g0:=m' (i:=0) u;have g1:=m' (i:=1) u;have g2:=m' (i:=2) u;have ck:=D' (i:=0) u;have cl:=D' (i:=1) u;have cm:=D' (i:=2) u;have aV:=t' au;have bu:=t' K;have bU:=t' Z;have bw:=t' aa;have cn:=t' u;rcases(show j=0\/j=1\/j=2\/j=3 by omega)with rfl|rfl|rfl|rfl
  ·simp at g0;clear K Z aa u aq au c0 ab ac aj ak ao M ap g1 g2;go_wp2_with (go_at_call 161;refine(i' bq).mono ?_;rintro Q y ⟨rfl,rfl⟩);refine⟨⟨1,by omega,by go_num,?_⟩,by simp[intOf]⟩;obtain⟨h1,h2,h3⟩:=(i' aU) 0 (.int .i64 U);exact⟨h1,h2,h3,by simpa using (i' aV) 0 (.int .i64 U)⟩
  ·simp at g1;clear K Z aa u aq au c0 ab ac aj ak ao M ap g0 g2;go_wp2_with (go_at_call 161;refine(i' br).mono ?_;rintro Q y ⟨rfl,rfl⟩);refine⟨⟨2,by omega,by go_num,?_⟩,by simp[intOf]⟩;obtain⟨h1,h2,h3⟩:=(i' aU) 1 (.int .i64 V);exact⟨h1,h2,h3,by simpa using (i' aV) 1 (.int .i64 V)⟩
  ·simp at g2;clear K Z aa u aq au c0 ab ac aj ak ao M ap g0 g1;go_wp2_with (go_at_call 161;refine(i' bt).mono ?_;rintro Q y ⟨rfl,rfl⟩);refine⟨⟨3,by omega,by go_num,?_⟩,by simp[intOf]⟩;obtain⟨h1,h2,h3⟩:=(i' aU) 2 (.int .i64 X);exact⟨h1,h2,h3,by simpa using (i' aV) 2 (.int .i64 X)⟩
  ·simp at g0 g1 g2;have bV:wr.cell? ⟨p,1,none⟩=some (.int .i64 e):=by rw[m' K.ks.blk,K.ks.a1,ap]
   have bW:=lt_of_block K.ks.blk;have aW:=lt_of_block u;clear K Z aa u aq au c0 ab ac aj ak ao M ap bq br bt;go_upto_region 12 with fail;refine Q' (by kernel_rfl)
    [fun v _=>v= .pointer (some ⟨p,0,none⟩),fun v _=>v= .pointer (some ⟨p,0,none⟩),fun v _=>v= .pointer (some ⟨p,1,none⟩),fun v _=>v= .int .i64 e,fun v _=>v= .agg #[.int .i64 U, .int .i64 V, .int .i64 X],fun v _=>v= .string wel,fun v _=>v= .agg #[.int .i64 2, .int .i64 e, .int .i64 0, .int .i64 0, .string wel],
     fun _ f=>f.heap[w.heap.size+1]? =some (.cells #[.int .i64 2, .int .i64 e, .int .i64 0, .int .i64 0, .string wel] 41 (0,0)),fun v _=>v= .int .i64 0]
    [[(0,none)],[(41,some 0)],[(42,some 1)],[(43,some 2)],[(7,none)],[(45,some 4)],[(44,some 3),(46,some 5)],[(4,none),(47,some 6)],[]] [some 41,some 42,some 43,some 44,some 45,some 46,some 47,none,some 5] [false,false,false,false,false,true,false,false,false,false,false,false,false,false,false,false,false,false,false,false,false,false,false,false,false,false,false,false,false,false,false,false,false,false,false,false,false,false,false,false,false,true,true,true,true,true,true,true]
    [(7,fun k=>k=w.heap.size+1)]
    (by kernel_rfl) (by kernel_rfl) (by kernel_rfl) (by kernel_rfl) (by kernel_rfl) ?_ ?_ ?_ ?_
   ·repeat' (first|exact J' _|exact ba' _ _|exact trivial|apply And.intro)
   ·repeat' (first|exact trivial|exact .inl rfl|exact .inr (.inr (ak' _ _))|apply And.intro)
   ·refine⟨?_,?_,?_,?_,?_,?_,?_,?_,?_,trivial⟩
    case refine_8=>
     intro a' f D z;simp only[I',List.getD_cons_zero,List.getD_cons_succ,Array.getD_eq_getD_getElem?]at z;try simp at z
     have aO:=D.blk (i' bw) (by rintro⟨q,J,g1,g2,co⟩;simp at J;subst J;exact g1 rfl);clear D;rw[if_pos (by rfl)];refine wp_store_row 41 (.tmp 4) (.tmp 47) rfl (w.heap.size+1) #[.int .i64 2, .int .i64 e, .int .i64 0, .int .i64 0, .string wel] (by simp[Act.eval,z]) (by simp[Act.eval,z]) 41 _ aO (by rw[gG'];rfl) rfl (by rw[Array.all_eq_true_iff_forall_mem];intro cp hu;simp at hu;rcases hu with rfl|rfl|rfl|rfl|rfl <;> rfl) ?_;exact⟨_,rfl,ac' (.head _) (aR' _ _ _),setRow_heap _ _ _ _ _ _ aO⟩
    case refine_9=>intro a' f D z;clear D;go_simp;exact⟨_,rfl,Far.refl _ _,rfl⟩
    all_goals
     intro a' f D z;have av:Below wr.heap.size wr f:=eI' D (by intro q J;simp at J;subst J;show ar' _ 7 _=true;decide+kernel);have bj:=(av.cell (p:=⟨p,1,none⟩) bW).trans bV;have cq:=(av.cell (p:=⟨r,0,none⟩) aW).trans g0;have cr:=(av.cell (p:=⟨r,1,none⟩) aW).trans g1;have cs:=(av.cell (p:=⟨r,2,none⟩) aW).trans g2;clear D av;simp only[I',List.getD_cons_zero,List.getD_cons_succ,Array.getD_eq_getD_getElem?]at z;try simp at z
     go_simp;first
      |exact⟨_,rfl,Far.refl _ _,rfl⟩
      |(refine(i' (bg f)).mono ?_;rintro Q cu ⟨rfl,bX⟩;exact⟨_,rfl,A' bX,rfl⟩)
      |skip
   ·intro O f hF aX;have ad:=aX.2.2.2.2.2.2.2.1;have bY:=aX.2.2.2.2.2.2.2.2.1;have aO:f.cell? ⟨w.heap.size+1,0,none⟩=some (.int .i64 2):=m' (i:=0) ad;have bZ:f.cell? ⟨w.heap.size+1,1,none⟩=some (.int .i64 e):=m' (i:=1) ad;have ca:f.cell? ⟨w.heap.size+1,2,none⟩=some (.int .i64 0):=m' (i:=2) ad;have cb:f.cell? ⟨w.heap.size+1,3,none⟩=some (.int .i64 0):=m' (i:=3) ad;have cc:f.cell? ⟨w.heap.size+1,4,none⟩=some (.string wel):=m' (i:=4) ad;have hF:Far (fun k=>k=w.heap.size+1) wr f:=hF.mono (fun k _ h=>by obtain⟨q,J,h⟩:=h;simp at J;subst J;exact h);have cd:=t' hF;clear aX hF ad;simp only[R',bY];generalize O 41=cv;generalize O 42=cw;generalize O 43=cx;generalize O 44=cy;generalize O 45=cz;generalize O 46=cA;generalize O 47=cB;go_simp;go_wp2;refine bodyPost_ret (v:= .tuple #[.agg #[.int .i64 2, .int .i64 e, .int .i64 0, .int .i64 0, .string wel], .int .i64 0]) (by simp[results,Tryz.results109,go_sem,aO,bZ,ca,cb,cc]) rfl ⟨rfl,?_⟩;obtain⟨aF,aG,aH,aI,aJ⟩:=i' bM;have bz:=(i' Y).bel;have bA:=i' cd;have ce:¬PkU p c2 (w.heap.size+1):=cj' (i' bu) (i' bw) (by decide) (by decide) (by decide) (by decide) (by decide) (by decide) (by decide) (by decide);refine⟨aC,aD,⟨c2,(i' bu).far bA (fun k F e=>ce (by rw[<-e];exact F)),?_,fun k F=>(aF k F).imp id (fun h=>Nat.le_trans bz.size h),aG,aH⟩,aI,aJ⟩;exact((A' (E:=PkU p c) bz).trans (i' bU) (fun _ _ h=>h)).trans bA (fun k F e=>by omega)
theorem ld' {op ct n:Nat} {w:World} {p:Nat} {a:Mod.Sk} {sh:Nat->List (Nat×Value)} {st:Mod.Stv} {c:Sv} (D:aL' w p a.epoch a.logs sh st c) (hs:Alv op ct n st a.epoch a.logs) (M:ct+1000 < 18446744073709551616) (au:ay' a) (av:bh' a) (ax:da' a.held sh) (i q:Nat) (hi:i < 3) (ay:q<=2147483647) (b:ByteArray) (az:b.size<=20) (O:1<=n/\n<=(a.commits 3 a.epoch i q b).length):
  Calls Tryz.prog 110 #[y' p, .agg #[.int .i64 3, .int .i64 a.epoch, .int .i64 i, .int .i64 q, .string b]] w fun Q G=>
   Q= .returned (.tuple #[.agg zFr, .int .i64 4])/\br' op w G p a.epoch (grown a i ((a.commits 3 a.epoch i q b).take (n - 1))).logs c:=by
 have c1:w.cell? ⟨p,1,none⟩=some (.int .i64 a.epoch):=by rw[m' D.ks.blk,D.ks.a1]
 have aA:=lt_of_block D.ks.blk;have H:=fun y (aB:Below w.heap.size w y)=>t' (uf' (D.far (A' (E:=fun _=>False) aB) (fun _ _ h=>h)) hs M au av ax a.epoch i q hi ay b az O);clear O;obtain⟨lg,U⟩:∃lg,lg=(grown a i ((a.commits 3 a.epoch i q b).take (n - 1))).logs:=⟨_,rfl⟩;rw[<-U]at H ⊢;obtain⟨ep,V⟩:∃ep,ep=a.epoch:=⟨_,rfl⟩;rw[<-V]at c1 H ⊢;have aN:((ep:Int) != (ep:Int))=false:=by simp
 have aC:=t' D.lt;have X:=t' (ez' w #[.int .i64 3, .int .i64 ep, .int .i64 i, .int .i64 q, .string b] zFr);have aO:(0:Int)<=(i:Int):=by omega
 have aP:(i:Int) < 3:=by omega
 clear hs M U;clear n;clear D V;unfold y' at *;go_enter Tryz.func110,Tryz.ntmps110;go_upto_region 1 with fail;refine C' (eq' w #[.int .i64 3, .int .i64 ep, .int .i64 i, .int .i64 q, .string b] zFr) (i' X) ?_;clear X;intro x f;have F:=m' (i:=1) f.box;simp at F;have aD:=(f.bel.cell (p:=⟨p,1,none⟩) aA).trans c1;have u:=t' f;clear f;go_quiet (fail);go_upto_region 3 with fail;refine C' (eq' w #[.int .i64 3, .int .i64 ep, .int .i64 i, .int .i64 q, .string b] zFr) ((i' u).drewN _) ?_;clear u F aD;intro aE f;have Y:=m' (i:=0) f.box;have F:=m' (i:=1) f.box;have Z:=m' (i:=2) f.box;have aa:=m' (i:=3) f.box;have ab:=m' (i:=4) f.box;simp at Y F Z aa ab;have ac:=t' (i' (H aE f.bel));have u:=t' f;clear f H;go_wp2_with (go_at_call 163;refine(i' ac).mono ?_;rintro Q y ⟨rfl,z⟩;obtain⟨aF,aG,⟨c2,I,J,ad,ah,ai⟩,aj⟩:=z;have ak:∀k,w.heap.size<=k->¬PkU p c k:=fun k z h=>(by have:=(i' aC) k h;omega);have aQ:=(i' u).lt;have r:=J.blk (i' u).res (ak _ (by omega));have ao:¬PkU p c2 (w.heap.size+1):=cj' I r (by decide) (by decide) (by decide) (by decide) (by decide) (by decide) (by decide) (by decide);have ap:=(i' u).bel;have aH:=fun G (aq:Far (fun k=>k=w.heap.size+1) y G)=>t' (show br' op w G p ep lg c from⟨aF,aG,⟨c2,I.far aq (fun k z e=>ao (by rw[<-e];exact z)),((A' (E:=PkU p c) ap).trans J (fun _ _ h=>h)).trans aq (fun k z e=>by omega),fun k z=>(ad k z).imp id (fun h=>Nat.le_trans ap.size h),ah,ai⟩,aj⟩);have aI:y.cell? ⟨w.heap.size+1,0,none⟩=some (.int .i64 0):=m' (i:=0) r;have aJ:y.cell? ⟨w.heap.size+1,1,none⟩=some (.int .i64 0):=m' (i:=1) r;have aK:y.cell? ⟨w.heap.size+1,2,none⟩=some (.int .i64 0):=m' (i:=2) r;have aL:y.cell? ⟨w.heap.size+1,3,none⟩=some (.int .i64 0):=m' (i:=3) r;have aM:y.cell? ⟨w.heap.size+1,4,none⟩=some (.string ⟨#[]⟩):=m' (i:=4) r;have aR:=D' (i:=0) r;have aS:=D' (i:=1) r;have aT:=D' (i:=2) r;have aU:=D' (i:=3) r;have aV:=D' (i:=4) r;have aW:=t' r;clear r ao;clear I J ad ah ai aj ac u ak Y F Z aa ab);refine bodyPost_ret (v:= .tuple #[.agg zFr, .int .i64 4]) (by simp[results,Tryz.results110,go_sem,zFr,aI,aJ,aK,aL,aM]) rfl ⟨rfl,?_⟩;have fs:=fun x i v=>O' x (w.heap.size+1) i v;exact i' (aH _ (((((fs _ _ _).trans (fs _ _ _) (fun _ _ h=>h)).trans (fs _ _ _) (fun _ _ h=>h)).trans (fs _ _ _) (fun _ _ h=>h)).trans (fs _ _ _) (fun _ _ h=>h)))
theorem jI' {op ct n:Nat} {w:World} {p:Nat} {a:Mod.Sk} {sh:Nat->List (Nat×Value)} {st:Mod.Stv} {c:Sv} (D:aL' w p a.epoch a.logs sh st c) (hs:Alv op ct n st a.epoch a.logs) (M:ct+1000 < 18446744073709551616) (ao:da' a.held sh) (e:Nat) (s q:Int) (b:ByteArray) (O:a.epoch<=e) (ap:e<=2147483647) (Q:1<=n/\n<=hiW a e):
  Calls Tryz.prog 109 #[y' p, .agg #[.int .i64 1, .int .i64 e, .int .i64 s, .int .i64 q, .string b]] w fun U G=>
   U= .returned (.tuple #[.agg zFr, .int .i64 4])/\br' op w G p a.epoch a.logs c:=by
 have c1:w.cell? ⟨p,1,none⟩=some (.int .i64 a.epoch):=by rw[m' D.ks.blk,D.ks.a1]
 have aq:=lt_of_block D.ks.blk;have H:=fun y (au:Below w.heap.size w y)=>t' (sQ' (D.far (A' (E:=fun _=>False) au) (fun _ _ h=>h)) hs M ao e O ap Q);clear Q hs M;clear n;obtain⟨lg,V⟩:∃lg,lg=a.logs:=⟨_,rfl⟩;rw[<-V]at H ⊢;obtain⟨ep,X⟩:∃ep,ep=a.epoch:=⟨_,rfl⟩;rw[<-X]at c1 O H ⊢;have aH:¬ (e:Int) < (ep:Int):=by omega
 have av:=t' D.lt;have Y:=t' (ez' w #[.int .i64 1, .int .i64 e, .int .i64 s, .int .i64 q, .string b] zFr);clear D X V;unfold y' at *;go_enter Tryz.func109,Tryz.ntmps109;go_upto_region 1 with fail;refine C' (eq' w #[.int .i64 1, .int .i64 e, .int .i64 s, .int .i64 q, .string b] zFr) (i' Y) ?_;clear Y;intro x r;have F:=m' (i:=1) r.box;simp at F;have ax:=(r.bel.cell (p:=⟨p,1,none⟩) aq).trans c1;have u:=t' r;clear r;go_quiet (fail);go_upto_region 3 with fail;refine C' (eq' w #[.int .i64 1, .int .i64 e, .int .i64 s, .int .i64 q, .string b] zFr) ((i' u).drewN _) ?_;clear u F ax;intro ay r;have F:=m' (i:=1) r.box;simp at F;have Z:=t' (i' (H ay r.bel));have u:=t' r;clear r H;go_wp2_with (go_at_call 160;refine(i' Z).mono ?_;rintro U y ⟨rfl,z⟩;obtain⟨az,aA,⟨c2,I,J,aa,ab,ac⟩,ad⟩:=z;have ah:∀k,w.heap.size<=k->¬PkU p c k:=fun k z h=>(by have:=(i' av) k h;omega);have aI:=(i' u).lt;have f:=J.blk (i' u).res (ah _ (by omega));have ai:¬PkU p c2 (w.heap.size+1):=cj' I f (by decide) (by decide) (by decide) (by decide) (by decide) (by decide) (by decide) (by decide);have aj:=(i' u).bel;have aB:=fun G (ak:Far (fun k=>k=w.heap.size+1) y G)=>t' (show br' op w G p ep lg c from⟨az,aA,⟨c2,I.far ak (fun k z e=>ai (by rw[<-e];exact z)),((A' (E:=PkU p c) aj).trans J (fun _ _ h=>h)).trans ak (fun k z e=>by omega),fun k z=>(aa k z).imp id (fun h=>Nat.le_trans aj.size h),ab,ac⟩,ad⟩);have aC:y.cell? ⟨w.heap.size+1,0,none⟩=some (.int .i64 0):=m' (i:=0) f;have aD:y.cell? ⟨w.heap.size+1,1,none⟩=some (.int .i64 0):=m' (i:=1) f;have aE:y.cell? ⟨w.heap.size+1,2,none⟩=some (.int .i64 0):=m' (i:=2) f;have aF:y.cell? ⟨w.heap.size+1,3,none⟩=some (.int .i64 0):=m' (i:=3) f;have aG:y.cell? ⟨w.heap.size+1,4,none⟩=some (.string ⟨#[]⟩):=m' (i:=4) f;have aJ:=D' (i:=0) f;have aK:=D' (i:=1) f;have aL:=D' (i:=2) f;have aM:=D' (i:=3) f;have aN:=D' (i:=4) f;have aO:=t' f;clear f ai;clear I J aa ab ac ad Z u ah F);refine bodyPost_ret (v:= .tuple #[.agg zFr, .int .i64 4]) (by simp[results,Tryz.results109,go_sem,zFr,aC,aD,aE,aF,aG]) rfl ⟨rfl,?_⟩;have fs:=fun x i v=>O' x (w.heap.size+1) i v;exact i' (aB _ (((((fs _ _ _).trans (fs _ _ _) (fun _ _ h=>h)).trans (fs _ _ _) (fun _ _ h=>h)).trans (fs _ _ _) (fun _ _ h=>h)).trans (fs _ _ _) (fun _ _ h=>h)))
end Go.Proofs.YtamafdcnbcoegaaGreat
