/-
  Part 17 of a proof: K23, K24, K25, K26, K27.
-/
import Derived.Test.YtamafdcnbcoegabGreatCm16
set_option maxRecDepth 100000
set_option maxHeartbeats 40000000
namespace Go.Proofs.YtamafdcnbcoegabGreat
open Go.RowKit
structure Alv (op ct n:Nat) (st:Mod.Stv) (e:Nat) (logs:Nat->List ByteArray):Prop where
 dead:st.dk.dead=false
 arm:st.dk.armed=n
 op:st.opening=op
 ct:st.count<=ct
 dk:Mod.SkDisk st.dk.bytes st.opening st.count st.head e logs
structure Ded (op:Nat) (st:Mod.Stv) (e:Nat) (logs:Nat->List ByteArray):Prop where
 dead:st.dk.dead=true
 op:st.opening=op
 dk:∃ct hd,Mod.SkDisk st.dk.bytes st.opening ct hd e logs
theorem qI' {op ct n:Nat} {st:Mod.Stv} {e:Nat} {logs:Nat->List ByteArray} (h:Alv op ct n st e logs) (r:ct+1 < 18446744073709551616):st.next=st.count+1:=by
 have:=h.ct;unfold Mod.Stv.next
 omega
theorem wI' {op ct n:Nat} {st:Mod.Stv} {e:Nat} {logs:Nat->List ByteArray} (h:Alv op ct n st e logs) (r:ct+1 < 18446744073709551616) (z:n≠1) {s:Nat} (hs:s < 3) {b:ByteArray} (D:b.size<=20) (F:Mod.cnt logs < 120):
  (st.putRecord (Mod.cnt logs) s ((logs s).length+1) b.data.toList).1=0/\Alv op (ct+1) (n - 1) (st.putRecord (Mod.cnt logs) s ((logs s).length+1) b.data.toList).2 e (Mod.logAdd logs s b):=by
 have G:=qI' h r;have hd:=h.dk.commit (b:=b) hs D F (by have:=h.ct;omega);have h1:=h.dead;have h2:=h.arm;have h3:=h.ct;unfold Mod.Stv.putRecord Mod.Dk.put;rw[if_neg (by rw[h1];simp),if_neg (by rw[h2];exact z),G];exact⟨rfl,rfl,by show st.dk.armed - 1=n - 1;rw[h2],h.op,by show st.count+1<=ct+1;omega,hd⟩
theorem wJ' {op ct:Nat} {st:Mod.Stv} {e:Nat} {logs:Nat->List ByteArray} (h:Alv op ct 1 st e logs) (k s q:Nat) (b:List UInt8):
  (st.putRecord k s q b).1=4/\Ded op (st.putRecord k s q b).2 e logs:=by
 have h1:=h.dead;have h2:=h.arm;unfold Mod.Stv.putRecord Mod.Dk.put;rw[if_neg (by rw[h1];simp),if_pos h2];exact⟨rfl,rfl,h.op,_,_,h.dk⟩
theorem wK' {op ct n:Nat} {st:Mod.Stv} {e:Nat} {logs:Nat->List ByteArray} (h:Alv op ct n st e logs) (z:ct+1 < 18446744073709551616) (D:n≠1) {r:Nat} (F:r<=2147483647):
  (st.putNumbers r 0 0).1=0/\Alv op (ct+1) (n - 1) (st.putNumbers r 0 0).2 r logs:=by
 have G:=qI' h z;have hd:=h.dk.epoch F (by have:=h.ct;omega);have h1:=h.dead;have h2:=h.arm;have h3:=h.ct;unfold Mod.Stv.putNumbers Mod.Dk.put;rw[if_neg (by rw[h1];simp),if_neg (by rw[h2];exact D),G];exact⟨rfl,rfl,by show st.dk.armed - 1=n - 1;rw[h2],h.op,by show st.count+1<=ct+1;omega,hd⟩
theorem wL' {op ct:Nat} {st:Mod.Stv} {e:Nat} {logs:Nat->List ByteArray} (h:Alv op ct 1 st e logs) (a b c:Nat):
  (st.putNumbers a b c).1=4/\Ded op (st.putNumbers a b c).2 e logs:=by
 have h1:=h.dead;have h2:=h.arm;unfold Mod.Stv.putNumbers Mod.Dk.put;rw[if_neg (by rw[h1];simp),if_pos h2];exact⟨rfl,rfl,h.op,_,_,h.dk⟩
def bC' (op:Nat) (w x:World) (p e:Nat) (logs:Nat->List ByteArray) (c:Sv):Prop:=∃sh st,bn' w x p e logs sh st c/\Ded op st e logs
def CmG (op ct n:Nat) (w x:World) (p:Nat) (a:Mod.Sk) (i:Nat) (b:ByteArray) (c:Sv) (out:List ByteArray):Prop:=
 ∃sh st,rI' a i ((a.logs i).length+1) b out sh/\(Alv op (ct+out.length) (n - out.length) st a.epoch (grown a i out).logs/\(n=0\/out.length < n))/\bn' w x p a.epoch (grown a i out).logs sh st c
theorem um' (a:Mod.Sk) (s:Nat) (out:List ByteArray) (c:ByteArray):Mod.logAdd (grown a s out).logs s c=(grown a s (out++[c])).logs:=by
 have:=ln' a s out c;exact this
theorem lJ' {op ct n:Nat} {w:World} {p:Nat} {a:Mod.Sk} {sh:Nat->List (Nat×Value)} {st:Mod.Stv} {c:Sv} {out:List ByteArray} {i:Nat} (hi:i < 3) (F:aN' w p a.epoch (grown a i out).logs sh st c) (hs:Alv op (ct+out.length) (n - out.length) st a.epoch (grown a i out).logs) (J:n=0\/out.length < n) (b:ByteArray) (z:b.size<=20) (G:a.count+out.length < 120) (M:ct+1000 < 18446744073709551616):
  Calls Tryz.prog 203 #[A' p, .int .i64 i, .string b] w fun r w'=>
   (r= .returned (.int .i64 0)/\(n=0\/out.length+1 < n)/\∃D,Alv op (ct+(out++[b]).length) (n - (out++[b]).length) D a.epoch (grown a i (out++[b])).logs/\bn' w w' p a.epoch (grown a i (out++[b])).logs sh D c)\/
   (r= .returned (.int .i64 4)/\n=out.length+1/\bC' op w w' p a.epoch (grown a i out).logs c):=by
 have H:Mod.cnt (grown a i out).logs < 120:=by have:=jk' a i hi out;unfold Mod.cnt;omega
 refine(rF' F i hi b z (by rw[jk' a i hi];exact G)).mono ?_;rintro r w' ⟨rfl,h⟩;by_cases h1:n=out.length+1
 ·right;have I:Alv op (ct+out.length) 1 st a.epoch (grown a i out).logs:=by rw[show n - out.length=1 by omega]at hs;exact hs
  obtain⟨k1,k2⟩:=wJ' I (((grown a i out).logs 0).length+((grown a i out).logs 1).length+((grown a i out).logs 2).length) i (((grown a i out).logs i).length+1) b.data.toList;rw[k1,if_neg (by omega)]at h;exact⟨by rw[k1],h1,sh,_,h,k2⟩
 ·left;obtain⟨k1,k2⟩:=wI' hs (by omega) (by omega) hi z H;unfold Mod.cnt at k1 k2;rw[k1,if_pos rfl,ln']at h;rw[um']at k2;refine⟨by rw[k1],by omega,_,?_,h⟩;rw[List.length_append,List.length_singleton,show ct+(out.length+1)=ct+out.length+1 by omega,show n - (out.length+1)=n - out.length - 1 by omega];exact k2
theorem nF' {op ct n:Nat} {w:World} {p:Nat} {a:Mod.Sk} {sh:Nat->List (Nat×Value)} {st:Mod.Stv} {c:Sv} {out:List ByteArray} {i:Nat} (hi:i < 3) (D:aN' w p a.epoch (grown a i out).logs sh st c) (hs:Alv op (ct+out.length) (n - out.length) st a.epoch (grown a i out).logs) (F:n=0\/out.length < n) (b:ByteArray) (G:b.size<=20) (H:a.count+out.length < 120) (I:ct+1000 < 18446744073709551616) (h1:n≠out.length+1):
  Calls Tryz.prog 203 #[A' p, .int .i64 i, .string b] w fun z w'=>
   z= .returned (.int .i64 0)/\∃r,(Alv op (ct+(out++[b]).length) (n - (out++[b]).length) r a.epoch (grown a i (out++[b])).logs/\(n=0\/(out++[b]).length < n))/\bn' w w' p a.epoch (grown a i (out++[b])).logs sh r c:=by
 refine(lJ' hi D hs F b G H I).mono ?_;rintro z w' (⟨h2,h3,r,h4,h5⟩|⟨_,h3,_⟩)
 ·exact⟨h2,r,⟨h4,by rw[List.length_append,List.length_singleton];exact h3⟩,h5⟩
 ·exact absurd h3 h1
theorem lK' {op ct n:Nat} {w:World} {p:Nat} {a:Mod.Sk} {sh:Nat->List (Nat×Value)} {st:Mod.Stv} {c:Sv} {out:List ByteArray} {i:Nat} (hi:i < 3) (z:aN' w p a.epoch (grown a i out).logs sh st c) (hs:Alv op (ct+out.length) (n - out.length) st a.epoch (grown a i out).logs) (D:n=0\/out.length < n) (b:ByteArray) (F:b.size<=20) (G:a.count+out.length < 120) (H:ct+1000 < 18446744073709551616) (h1:n=out.length+1):
  Calls Tryz.prog 203 #[A' p, .int .i64 i, .string b] w fun r w'=>
   r= .returned (.int .i64 4)/\bC' op w w' p a.epoch (grown a i out).logs c:=by
 refine(lJ' hi z hs D b F G H).mono ?_;rintro r w' (⟨_,h3,_⟩|⟨h2,_,h4⟩)
 ·omega
 ·exact⟨h2,h4⟩
theorem ga' {a:Mod.Sk} {st q n:Nat}:∀ (f:Nat) (out:List ByteArray),∃more,a.commitFrom st q n f out=out++more
 |0,out=>⟨[],by simp[Mod.Sk.commitFrom]⟩
 |f+1,out=>by
  unfold Mod.Sk.commitFrom;split
  ·split
   ·exact⟨[],by simp⟩
   ·rename_i k _;obtain⟨m,h⟩:=ga' (a:=a) (st:=st) (q:=q) (n:=n) f (out++[(a.held.getD k (0,0,⟨#[]⟩)).2.2]);exact⟨(a.held.getD k (0,0,⟨#[]⟩)).2.2::m,by rw[h,List.append_assoc];rfl⟩
  ·exact⟨[],by simp⟩
def so' (op n:Nat) (w x:World) (p:Nat) (a:Mod.Sk) (i:Nat) (b:ByteArray) (c:Sv):Prop:=
 1<=n/\n<=(a.commitFrom i ((a.logs i).length+1) a.count 120 [b]).length/\bC' op w x p a.epoch (grown a i ((a.commitFrom i ((a.logs i).length+1) a.count 120 [b]).take (n - 1))).logs c
theorem qJ' {a:Mod.Sk} {s q:Nat} {b:ByteArray} {out:List ByteArray} {sh:Nat->List (Nat×Value)} (r:rI' a s q b out sh):∃more,a.commitFrom s q a.count 120 [b]=out++more:=by
 rw[<-r.run];exact ga' _ _
theorem lL' {op ct n:Nat} {w:World} {p:Nat} {a:Mod.Sk} {sh:Nat->List (Nat×Value)} {st:Mod.Stv} {c:Sv} (ac:aN' w p a.epoch a.logs sh st c) (bm:Alv op ct n st a.epoch a.logs) (aF:ct+1000 < 18446744073709551616) (bn:aw' a) (aQ:aR' a) (bM:dn' a.held sh) (i:Nat) (hi:i < 3) (b:ByteArray) (D:b.size<=20) (aR:a.count < 120):
  Calls Tryz.prog 179 #[A' p, .int .i64 i, .string b] w fun F w'=>
   (F= .returned (.int .i64 0)/\∃out,CmG op ct n w w' p a i b c out/\out=a.commitFrom i ((a.logs i).length+1) a.count 120 [b])\/
   (F= .returned (.int .i64 4)/\so' op n w w' p a i b c):=by
 have aG:=rJ' bn aQ bM ac.ks.are i b hi D aR;have aS:n=0\/([]:List ByteArray).length < n:=by simp;omega
 have bo:=qJ' aG;have bp:∀out x,n=out.length+1->(∃more,a.commitFrom i ((a.logs i).length+1) a.count 120 [b]=out++more/\more≠ [])->bC' op w x p a.epoch (grown a i out).logs c->so' op n w x p a i b c:=by
  rintro out x co ⟨more,aH,bN⟩ hd;have cp:0 < more.length:=List.length_pos_iff.2 bN;refine⟨by omega,by rw[aH,List.length_append];omega,?_⟩;rw[aH,show n - 1=out.length by omega,List.take_left']
  ·exact hd
  ·rfl
 have aT:=fun out x h1 h2 h3=>y' (bp out x h1 h2 h3);clear bp;have cq:=lt_of_block ac.ks.blk;have cr:(a.logs i).length<=120:=ac.ks.loglen hi;have cs:(0:Int)<=(i:Int):=by omega
 have cu:(i:Int) < 3:=by omega
 have bO:=y' aG;have bP:∀y,(∃v:Int,(v=0/\∃out,CmG op ct n w y p a i b c out)\/(v=4/\so' op n w y p a i b c))->Hid (∃v:Int,(v=0/\∃out,CmG op ct n w y p a i b c out)\/(v=4/\so' op n w y p a i b c)):=fun y h=>h;have aI:Calls Tryz.prog 203 #[A' p, .int .i64 i, .string b] w fun F y=>∃v:Int,F= .returned (.int .i64 v)/\((v=0/\∃out,CmG op ct n w y p a i b c out)\/(v=4/\so' op n w y p a i b c)):=by
  by_cases h1:n=([]:List ByteArray).length+1
  ·refine(lK' (out:=[]) hi (by rw[da'];exact ac) (by rw[da'];exact bm) aS b D (by simpa using aR) aF h1).mono ?_;rintro F y ⟨rfl,hd⟩;obtain⟨m,aH⟩:=bo;exact⟨4,rfl, .inr ⟨rfl,i' (aT [] y h1 ⟨_,by rw[aH];rfl,by simp⟩ hd)⟩⟩
  ·refine(nF' (out:=[]) hi (by rw[da'];exact ac) (by rw[da'];exact bm) aS b D (by simpa using aR) aF h1).mono ?_;rintro F y ⟨rfl,aU,h2,h3⟩;exact⟨0,rfl, .inl ⟨rfl,[b],sh,aU,aG,by simpa using h2,by simpa using h3⟩⟩
 have aI:=y' aI;clear ac aG bP bo aS;unfold A' at *;go_enter Tryz.func179,Tryz.ntmps179;go_upto_region 3 with (go_at_call 203;refine(i' aI).mono ?_;rintro F y ⟨v0,rfl,bq⟩);have br:=y' bq;clear bq bO aI;go_loopw[8,9,10] (fun v8 _ _ wr=>∃v:Int,v8= .int .i64 v/\((v=0/\∃out,CmG op ct n w wr p a i b c out)\/(v=4/\so' op n w wr p a i b c))) (fun v8 _ _ wr=>if intOf v8=0 then 200 - pT' (wr.cell? ⟨p,2+i * 3,none⟩)else 0)
 case atStart=>exact⟨v0,rfl,i' br⟩
 case round=>
  obtain⟨v,rfl,hrel⟩:=hrel;clear br;rcases hrel with ⟨rfl,hrel⟩|⟨rfl,bt⟩
  ·obtain⟨out,ad,ak,J,aV,aJ⟩:=hrel;obtain⟨c1,G,aW,aX,Q,U⟩:=id aJ;have aY:=lo' a i out;obtain⟨bQ,cap,aZ,ao⟩:=G.ks.logc hi;rw[aY,List.length_append]at aZ ao;have Y:=y' (jS' G.ks);rw[jk' a i hi]at Y;have ap:=y' J;have ba:=y' aJ;have bu:=y' G;have ah:200 - pT' (wr.cell? ⟨p,2+i * 3,none⟩)=200 - ((a.logs i).length+out.length):=by rw[ao];rfl
   by_cases ai:a.count+out.length < 120
   ·rw[decide_eq_true ai]at Y;obtain⟨q,M⟩:∃q,q=(a.logs i).length+out.length+1:=⟨_,rfl⟩;have cv:out.length<=120:=by omega
    have bw:=fun y (Z:Below wr.heap.size wr y)=>y' (dE' y p (2+i * 3) _ cap bQ ((Z.cell (p:=⟨p,2+i * 3,none⟩) (lt_of_block G.ks.blk)).trans ao) (by omega));rw[<-M]at bw;have bR:∃ (z:ByteArray) (H:Bool) (aa:Nat->List (Nat×Value)),(∀y,Below wr.heap.size wr y->Calls Tryz.prog 204 #[.pointer (some ⟨p,2+i * 3+1,none⟩), .int .i64 q] y fun F w'=>F= .returned (.tuple #[.agg #[.string z], .bool H])/\tR' wr w' p a.epoch (grown a i out).logs aa ak c1/\Far (fun k=>k=p\/ShU (c1.nv i) (c1.mv i) k) y w')/\
      ((H=true/\ar' (ad i) (q:Int)=some (du' z)/\aa=fun t=>if t=i then hs' (ad i) q else ad t)\/(H=false/\ar' (ad i) (q:Int)=none/\aa=ad)):=by
     rcases gt' (G.ks.are i hi) (q:Int)with ⟨z,hl⟩|hl
     ·refine⟨z,true,_,?_, .inl ⟨rfl,hl,rfl⟩⟩;intro y Z;have aq:=G.far (C' (E:=fun _=>False) Z) (fun _ _ h=>h);refine(rH' (aq.shAt hi) q z hl).mono ?_;rintro F w' ⟨rfl,V⟩;obtain⟨bS,h1,h2,h3,h4,h5⟩:=tS' aq hi V (fun x bT=>G.ks.are i hi x ((fQ' _ _).subset bT));exact⟨rfl,⟨bS,h1,h2,(C' (E:=PkU p c1) Z).trans h3 (fun _ _ h=>h),h4,h5⟩,V.far⟩
     ·refine⟨⟨#[]⟩,false,_,?_, .inr ⟨rfl,hl,rfl⟩⟩;intro y Z;have aq:=G.far (C' (E:=fun _=>False) Z) (fun _ _ h=>h);refine(rG' (aq.shAt hi) q hl).mono ?_;rintro F w' ⟨rfl,V⟩;exact⟨rfl,⟨c1,aq.far (C' (E:=fun _=>False) V) (fun _ _ h=>h),fun _ h=>h,(C' (E:=PkU p c1) Z).trans (C' V) (fun _ _ h=>h),rfl,rfl⟩,C' V⟩
    have bz:∀k,(k=p\/ShU (c1.nv i) (c1.mv i) k)->k < wr.heap.size:=fun k I=>G.ks.lt k (I.elim .inl (fun h=> .inr (.inr ⟨i,hi,h⟩)));have bA:∀k,PkU p c1 k->k < wr.heap.size:=G.lt;have bB:=(G.ks.shs i hi).sorted;have O:∀k,PkU p c1 k->PkU p c k\/w.heap.size<=k:=aX;have ab:=aW;obtain⟨z,H,aa,bC,bD⟩:=bR;have bb:=y' bC;have bc:=y' bD;have aK:=y' M;have bU:=y' bB;have bV:=y' ah;have au:=y' (And.intro O (And.intro ab (And.intro Q U)));clear aJ G aW aX J aZ ao aY ah bC bD M bB O ab Q U;unfold A' at Y;go_upto_region 4 with (go_at_call 178;refine(i' Y).mono ?_;rintro F y ⟨rfl,rfl⟩);refine mD' (by kernel_rfl)
     [fun v _=>v= .pointer (some ⟨p,2+i * 3,none⟩),fun v _=>v= .pointer (some ⟨p,2+i * 3,none⟩),fun v _=>v= .pointer (some ⟨p,2+i * 3+1,none⟩),fun v _=>v= .pointer (some ⟨p,2+i * 3,none⟩),fun v _=>v= .int .i64 q,fun v r=>v= .tuple #[.agg #[.string z], .bool H]/\tR' y r p a.epoch (grown a i out).logs aa ak c1,fun v _=>v= .tuple #[.agg #[.string z], .bool H],fun v _=>v= .agg #[.string z],fun v _=>v= .bool H,
     fun v r=>∃g x,v= .pointer (some ⟨g,0,none⟩)/\y.heap.size<=g/\r.heap[g]? =some (.cells #[.string x] 224 (0,0)),fun v r=>∃g,v= .pointer (some ⟨g,0,none⟩)/\y.heap.size<=g/\r.heap[g]? =some (.cells #[.string z] 224 (0,0)),fun v _=>v= .bool H]
     [[(7,none)],[(27,some 0)],[(28,some 1)],[(7,none)],[(30,some 3)],[(29,some 2),(31,some 4)],[(32,some 5)],[(26,some 6)],[(26,some 6)],[],[(9,some 9),(33,some 7)],[(34,some 8)]] [27,28,29,30,31,32,26,33,34,9,9,10] [false,false,false,false,false,false,false,false,false,true,true,false,false,false,false,false,false,false,false,false,false,false,false,false,false,false,true,true,true,true,true,true,true,true,true,false,false,false,false,false,false,false,false]
     [(5,fun k=>k=p\/ShU (c1.nv i) (c1.mv i) k),(10,fun k=>y.heap.size<=k)]
     10 oq' or'
     (by kernel_rfl) (by kernel_rfl) (by kernel_rfl) (by kernel_rfl) (by kernel_rfl) (by kernel_rfl) ?_ ?_ ?_ ?_
    ·repeat' (first|exact O' _|exact X'|exact(fun _ u r h D=>⟨h.1,h.2.far bA (C' (E:=fun _=>False) D) (fun _ h=>h.elim)⟩)|exact(fun _ u r h D=>h.imp fun _ h=>h.imp fun _ h=>⟨h.1,h.2.1,(D.block _ (lt_of_block h.2.2)).trans h.2.2⟩)|exact(fun _ u r h D=>h.imp fun _ h=>⟨h.1,h.2.1,(D.block _ (lt_of_block h.2.2)).trans h.2.2⟩)|exact trivial|apply And.intro)
    ·refine⟨?_,?_,trivial⟩
     ·repeat' (first|exact trivial|exact .inl rfl|exact .inr (.inr (dW' (an' _ _)))|exact .inr (.inr (dW' (fun _ u r h hF=>h.imp fun g h=>h.imp fun _ h=>⟨h.1,h.2.1,hF.blk h.2.2 (fun e=>by have:=bz g e;omega)⟩)))|exact .inr (.inr (dW' (fun _ u r h hF=>h.imp fun g h=>⟨h.1,h.2.1,hF.blk h.2.2 (fun e=>by have:=bz g e;omega)⟩)))|apply And.intro)
     ·repeat' (first|exact trivial|exact .inl rfl|exact .inr (.inr (dW' (an' _ _)))|exact .inr (.inr (dW' (fun _ u r h hF=>⟨h.1,h.2.far bA hF (fun _ h=>h)⟩)))|exact .inr (.inr (fun _ u r h _ bW=>h.imp fun g h=>by obtain⟨x,h1,h2,h3⟩:=h;obtain⟨bX,h4⟩:=bW rfl g x h3;exact⟨bX,h1,h2,h4⟩))|apply And.intro)
    ·refine⟨?_,?_,?_,?_,?_,?_,?_,?_,?_,?_,?_,?_,trivial⟩;all_goals
      intro a' r D av;simp only[M',List.getD_cons_zero,List.getD_cons_succ,Array.getD_eq_getD_getElem?]at av;try simp at av
     iterate 4
      ·clear D;go_simp;exact⟨_,rfl,Far.refl _ _,rfl⟩
     ·have ax:Below y.heap.size y r:=D.below (Nat.le_refl _) (by
       rintro k I ⟨bY,ay,g1,g2,az⟩;simp at ay;rcases ay with rfl|rfl
       ·exact absurd (show av' _ 5 4=false from g2) (by decide+kernel)
       ·have az:y.heap.size<=k:=az;omega)
      have be:=y' (i' (bw r ax));clear D ax;go_simp;refine(i' be).mono ?_;rintro F bZ ⟨rfl,rfl⟩;exact⟨_,rfl,Far.refl _ _,rfl⟩
     ·have ax:Below y.heap.size y r:=D.below (Nat.le_refl _) (by
       rintro k I ⟨bY,ay,g1,g2,az⟩;simp at ay;rcases ay with rfl|rfl
       ·exact g1 rfl
       ·have az:y.heap.size<=k:=az;omega)
      have be:=y' ((i' bb) r ax);clear D ax;go_simp;refine(i' be).mono ?_;rintro F bZ ⟨rfl,h1,h2⟩;exact⟨_,rfl,aj' (.head _) h2,⟨rfl,h1⟩⟩
     ·obtain⟨av,_⟩:=av;clear D;go_simp;exact⟨_,rfl,Far.refl _ _,rfl⟩
     iterate 2
      ·clear D;go_simp;exact⟨_,rfl,Far.refl _ _,rfl⟩
     ·have ca:=D.size;clear D;go_simp;exact⟨_,rfl,C' ((Below.refl _ _).alloc (Nat.le_refl _) _),⟨_,rfl,ca,⟨#[]⟩,heap_alloc_new _ _⟩⟩
     ·obtain⟨⟨g,bf,bg,cb,X⟩,cw⟩:=av;clear D;have cx:r.cell? ⟨g,0,none⟩=some (.string cb):=t' (i:=0) X;have cy:r.frozen? ⟨g,0,none⟩=false:=I' (i:=0) X;have cc:=y' (And.intro bg X);clear bg X;have cd:=bf;go_simp;obtain⟨g1,g2⟩:=i' cc;refine⟨aj' (.tail _ (.head _)) ((S' r g 0 (.string z)).mono (fun k _ e=>by rw[e];exact g1)),⟨undef,g,?_,g1,?_⟩,?_⟩
      ·show a'.tmps.getD 9 undef= _;rw[Array.getD_eq_getD_getElem?];exact cd
      ·have:=ah' (j:=0) (v:= .string z) g2;simpa using this
      ·exact pS' r g z
     ·clear D;go_simp;exact⟨_,rfl,Far.refl _ _,rfl⟩
    ·intro f r hF aL;obtain⟨_,V⟩:=aL.2.2.2.2.2.1;obtain⟨g,bf,bg,X⟩:=aL.2.2.2.2.2.2.2.2.2.2.1;have ce:=aL.2.2.2.2.2.2.2.2.2.2.2.1;clear aL hF;simp only[Y',bf,ce];generalize f 26=cz;generalize f 27=cA;generalize f 28=cB;generalize f 29=cC;generalize f 30=cD;generalize f 31=cE;generalize f 32=cF;generalize f 33=cG;generalize f 34=cH;obtain⟨O,ab,Q,U⟩:=i' au;obtain⟨c2,aj,aM,aN,aA,aB⟩:=V;have bh:bn' w r p a.epoch (grown a i out).logs aa ak c:=⟨c2,aj,ab.trans aN (fun k I hu=>(O k hu).elim id (fun h=>by omega)),fun k I=>O k (aM k I),aA.trans Q,aB.trans U⟩;have aO:=y' bh;have cI:r.cell? ⟨g,0,none⟩=some (.string z):=t' (i:=0) X;have bE:=y' aj;have aC:∀k,PkU p c2 k->PkU p c k\/w.heap.size<=k:=fun k I=>O k (aM k I);have aD:=ab.trans aN (fun k I hu=>(O k hu).elim id (fun h=>by omega));have bF:=y' (And.intro aC (And.intro aD (And.intro (aA.trans Q) (aB.trans U))));rcases i' bc with ⟨rfl,hl,aE⟩|⟨rfl,hl,aE⟩
     ·have M:=i' aK;have J:=i' ap;have bG:z.size<=20:=aQ.bod _ ((J.on i hi q z).1 hl).1;rw[M]at hl aE;have aP:=tQ' bn aQ hi J ai (i' bU) hl;rw[<-aE]at aP;obtain⟨bi,bj⟩:=aV;obtain⟨cf,bH⟩:=qJ' aP;have bk:∀logs sh st u,bn' r u p a.epoch logs sh st c2->bn' w u p a.epoch logs sh st c:=by
       rintro logs sh st u ⟨c3,bl,cg,ch,s1,ci⟩;refine⟨c3,bl,aD.trans cg (fun k I hu=>(aC k hu).elim id (fun h=>by omega)),fun k I=>?_,s1.trans (aA.trans Q),ci.trans (aB.trans U)⟩;have cj:=aD.size;rcases ch k I with h|h
       ·exact aC k h
       ·exact .inr (Nat.le_trans cj h)
      have bI:Calls Tryz.prog 203 #[A' p, .int .i64 i, .string z] r fun F u=>∃v:Int,F= .returned (.int .i64 v)/\((v=0/\CmG op ct n w u p a i b c (out++[z]))\/(v=4/\so' op n w u p a i b c)):=by
       by_cases h1:n=out.length+1
       ·refine(lK' (out:=out) hi aj bi bj z bG ai aF h1).mono ?_;rintro F u ⟨rfl,bJ,bK,hd1,ck⟩;exact⟨4,rfl, .inr ⟨rfl,i' (aT out u h1 ⟨z::cf,by rw[bH];simp,by simp⟩ ⟨bJ,bK,bk _ _ _ _ hd1,ck⟩)⟩⟩
       ·refine(nF' (out:=out) hi aj bi bj z bG ai aF h1).mono ?_;rintro F u ⟨rfl,aU,h2,h3⟩;exact⟨0,rfl, .inl ⟨rfl,aa,aU,aP,h2,bk _ _ _ _ h3⟩⟩
      have bL:=y' bI;unfold A' at bL;clear hl aE M J aP bh aj aM aN aC aD O ab Q U aA aB X bb bc aK ap ba bu au aO bk bI bi bj bH bF bE;go_wp2_with (go_at_call 203;refine(i' bL).mono ?_;rintro F u ⟨v,rfl,H⟩;replace H:=y' H);have ah:=i' bV;go_roundw
      case rel=>
       rcases i' H with ⟨rfl,h⟩|⟨rfl,h⟩
       ·exact⟨0,rfl, .inl ⟨rfl,_,h⟩⟩
       ·exact⟨4,rfl, .inr ⟨rfl,h⟩⟩
      case measure=>
       rcases i' H with ⟨rfl,bJ,bK,_,_,c3,bl,_⟩|⟨rfl,h⟩
       ·obtain⟨cJ,cK,_,cl⟩:=bl.ks.logc hi;rw[ah,cl];show(if(0:Int)=0 then 200 - ((grown a i (out++[z])).logs i).length else 0) < (if(0:Int)=0 then _ else 0);rw[if_pos rfl,if_pos rfl,lo',List.length_append,List.length_append,List.length_singleton];have cm:=jd' (a:=a) hi;omega
       ·rw[ah];show(if(4:Int)=0 then _ else 0) < (if(0:Int)=0 then _ else 0);rw[if_neg (by omega),if_pos rfl];have cm:=jd' (a:=a) hi;omega
     ·have M:=i' aK;have J:=i' ap;rw[M]at hl;have cn:=y' (nl' hi J (.inr hl));subst aE;clear hl M J bh aj aM aN aC aD O ab Q U aA aB X bb bc aK ba bu au bF bE;go_wp2;go_ret;exact .inl ⟨rfl,out,⟨_,ak,i' ap,aV,i' aO⟩,i' cn⟩
   ·rw[decide_eq_false ai]at Y;have aO:=y' (nl' hi J (.inl ai));clear aJ G aW aX J aZ ao aY ah;unfold A' at Y;go_wp2_with (go_at_call 178;refine(i' Y).mono ?_;rintro F y ⟨rfl,rfl⟩);go_ret;exact .inl ⟨rfl,out,⟨ad,ak,i' ap,aV,i' ba⟩,i' aO⟩
  ·have au:=y' bt;clear bt aT;go_wp2;go_ret;exact .inr ⟨rfl,i' au⟩
def bP' (op ct n:Nat) (w x:World) (p:Nat) (a:Mod.Sk) (c:Sv):Prop:=∃sh st,bn' w x p a.epoch a.logs sh st c/\Alv op ct n st a.epoch a.logs/\dn' a.held sh
theorem bP'.behind {op ct n:Nat} {w x y:World} {p:Nat} {a:Mod.Sk} {c:Sv} (h:bP' op ct n x y p a c) (r:Below w.heap.size w x):bP' op ct n w y p a c:=by
 obtain⟨sh,st,⟨z,K,D,N,s1,F⟩,hs,G⟩:=h;exact⟨sh,st,⟨z,K,(C' (E:=PkU p c) r).trans D (fun _ _ h=>h),fun k H=>(N k H).imp id (fun h=>Nat.le_trans r.size h),s1,F⟩,hs,G⟩
theorem bP'.below {op ct n:Nat} {w x y:World} {p:Nat} {a:Mod.Sk} {c:Sv} (h:bP' op ct n w x p a c) (r:Below x.heap.size x y):bP' op ct n w y p a c:=by
 obtain⟨sh,st,h,hs,z⟩:=h;exact⟨sh,st,h.below r,hs,z⟩
theorem de' {op ct n:Nat} {w:World} {p:Nat} {a:Mod.Sk} {sh:Nat->List (Nat×Value)} {st:Mod.Stv} {c:Sv} (r:aN' w p a.epoch a.logs sh st c) (hs:Alv op ct n st a.epoch a.logs) (z:dn' a.held sh):bP' op ct n w w p a c:=⟨sh,st,pH' r,hs,z⟩
theorem bC'.behind {op:Nat} {w x y:World} {p e:Nat} {logs:Nat->List ByteArray} {c:Sv} (h:bC' op x y p e logs c) (r:Below w.heap.size w x):bC' op w y p e logs c:=by
 obtain⟨sh,st,⟨z,K,D,N,s1,F⟩,hs⟩:=h;exact⟨sh,st,⟨z,K,(C' (E:=PkU p c) r).trans D (fun _ _ h=>h),fun k G=>(N k G).imp id (fun h=>Nat.le_trans r.size h),s1,F⟩,hs⟩
def lM' (op ct n:Nat) (w x:World) (p:Nat) (a a':Mod.Sk) (i:Nat) (r:List ByteArray) (k:Nat) (c:Sv) (v:Int):Prop:=
 (v=0/\(n=0\/k < n)/\bP' op (ct+k) (n - k) w x p a' c)\/(v=4/\1<=n/\n<=k/\bC' op w x p a.epoch (grown a i (r.take (n - 1))).logs c)
theorem df' {op ct n:Nat} {w x:World} {p:Nat} {a a':Mod.Sk} {i:Nat} {r:List ByteArray} {c:Sv} (h:bP' op ct n w x p a' c):lM' op ct n w x p a a' i r 0 c 0:= .inl ⟨rfl,by omega,h⟩
theorem lM'.behind {op ct n:Nat} {w x y:World} {p:Nat} {a a':Mod.Sk} {i:Nat} {r:List ByteArray} {k:Nat} {c:Sv} {v:Int} (h:lM' op ct n x y p a a' i r k c v) (z:Below w.heap.size w x):lM' op ct n w y p a a' i r k c v:=by
 rcases h with ⟨h1,h2,h3⟩|⟨h1,h2,h3,h4⟩
 ·exact .inl ⟨h1,h2,h3.behind z⟩
 ·exact .inr ⟨h1,h2,h3,h4.behind z⟩
theorem qK' {op ct n:Nat} {w:World} {p:Nat} {a:Mod.Sk} {sh:Nat->List (Nat×Value)} {st:Mod.Stv} {c:Sv} (Z:aN' w p a.epoch a.logs sh st c) (hs:Alv op ct n st a.epoch a.logs) (bm:ct+1000 < 18446744073709551616) (aP:aw' a) (bn:aR' a) (aj:dn' a.held sh) (e:Int) (i q:Nat) (hi:i < 3) (bQ:q<=2147483647) (b:ByteArray) (Q:b.size<=20):
  Calls Tryz.prog 135 #[A' p, .agg #[.int .i64 3, .int .i64 e, .int .i64 i, .int .i64 q, .string b]] w fun V w'=>∃v,V= .returned (.int .i64 v)/\lM' op ct n w w' p a (ak' a 3 a.epoch i q b) i (a.commits 3 a.epoch i q b) (a.commits 3 a.epoch i q b).length c v:=by
 have bo:=lt_of_block Z.ks.blk;obtain⟨bp,cap,bq,aQ⟩:=Z.ks.logc hi;have br:=Z.ks.loglen hi;obtain⟨av,aD⟩:∃av,av=(a.logs i).length+1:=⟨_,rfl⟩;obtain⟨d,hd⟩:∃d:Int,d=(q:Int) - (av:Int):=⟨_,rfl⟩;have bR:IntKind.i64.wrap ((q:Int) - (av:Int))=d:=by rw[IntKind.wrap_i64];omega
 have aE:=fun y (M:Below w.heap.size w y)=>y' (dE' y p (2+i * 3) _ cap bp ((M.cell (p:=⟨p,2+i * 3,none⟩) bo).trans aQ) (by omega));rw[<-aD]at aE;have aF:=fun y (M:Below w.heap.size w y)=>y' (jS' (Z.ks.far (C' (E:=fun _=>False) M) (fun _ _ h=>h)));have aR:=fun y (M:Below w.heap.size w y)=>y' (Z.far (C' (E:=fun _=>False) M) (fun _ _ h=>h));obtain⟨room,aG⟩:∃room,room=decide ((a.logs 0).length+(a.logs 1).length+(a.logs 2).length < 120):=⟨_,rfl⟩;rw[<-aG]at aF;have bS:(0:Int)<=(i:Int):=by omega
 have bT:(i:Int) < 3:=by omega
 have aa:=y' (And.intro aD (And.intro hd (And.intro aG br)));have bU:=y' Z;have aS:=y' (cK' w #[.int .i64 3, .int .i64 e, .int .i64 i, .int .i64 q, .string b]);clear Z bq aQ aD hd aG;unfold A' at *;go_enter Tryz.func135,Tryz.ntmps135;go_upto_region 1 with fail;refine H' (bg' w #[.int .i64 3, .int .i64 e, .int .i64 i, .int .i64 q, .string b]) (i' aS) ?_;clear aS;intro x z;have ak:=t' (i:=2) z.box;have J:=t' (i:=3) z.box;simp at ak J;have bt:=z.bel;have D:=y' z;clear z;go_quiet (fail);go_upto_region 2 with fail;refine H' (bg' w #[.int .i64 3, .int .i64 e, .int .i64 i, .int .i64 q, .string b]) ((i' D).drewN _) ?_;clear D ak J bt;intro bu z;have J:=t' (i:=3) z.box;simp at J;have aT:=fun n=>y' (i' (aE (bu.drewN n) (z.drewN n).bel));have D:=y' z;clear z aE;go_quiet (first|(go_at_call 130;exact Calls.quiet_of_same (i' (aT _))));go_upto_region 3 with fail;refine H' (bg' w #[.int .i64 3, .int .i64 e, .int .i64 i, .int .i64 q, .string b]) (by first|exact i' D|exact(i' D).drewN _|exact(i' D).drew|exact(i' D).drew.drew) ?_;clear D J aT;intro O z;have ak:=t' (i:=2) z.box;have J:=t' (i:=3) z.box;have ax:=t' (i:=4) z.box;simp at ak J ax;have ay:=y' (i' (aF O z.bel));have r:=i' (aR O z.bel);have D:=y' z;clear z aF aR;have az:=y' ((de' r hs aj).behind (i' D).bel);by_cases hd0:d=0
 ·have aU:q=(a.logs i).length+1:=by obtain⟨h1,h2,_⟩:=i' aa;omega
  have aV:=y' aU;clear aU;subst hd0;cases ad:room
  ·have ab:¬ (q=(a.logs i).length+1/\a.count < 120):=by have h:=(i' aa).2.2.1;rw[ad]at h;have h:=of_decide_eq_false h.symm;exact fun bw=>h bw.2
   have ah:=y' (eB' (b:=b) ab);have aW:ak' a 3 a.epoch i q b=a:=by rw[fe' ab,bA',if_neg (fun h=>by have:=i' aV;omega)]
   rw[ad]at ay;have ao:=y' aW;clear r ab aW ad;go_upto_region 5 with (go_at_call 178;refine(i' ay).mono ?_;rintro V y ⟨rfl,rfl⟩);go_quiet (fail);go_wp2;go_ret;exact⟨0,rfl,by rw[i' ao,i' ah];exact df' ((i' az).below (below_drewN (Below.refl _ _) _))⟩
  ·have aH:a.count < 120:=by have h:=(i' aa).2.2.1;rw[ad]at h;exact of_decide_eq_true h.symm
   have aX:=y' (lL' r hs bm aP bn aj i hi b Q aH);rw[ad]at ay;have aY:=y' aH;have aA:Calls Tryz.prog 179 #[A' p, .int .i64 i, .string b] O fun V w'=>∃v:Int,V= .returned (.int .i64 v)/\lM' op ct n O w' p a (bB' a i (a.commitFrom i ((a.logs i).length+1) a.count 120 [b])) i (a.commitFrom i ((a.logs i).length+1) a.count 120 [b]) (a.commitFrom i ((a.logs i).length+1) a.count 120 [b]).length c v:=by
    refine(i' aX).mono ?_;rintro V y (⟨rfl,out,⟨bz,bA,bB,aZ,bC⟩,bD⟩|⟨rfl,h1,h2,h3⟩)
    ·rw[<-bD];exact⟨0,rfl, .inl ⟨rfl,aZ.2,bz,bA,bC,aZ.1,wv' bB⟩⟩
    ·exact⟨4,rfl, .inr ⟨rfl,h1,h2,h3⟩⟩
   have aA:=y' aA;clear aX;unfold A' at aA;clear r ad aH;go_wp2_with (first|(go_at_call 178;refine(i' ay).mono ?_;rintro V y ⟨rfl,rfl⟩)|(go_at_call 179;refine(i' aA).mono ?_;rintro V y ⟨v,rfl,aI⟩;replace aI:=y' aI));go_ret;refine⟨v,rfl,?_⟩;rw[i' aV,in' (i' aY),im' (i' aY)];exact(i' aI).behind (i' D).bel
 ·have bV:(d==0)=false:=by simpa using hd0
  have ab:¬ (q=(a.logs i).length+1/\a.count < 120):=fun h=>by obtain⟨h1,h2,_⟩:=i' aa;omega
  have X:=fe' (b:=b) ab;have ah:=y' (eB' (b:=b) ab);clear ab;by_cases h1:1<=d
  ·by_cases h3:d<=3
   ·have ai:=y' (lc' r.ks.blk (r.ks.am i hi) (r.ks.shs i hi) (r.ks.are i hi) (q:Int));have aJ:=(r.ks.shs i hi).sorted;have I:=sZ' aj r.ks.are hi q;have ba:=rQ' aP aj r.ks.are hi aJ;obtain⟨ac,aK⟩:∃ac,ac=(ar' (sh i) (q:Int)).isSome:=⟨_,rfl⟩;have ai:=fun y (M:Below O.heap.size O y)=>y' (lc' (r.far (C' (E:=fun _=>False) M) (fun _ _ h=>h)).ks.blk (r.ks.am i hi) ((r.far (C' (E:=fun _=>False) M) (fun _ _ h=>h)).ks.shs i hi) (r.ks.are i hi) (q:Int));rw[<-aK]at ai I;have ap:=fun Y (bE:Below O.heap.size O Y)=>y' (vf' ((r.far (C' (E:=fun _=>False) bE) (fun _ _ h=>h)).shAt hi) ba q b);have aB:=(i' D).lt;have bF:=y' r;have aL:=y' (And.intro aJ (And.intro I aK));have bb:=y' X;clear r aK I aJ ba X;go_upto_region 5 with fail;refine cz' (by kernel_rfl)
     [fun v _=>v= .int .i64 d,fun v _=>v= .bool true,fun v _=>v= .bool true,fun v _=>v= .int .i64 d,fun v _=>v= .bool true,fun v _=>v= .bool true,fun v _=>v= .bool true,
      fun v _=>v= .pointer (some ⟨p,2+i * 3,none⟩),fun v _=>v= .pointer (some ⟨p,2+i * 3,none⟩),fun v _=>v= .pointer (some ⟨p,2+i * 3+1,none⟩),fun v _=>v= .pointer (some ⟨w.heap.size,3,none⟩),fun v _=>v= .int .i64 q,fun v _=>v= .bool ac,fun v _=>v= .bool (!ac),fun v _=>v= .bool (!ac),fun v _=>v= .bool (!ac)]
     [[(6,none)],[(32,some 0)],[(33,some 1)],[(6,none),(34,some 2)],[(35,some 3),(34,some 2)],[(34,some 2),(36,some 4)],[(37,some 5)],[(5,none),(38,some 6)],[(39,some 7),(38,some 6)],[(40,some 8),(38,some 6)],[(3,none),(38,some 6)],[(42,some 10),(38,some 6)],[(41,some 9),(43,some 11),(38,some 6)],[(44,some 12),(38,some 6)],[(38,some 6),(45,some 13)],[(46,some 14)]] [some 32,some 33,some 34,some 35,some 36,some 37,some 38,some 39,some 40,some 41,some 42,some 43,some 44,some 45,some 46,some 31] [false,false,false,false,false,false,false,false,false,false,false,false,false,false,false,false,false,false,false,false,false,false,false,false,false,false,false,false,false,false,false,true,true,true,true,true,true,true,true,true,true,true,true,true,true,true,true,false,false,false,false,false,false,false,false,false]
     (by kernel_rfl) (by kernel_rfl) (by kernel_rfl) (by kernel_rfl) ?_ ?_ ?_
    ·repeat' (first|exact O' _|exact trivial|apply And.intro)
    ·refine⟨?_,?_,?_,?_,?_,?_,?_,?_,?_,?_,?_,?_,?_,?_,?_,?_,trivial⟩;all_goals
      intro a' Y F G;have z3:=(F.cell (p:=⟨w.heap.size,3,none⟩) aB).trans J;have bc:=y' (i' (ai Y F));clear F ai ap;simp only[M',List.getD_cons_zero,List.getD_cons_succ,Array.getD_eq_getD_getElem?]at G;try simp at G
      try (have bG:a'.tmps[34]? =some (.bool true):=eL' (by first|exact G|exact G.1|exact G.2|exact G.2.2))
      try (have bH:a'.tmps[38]? =some (.bool true):=eL' (by first|exact G|exact G.1|exact G.2|exact G.2.2))
      try go_simp
      try simp only[bG,if_true]
      try simp only[bH,if_true]
      try go_simp
      try exact Below.refl _ _
     all_goals first
      |exact⟨rfl,Below.refl _ _⟩
      |exact⟨_,rfl,Below.refl _ _,rfl⟩
      |(refine(i' bc).mono ?_;rintro e bI ⟨rfl,Q⟩;exact⟨rfl,Q⟩)
      |(refine(i' bc).mono ?_;rintro e bI ⟨rfl,Q⟩;exact⟨_,rfl,Q,rfl⟩)
      |skip
    ·intro f Y F U;simp only[af']at U;have bJ:=U.2.2.2.2.2.2.2.2.2.2.2.2.2.2.2.1;clear U;simp only[Y',bJ];generalize f 32=bW;generalize f 33=bX;generalize f 34=bY;generalize f 35=bZ;generalize f 36=ca;generalize f 37=cb;generalize f 38=cc;generalize f 39=cd;generalize f 40=ce;generalize f 41=cf;generalize f 42=cg;generalize f 43=ch;generalize f 44=ci;generalize f 45=cj;generalize f 46=ck;have z3:=(F.cell (p:=⟨w.heap.size,3,none⟩) aB).trans J;have z4:=(F.cell (p:=⟨w.heap.size,4,none⟩) aB).trans ax;have aq:=y' F;have be:=i' (ap Y F);cases ac
     ·have H:bA' a i q b={a with held:=a.held++[(i,q,b)]}:=by obtain⟨bf,bg,_⟩:=i' aa;have I:=(i' aL).2.1;rw[bA',if_pos ⟨by omega,by omega,by cases h:a.ix i q with|none=>rfl|some v=>rw[h]at I;cases I⟩]
      have aC:a.ix i q=none:=by have I:=(i' aL).2.1;cases h:a.ix i q with|none=>rfl|some v=>rw[h]at I;cases I
      have aM:=y' (And.intro H aC);have bh:=fun y (M:Below Y.heap.size Y y)=>y' (i' (ap y (F.trans (M.mono F.size))));simp only[du']at bh;have bi:w.heap.size < Y.heap.size:=Nat.lt_of_lt_of_le aB F.size;clear F be H aC ai ap ak J ax;go_upto_region 6 with fail;refine ag' (by kernel_rfl)
       [fun v _=>v= .pointer (some ⟨p,2+i * 3,none⟩),fun v _=>v= .pointer (some ⟨p,2+i * 3,none⟩),fun v _=>v= .pointer (some ⟨p,2+i * 3+1,none⟩),fun v _=>v= .pointer (some ⟨w.heap.size,3,none⟩),fun v _=>v= .int .i64 q,fun v _=>v= .pointer (some ⟨w.heap.size,4,none⟩),fun v _=>v= .string b,fun v _=>v= .agg #[.string b],fun _ _=>True]
       [[(5,none)],[(47,some 0)],[(48,some 1)],[(3,none)],[(50,some 3)],[(3,none)],[(52,some 5)],[(53,some 6)],[(49,some 2),(51,some 4),(54,some 7)]] [some 47,some 48,some 49,some 50,some 51,some 52,some 53,some 54,some 55] [false,false,false,false,false,false,false,false,false,false,false,false,false,false,false,false,false,false,false,false,false,false,false,false,false,false,false,false,false,false,false,false,false,false,false,false,false,false,false,false,false,false,false,false,false,false,false,true,true,true,true,true,true,true,true,true]
       8 _ rfl rfl (by kernel_rfl) (by kernel_rfl) (by kernel_rfl) (by kernel_rfl) (by kernel_rfl) (by kernel_rfl) ?_ ?_ ?_
      ·repeat' (first|exact O' _|exact X'|exact trivial|apply And.intro)
      ·refine⟨?_,?_,?_,?_,?_,?_,?_,?_,trivial⟩;all_goals
        intro a' y Q G;have J:=(Q.cell (p:=⟨w.heap.size,3,none⟩) bi).trans z3;have ax:=(Q.cell (p:=⟨w.heap.size,4,none⟩) bi).trans z4;clear Q;simp only[M',List.getD_cons_zero,List.getD_cons_succ,Array.getD_eq_getD_getElem?]at G;try simp at G
        go_simp;try exact⟨_,rfl,Below.refl _ _,rfl⟩
        try exact Below.refl _ _
      ·intro au y aN U;simp only[af',List.take]at U;have g2:=U.2.2.1;have bK:=U.2.2.2.2.1;have bL:=U.2.2.2.2.2.2.2.1;clear U;have bM:=y' (i' (bh y aN));have bj:=y' aN;clear aN;simp only[Y',g2,bK,bL];generalize au 47=cl;generalize au 48=cm;generalize au 50=cn;generalize au 52=co;generalize au 53=cp;go_simp;refine(i' bM).mono ?_;rintro V u ⟨rfl,bk⟩;have bN:=y' bk;clear bk;go_wp2;go_ret;refine⟨0,rfl,?_⟩;obtain⟨H,aC⟩:=i' aM;rw[i' bb,H,i' ah];have bO:Below w.heap.size w y:=(i' D).bel.trans (((i' aq).trans ((i' bj).mono (i' aq).size)).mono (i' D).bel.size);have bP:Below O.heap.size O y:=(i' aq).trans ((i' bj).mono (i' aq).size);have bl:=(i' bF).far (C' (E:=fun _=>False) bP) (fun _ _ h=>h);refine df' (bP'.behind ⟨_,st,nm' bl hi (i' bN) ?_,hs,tX' aj i q b hi aC⟩ bO);intro x aO;rcases ic' aO with rfl|aO
       ·exact⟨b,rfl⟩
       ·exact bl.ks.are i hi x aO
     ·have H:bA' a i q b=a:=by have I:=(i' aL).2.1;rw[bA',if_neg (fun h=>by rw[h.2.2]at I;cases I)]
      have aM:=y' H;clear F be H ai ap;go_wp2;go_ret;exact⟨0,rfl,by rw[i' bb,i' aM,i' ah];exact df' ((i' az).below (i' aq))⟩
   ·have H:bA' a i q b=a:=by obtain⟨bf,bg,_⟩:=i' aa;rw[bA',if_neg (fun h=>by omega)]
    rw[H]at X;have ao:=y' X;clear r H X;go_upto_region 5 with fail;go_quiet (fail);go_wp2;go_ret;exact⟨0,rfl,by rw[i' ao,i' ah];exact df' ((i' az).below (below_drewN (Below.refl _ _) _))⟩
  ·have H:bA' a i q b=a:=by obtain⟨bf,bg,_⟩:=i' aa;rw[bA',if_neg (fun h=>by omega)]
   rw[H]at X;have ao:=y' X;clear r H X;go_upto_region 5 with fail;go_quiet (fail);go_wp2;go_ret;exact⟨0,rfl,by rw[i' ao,i' ah];exact df' ((i' az).below (below_drewN (Below.refl _ _) _))⟩
def hiW (a:Mod.Sk) (e:Nat):Nat:=if a.epoch < e then 1 else 0
theorem nG' {op ct n:Nat} {w:World} {p:Nat} {a:Mod.Sk} {sh:Nat->List (Nat×Value)} {st:Mod.Stv} {c:Sv} (D:aN' w p a.epoch a.logs sh st c) (hs:Alv op ct n st a.epoch a.logs) (bj:ct+1000 < 18446744073709551616) (aM:dn' a.held sh) (e:Nat) (bk:a.epoch<=e) (av:e<=2147483647):
  Calls Tryz.prog 132 #[A' p, .int .i64 e] w fun Y w'=>∃v,Y= .returned (.int .i64 v)/\lM' op ct n w w' p a (bc' a e) 0 [] (hiW a e) c v:=by
 have c1:w.cell? ⟨p,1,none⟩=some (.int .i64 a.epoch):=by rw[t' D.ks.blk,D.ks.a1]
 by_cases aN:e=a.epoch
 ·subst aN;have aO:=y' (de' D hs aM);rw[os',show hiW a a.epoch=0 by unfold hiW;rw[if_neg (by omega)]];have F:((a.epoch:Int) == (a.epoch:Int))=true:=by simp
  clear D;unfold A';go_enter Tryz.func132,Tryz.ntmps132;go_wp2;go_ret;exact⟨0,rfl,df' (i' aO)⟩
 rw[show hiW a e=1 by unfold hiW;rw[if_pos (by omega)]];obtain⟨M,Z⟩:∃M,M=(st.putNumbers e 0 0).1:=⟨_,rfl⟩;have ax:bc' a e={a with epoch:=e,held:=[]}:=by unfold bc' dI';rw[if_pos (by omega)]
 rw[ax];have ay:=fun y (aP:cM' y c.s c.dp st c.dlv c.duv)=>y' (cm' y c.s c.dp st c.dlv c.duv aP e 0 0 (by omega) (by omega) (by omega));obtain⟨z,J⟩:∃z,z=(st.putNumbers e 0 0).2:=⟨_,rfl⟩;rw[<-Z,<-J]at ay;have az:(n≠1/\M=0/\Alv op (ct+1) (n - 1) z e a.logs)\/(n=1/\M=4/\Ded op z a.epoch a.logs):=by
  by_cases h1:n=1
  ·subst h1;have:=wL' hs e 0 0;rw[<-Z,<-J]at this;exact .inr ⟨rfl,this⟩
  ·have:=wK' hs (by omega) h1 av;rw[<-Z,<-J]at this;exact .inl ⟨h1,this⟩
 have aQ:z.dk.bytes.length=7808:=by
  rw[J];unfold Mod.Stv.putNumbers Mod.Dk.put;simp only
  split
  ·exact D.len
  ·split
   ·exact D.len
   ·simp only
    have:=D.stt.hd;rw[Mod.length_setSec (Mod.length_sealB _ _ (by rw[Mod.length_headIn];omega)) (by rw[D.len];omega)];exact D.len
 have aR:((e:Int) == (a.epoch:Int))=false:=by simp;omega
 have bl:=lt_of_block D.ks.blk;have I:=y' D;have aS:=fun y=>y' (gG' e y);have ad:=y' az;obtain⟨ep,ah⟩:∃ep,ep=a.epoch:=⟨_,rfl⟩;have aA:=y' ah;rw[<-ah]at c1 aR I;clear D J Z az ax ah;unfold A' at *;go_enter Tryz.func132,Tryz.ntmps132;go_upto_region 3 with fail;refine Z' (by kernel_rfl)
  [fun v _=>v= .pointer (some ⟨p,0,none⟩),fun v _=>v= .pointer (some ⟨p,0,none⟩),fun v _=>v= .pointer (some ⟨p,0,none⟩),fun v _=>v= .pointer (some ⟨c.s,0,none⟩),fun v _=>v= .int .i64 e,fun v _=>v= .agg #[.int .i64 e, .int .i64 0, .int .i64 0],
   fun v y=>v= .int .i64 M/\∃O,cM' y c.s c.dp z c.dlv O/\Loc w c.duv O,fun v _=>v= .int .i64 M]
  [[(0,none)],[(13,some 0)],[(14,some 1)],[(15,some 2)],[(1,none)],[(17,some 4)],[(16,some 3),(18,some 5)],[(19,some 6)]] [some 13,some 14,some 15,some 16,some 17,some 18,some 19,some 5] [false,false,false,false,false,true,false,false,false,false,false,false,false,true,true,true,true,true,true,true,false,false,false,false,false,false,false,false,false,false,false,false,false,false,false,false,false,false]
  [(6,StU c.s c.dp c.dlv c.duv)]
  (by kernel_rfl) (by kernel_rfl) (by kernel_rfl) (by kernel_rfl) (by kernel_rfl) ?_ ?_ ?_ ?_
 ·repeat' (first|exact O' _|exact(fun _ _ _ h F=>⟨h.1,h.2.imp fun _ h=>⟨h.1.far (C' (E:=fun _=>False) F) (fun _ _ h=>h),h.2⟩⟩)|exact trivial|apply And.intro)
 ·repeat' (first|exact trivial|exact .inl rfl|exact .inr (.inr (an' _ _))|apply And.intro)
 ·refine⟨?_,?_,?_,?_,?_,?_,?_,?_,trivial⟩;all_goals
   intro a' G F aa;simp only[M',List.getD_cons_zero,List.getD_cons_succ,Array.getD_eq_getD_getElem?]at aa;try simp at aa
  iterate 3
   ·clear F;go_simp;exact⟨_,rfl,Far.refl _ _,rfl⟩
  ·have z0:G.cell? ⟨p,0,none⟩=some (.pointer (some ⟨c.s,0,none⟩)):=by have:=F.blk (i' I).ks.blk (ae' (by intro q H;simp at H;subst H;exact fun h=>(i' I).sep p (.inl rfl) h));rw[t' this,(i' I).ks.a0];rfl
   clear F;go_simp;exact⟨_,rfl,Far.refl _ _,rfl⟩
  ·clear F;go_simp;exact⟨_,rfl,Far.refl _ _,rfl⟩
  ·have ai:=y' (i' (aS G));clear F;go_simp;refine(i' ai).mono ?_;rintro Y aT ⟨rfl,aU⟩;exact⟨_,rfl,C' aU,rfl⟩
  ·have aj:Below w.heap.size w G:=F.below (Nat.le_refl _) (by rintro j _ ⟨q,H,g1,g2,bm⟩;simp at H;subst H;exact g1 rfl);have ai:=y' (i' (ay G ((i' I).stt.far (C' (E:=fun _=>False) aj) (fun _ _ h=>h))));have aV:=aj.size;clear F aj;go_simp;refine(i' ai).mono ?_;rintro Y aT ⟨rfl,O,k1,k2,k3⟩;exact⟨_,rfl,aj' (.head _) k3,rfl,O,k1,bH' k2 aV⟩
  ·clear F;obtain⟨aa,_⟩:=aa;go_simp;exact⟨_,rfl,Far.refl _ _,rfl⟩
 ·intro f G hF ak;obtain⟨_,O,k1,k2⟩:=ak.2.2.2.2.2.2.1;have aW:=ak.2.2.2.2.2.2.2.1;have hF:Far (StU c.s c.dp c.dlv c.duv) w G:=hF.mono (fun k _ h=>by obtain⟨q,H,h⟩:=h;simp at H;subst H;exact h);have Q:aN' G p ep a.logs sh z {c with duv:=O}:=⟨(i' I).ks.far hF (fun k r h=>(i' I).sep k r h),k1,(i' I).rl.far hF (fun g ao h=>((i' I).sepr g ao).2 h),aQ⟩;have aB:bn' w G p ep a.logs sh z c:=by
   refine⟨_,Q,hF.mono (fun k _ h=> .inr (.inl h)),?_,rfl,rfl⟩;have bn:=hF.size;rintro k (r|(rfl|rfl|r|r)|r)
   ·exact .inl (.inl r)
   ·exact .inl (.inr (.inl (.inl rfl)))
   ·exact .inl (.inr (.inl (.inr (.inl rfl))))
   ·exact .inl (.inr (.inl (.inr (.inr (.inl r)))))
   ·rcases k2 with h|h|⟨g,h,ao⟩
    ·rw[h]at r;cases r
    ·exact .inl (.inr (.inl (.inr (.inr (.inr (by rw[<-h];exact r))))))
    ·rw[h]at r;cases r;exact .inr ao
   ·exact .inl (.inr (.inr r))
  have ap:=y' aB;have aC:G.frozen? ⟨p,1,none⟩=false:=I' (i:=1) Q.ks.blk;have aD:G.cell? ⟨p,1,none⟩=some (.int .i64 ep):=by rw[t' Q.ks.blk];exact Q.ks.a1
  clear ak hF k1 k2 Q aB;simp only[Y',aW];generalize f 13=bo;generalize f 14=bp;generalize f 15=bq;generalize f 16=br;generalize f 17=bt;generalize f 18=bu;generalize f 19=bw;rcases i' ad with ⟨U,rfl,aE⟩|⟨U,rfl,aF⟩;rotate_left
  ·have aq:=y' (And.intro U aF);clear U aF ad aC aD;go_wp2;go_ret;refine⟨4,rfl, .inr ⟨rfl,by rw[(i' aq).1];omega,by rw[(i' aq).1];omega,?_⟩⟩;rw[List.take_nil,da',<-i' aA];exact⟨sh,z,i' ap,by rw[i' aA];exact(i' aq).2⟩
  have aG:=y' (And.intro U aE);have aH:=y' ((i' ap).trans (fun bz aX=>tZ' aX e av));clear U aE ad ap;go_upto_region 7 with fail;refine H' (fun y=>bn' w y p e a.logs sh z c) (i' aH) ?_;clear aH aC aD;intro y aI;have aJ:=y' aI;clear aI;go_wp2;go_loopw[6,27] (fun _ i wr=>∃j:Nat,j<=3/\i= .int .i64 j/\bn' w wr p e a.logs (fun t=>if t < j then []else sh t) z c) (fun _ i _=>3 - (intOf i).toNat)
  case atStart=>exact⟨0,by omega,rfl,by simpa using i' aJ⟩
  case round=>
   obtain⟨j,hj,rfl,r⟩:=hrel;clear aJ;by_cases aK:j < 3
   ·obtain⟨bA,au,V,X,ab,ac⟩:=id r;have aY:=y' (rE' (au.shAt aK));have bB:(0:Int)<=(j:Int):=by omega
    have bC:(j:Int) < 3:=by omega
    have bD:=y' r;have aZ:=y' au;have ba:=y' (And.intro V (And.intro X (And.intro ab ac)));clear r au V X ab ac;go_wp2_with (go_at_call 177;refine(i' aY).mono ?_;rintro Y y ⟨rfl,J⟩);have H:=nm' (i' aZ) aK J (by intro x bb;cases bb);obtain⟨V,X,ab,ac⟩:=i' ba;have h2:bn' w y p e a.logs (fun t=>if t < j+1 then []else sh t) z c:=by
     obtain⟨c2,aL,bc,be,bf,bg⟩:=H;have bh:=V.size;have bi:(fun t=>if t=j then([]:List (Nat×Value))else(fun t=>if t < j then []else sh t) t)=fun t=>if t < j+1 then []else sh t:=by
      funext t;by_cases h1:t=j
      ·simp[h1]
      ·by_cases h2:t < j
       ·simp[h1,h2,show t < j+1 by omega]
       ·simp[h1,h2,show ¬t < j+1 by omega]
     rw[bi]at aL;refine⟨c2,aL,V.trans bc (fun k r hu=>(X k hu).elim id (fun h=>by omega)),fun k r=>?_,bf.trans ab,bg.trans ac⟩;rcases be k r with h|h
     ·exact X k h
     ·exact .inr (Nat.le_trans bh h)
    exact⟨⟨j+1,by omega,by go_num,h2⟩,by simp[intOf];omega⟩
   ·obtain rfl:j=3:=by omega
    go_wp2;go_ret;exact⟨0,rfl, .inl ⟨rfl,by have:=(i' aG).1;omega,_,z,r,(i' aG).2,ot'⟩⟩
section
variable {op ct n:Nat} {w:World} {p:Nat} {a:Mod.Sk} {sh:Nat->List (Nat×Value)} {st:Mod.Stv} {c:Sv}
theorem wM' (z:aN' w p a.epoch a.logs sh st c) (hs:Alv op ct n st a.epoch a.logs) (D:ct+1000 < 18446744073709551616) (F:aw' a) (G:aR' a) (H:dn' a.held sh) (e:Int) (i q:Nat) (hi:i < 3) (I:q<=2147483647) (b:ByteArray) (J:b.size<=20) (M:n=0\/(a.commits 3 a.epoch i q b).length < n):
  Calls Tryz.prog 135 #[A' p, .agg #[.int .i64 3, .int .i64 e, .int .i64 i, .int .i64 q, .string b]] w fun r w'=>r= .returned (.int .i64 0)/\bP' op (ct+(a.commits 3 a.epoch i q b).length) (n - (a.commits 3 a.epoch i q b).length) w w' p (ak' a 3 a.epoch i q b) c:=by
 refine(qK' z hs D F G H e i q hi I b J).mono ?_;rintro r w' ⟨v,rfl,⟨rfl,_,h⟩|⟨_,h1,h2,_⟩⟩
 ·exact⟨rfl,h⟩
 ·omega
theorem vG' (z:aN' w p a.epoch a.logs sh st c) (hs:Alv op ct n st a.epoch a.logs) (D:ct+1000 < 18446744073709551616) (F:aw' a) (G:aR' a) (H:dn' a.held sh) (e:Int) (i q:Nat) (hi:i < 3) (I:q<=2147483647) (b:ByteArray) (J:b.size<=20) (M:1<=n/\n<=(a.commits 3 a.epoch i q b).length):
  Calls Tryz.prog 135 #[A' p, .agg #[.int .i64 3, .int .i64 e, .int .i64 i, .int .i64 q, .string b]] w fun r w'=>r= .returned (.int .i64 4)/\bC' op w w' p a.epoch (grown a i ((a.commits 3 a.epoch i q b).take (n - 1))).logs c:=by
 refine(qK' z hs D F G H e i q hi I b J).mono ?_;rintro r w' ⟨v,rfl,⟨rfl,h,_⟩|⟨rfl,_,_,h⟩⟩
 ·omega
 ·exact⟨rfl,h⟩
theorem vH' (z:aN' w p a.epoch a.logs sh st c) (hs:Alv op ct n st a.epoch a.logs) (D:ct+1000 < 18446744073709551616) (F:dn' a.held sh) (e:Nat) (G:a.epoch<=e) (H:e<=2147483647) (I:n=0\/hiW a e < n):
  Calls Tryz.prog 132 #[A' p, .int .i64 e] w fun r w'=>r= .returned (.int .i64 0)/\bP' op (ct+hiW a e) (n - hiW a e) w w' p (bc' a e) c:=by
 refine(nG' z hs D F e G H).mono ?_;rintro r w' ⟨v,rfl,⟨rfl,_,h⟩|⟨_,h1,h2,_⟩⟩
 ·exact⟨rfl,h⟩
 ·omega
theorem un' (z:aN' w p a.epoch a.logs sh st c) (hs:Alv op ct n st a.epoch a.logs) (D:ct+1000 < 18446744073709551616) (F:dn' a.held sh) (e:Nat) (G:a.epoch<=e) (H:e<=2147483647) (I:1<=n/\n<=hiW a e):
  Calls Tryz.prog 132 #[A' p, .int .i64 e] w fun r w'=>r= .returned (.int .i64 4)/\bC' op w w' p a.epoch a.logs c:=by
 refine(nG' z hs D F e G H).mono ?_;rintro r w' ⟨v,rfl,⟨rfl,h,_⟩|⟨rfl,_,_,h⟩⟩
 ·omega
 ·rw[List.take_nil,da']at h;exact⟨rfl,h⟩
end
theorem mS' {op ct n:Nat} {w:World} {p:Nat} {a:Mod.Sk} {sh:Nat->List (Nat×Value)} {st:Mod.Stv} {c:Sv} (U:aN' w p a.epoch a.logs sh st c) (hs:Alv op ct n st a.epoch a.logs) (aE:ct+1000 < 18446744073709551616) (bi:aw' a) (bj:aR' a) (bk:dn' a.held sh) (i q:Nat) (hi:i < 3) (F:q<=2147483647) (b:ByteArray) (G:b.size<=20) (aF:n=0\/(a.commits 3 a.epoch i q b).length < n):
  Calls Tryz.prog 88 #[A' p, .agg #[.int .i64 3, .int .i64 a.epoch, .int .i64 i, .int .i64 q, .string b]] w fun ai r=>
   ai= .returned (.tuple #[.agg #[.int .i64 4, .int .i64 a.epoch, .int .i64 i, .int .i64 ((ak' a 3 a.epoch i q b).logs i).length, .string (ackBody (ak' a 3 a.epoch i q b) i ((ak' a 3 a.epoch i q b).logs i).length)], .int .i64 0])/\bP' op (ct+(a.commits 3 a.epoch i q b).length) (n - (a.commits 3 a.epoch i q b).length) w r p (ak' a 3 a.epoch i q b) c:=by
 obtain⟨aG,aH⟩:∃aG,aG=n - (a.commits 3 a.epoch i q b).length:=⟨_,rfl⟩;obtain⟨aI,aJ⟩:∃aI,aI=ct+(a.commits 3 a.epoch i q b).length:=⟨_,rfl⟩;have c1:w.cell? ⟨p,1,none⟩=some (.int .i64 a.epoch):=by rw[t' U.ks.blk,U.ks.a1]
 have bl:=lt_of_block U.ks.blk;have ab:=fun y (bm:Below w.heap.size w y)=>y' (wM' (U.far (C' (E:=fun _=>False) bm) (fun _ _ h=>h)) hs aE bi bj bk a.epoch i q hi F b G aF);rw[<-aH,<-aJ]at ab ⊢;clear aH aJ aF;have aj:(ak' a 3 a.epoch i q b).epoch=a.epoch:=by
  unfold ak';split
  ·exact dC' _ _ _ _
  ·rfl
 obtain⟨I,aK⟩:∃I,I=ak' a 3 a.epoch i q b:=⟨_,rfl⟩;rw[<-aK]at ab aj ⊢;obtain⟨ep,aL⟩:∃ep,ep=a.epoch:=⟨_,rfl⟩;rw[<-aL]at c1 ab aj ⊢;have bM:((ep:Int) != (ep:Int))=false:=by simp
 have bn:=y' U.lt;have aM:=y' (eN' w #[.int .i64 3, .int .i64 ep, .int .i64 i, .int .i64 q, .string b] zFr);have bN:(0:Int)<=(i:Int):=by omega
 have bO:(i:Int) < 3:=by omega
 have bo:=y' aj;clear hs aE;clear n;obtain⟨n,V⟩:∃n,n=(I.logs i).length:=⟨_,rfl⟩;rw[<-V];obtain⟨bd,X⟩:∃bd,bd=ackBody I i n:=⟨_,rfl⟩;rw[<-X];have bp:=y' (And.intro V X);clear U aL aK aj V X;unfold A' at *;go_enter Tryz.func88,Tryz.ntmps88;go_upto_region 1 with fail;refine H' (eC' w #[.int .i64 3, .int .i64 ep, .int .i64 i, .int .i64 q, .string b] zFr) (i' aM) ?_;clear aM;intro x z;have ac:=t' (i:=1) z.box;simp at ac;have aN:=(z.bel.cell (p:=⟨p,1,none⟩) bl).trans c1;have M:=y' z;clear z;go_quiet (fail);go_upto_region 3 with fail;refine H' (eC' w #[.int .i64 3, .int .i64 ep, .int .i64 i, .int .i64 q, .string b] zFr) ((i' M).drewN _) ?_;clear M ac aN;intro ay z;have aO:=t' (i:=0) z.box;have ac:=t' (i:=1) z.box;have Y:=t' (i:=2) z.box;have aP:=t' (i:=3) z.box;have aQ:=t' (i:=4) z.box;simp at aO ac Y aP aQ;have aR:=y' (i' (ab ay z.bel));have M:=y' z;clear z ab;go_upto_region 6 with (go_at_call 135;refine(i' aR).mono ?_;rintro ai y ⟨rfl,O⟩);obtain⟨az,aA,⟨c2,aS,ak,ao,ap,aq⟩,au,av⟩:=O;have aT:∀k,w.heap.size<=k->¬PkU p c k:=fun k O h=>by have:=(i' bn) k h;omega
 have bP:=(i' M).lt;refine H' (fun r=>aN' r p I.epoch I.logs az aA c2/\Far (PkU p c) ay r/\r.heap[w.heap.size]? =some (.cells #[.int .i64 3, .int .i64 ep, .int .i64 i, .int .i64 q, .string b] 63 (0,0))/\r.heap[w.heap.size+1]? =some (.cells zFr 63 (0,0))) ⟨aS,ak,ak.blk (i' M).box (aT _ (Nat.le_refl _)),ak.blk (i' M).res (aT _ (by omega))⟩ ?_;clear aO ac Y aP aQ aS ak aR;rintro bq ⟨aU,aV,Q,ad⟩;have Y:bq.cell? ⟨w.heap.size,2,none⟩=some (.int .i64 i):=t' (i:=2) Q;have aW:=y' aU;have aX:=y' aV;have Z:=y' (And.intro Q ad);have aY:=y' (And.intro ao (And.intro ap (And.intro aq (And.intro au av))));clear aU aV Q ad ao ap aq au av;go_quiet (fail);go_upto_region 7 with fail;refine H' (fun r=>aN' r p I.epoch I.logs az aA c2/\Far (PkU p c) ay r/\r.heap[w.heap.size]? =some (.cells #[.int .i64 3, .int .i64 ep, .int .i64 i, .int .i64 q, .string b] 63 (0,0))/\r.heap[w.heap.size+1]? =some (.cells zFr 63 (0,0))) ⟨(i' aW).far (ao' (fun _=>False) _ _) (fun _ _ h=>h),(i' aX).trans (ao' (fun _=>False) _ _) (fun _ _ h=>h.elim),(i' Z).1,(i' Z).2⟩ ?_;clear Y aW aX Z;rintro H ⟨D,aZ,Q,ad⟩;obtain⟨br,cap,_,ba⟩:=D.ks.logc hi;have bt:=D.ks.loglen hi;obtain⟨V,X⟩:=i' bp;rw[<-V]at ba bt;have bb:=(i' aY).2.2.2.2;have aB:=fun r (aC:Below H.heap.size H r)=>y' (pF' ((D.far (C' (E:=fun _=>False) aC) (fun _ _ h=>h)).shAt hi) (D.ks.are i hi) n (by omega));rw[mC' bb D.ks.are hi n,<-X]at aB;have bc:=fun r (aC:Below H.heap.size H r)=>y' (bJ' r p (2+i * 3) n cap br ((aC.cell (p:=⟨p,2+i * 3,none⟩) (lt_of_block D.ks.blk)).trans ba));have bu:=lt_of_block D.ks.blk;have bw:H.cell? ⟨p,1,none⟩=some (.int .i64 ep):=by rw[t' D.ks.blk,D.ks.a1,i' bo]
 have Y:H.cell? ⟨w.heap.size,2,none⟩=some (.int .i64 i):=t' (i:=2) Q;have bz:=lt_of_block Q;have be:=y' D;have bA:=y' aZ;have Z:=y' ad;clear D aZ Q ad V X bb;have bQ:p≠w.heap.size+1:=by omega
 refine Z' (by kernel_rfl)
  [fun v _=>v= .pointer (some ⟨p,0,none⟩),fun v _=>v= .pointer (some ⟨p,0,none⟩),fun v _=>v= .pointer (some ⟨p,1,none⟩),fun v _=>v= .int .i64 ep,fun v _=>v= .pointer (some ⟨w.heap.size,2,none⟩),fun v _=>v= .int .i64 i,
   fun v _=>v= .pointer (some ⟨p,2+i * 3,none⟩),fun v _=>v= .int .i64 n,fun v _=>v= .pointer (some ⟨p,2+i * 3,none⟩),fun v _=>v= .int .i64 n,fun v _=>v= .pointer (some ⟨p,2+i * 3,none⟩),fun v _=>v= .pointer (some ⟨p,2+i * 3,none⟩),fun v _=>v= .pointer (some ⟨p,2+i * 3+1,none⟩),
   fun v _=>v= .func (.func 137) #[.pointer (some ⟨p,2+i * 3+1,none⟩)] #[],fun v _=>v= .string bd,fun v _=>v= .agg #[.int .i64 4, .int .i64 ep, .int .i64 i, .int .i64 n, .string bd],
   fun _ r=>r.heap[w.heap.size+1]? =some (.cells #[.int .i64 4, .int .i64 ep, .int .i64 i, .int .i64 n, .string bd] 63 (0,0)),fun v _=>v= .int .i64 0]
  [[(0,none)],[(36,some 0)],[(37,some 1)],[(38,some 2)],[(3,none)],[(40,some 4)],[(7,none)],[(42,some 6)],[(7,none)],[(44,some 8)],[(7,none)],[(46,some 10)],[(47,some 11)],[(48,some 12)],[(45,some 9),(49,some 13)],[(39,some 3),(41,some 5),(43,some 7),(50,some 14)],[(4,none),(51,some 15)],[]] [some 36,some 37,some 38,some 39,some 40,some 41,some 42,some 43,some 44,some 45,some 46,some 47,some 48,some 49,some 50,some 51,none,some 5] [false,false,false,false,false,true,false,false,false,false,false,false,false,false,false,false,false,false,false,false,false,false,false,false,false,false,false,false,false,false,false,false,false,false,false,false,true,true,true,true,true,true,true,true,true,true,true,true,true,true,true,true]
  [(16,fun k=>k=w.heap.size+1)]
  (by kernel_rfl) (by kernel_rfl) (by kernel_rfl) (by kernel_rfl) (by kernel_rfl) ?_ ?_ ?_ ?_
 ·repeat' (first|exact O' _|exact bh' _ _|exact trivial|apply And.intro)
 ·repeat' (first|exact trivial|exact .inl rfl|exact .inr (.inr (an' _ _))|apply And.intro)
 ·refine⟨?_,?_,?_,?_,?_,?_,?_,?_,?_,?_,?_,?_,?_,?_,?_,?_,?_,?_,trivial⟩
  case refine_17=>
   intro a' r G J;simp only[M',List.getD_cons_zero,List.getD_cons_succ,Array.getD_eq_getD_getElem?]at J;try simp at J
   have ax:=G.blk (i' Z) (by rintro⟨q,F,g1,g2,bR⟩;simp at F;subst F;exact g1 rfl);clear G;rw[if_pos (by rfl)];refine wp_store_row 63 (.tmp 4) (.tmp 51) rfl (w.heap.size+1) #[.int .i64 4, .int .i64 ep, .int .i64 i, .int .i64 n, .string bd] (by simp[Act.eval,J]) (by simp[Act.eval,J]) 63 _ ax (by rw[hv'];rfl) rfl (by rw[Array.all_eq_true_iff_forall_mem];intro u hu;simp at hu;rcases hu with rfl|rfl|rfl|rfl|rfl <;> rfl) ?_;exact⟨_,rfl,aj' (.head _) (aU' _ _ _),setRow_heap _ _ _ _ _ _ ax⟩
  case refine_18=>intro a' r G J;clear G;go_simp;exact⟨_,rfl,Far.refl _ _,rfl⟩
  all_goals
   intro a' r G J;have ah:Below H.heap.size H r:=eY' G (by intro q F;simp at F;subst F;show av' _ 16 _=true;decide+kernel);have bf:=(ah.cell (p:=⟨w.heap.size,2,none⟩) bz).trans Y;have aN:=(ah.cell (p:=⟨p,1,none⟩) bu).trans bw;have bB:=y' (i' (aB r ah));have bC:=y' (i' (bc r ah));clear G ah aB bc;simp only[M',List.getD_cons_zero,List.getD_cons_succ,Array.getD_eq_getD_getElem?]at J;try simp at J
   go_simp;first
    |exact⟨_,rfl,Far.refl _ _,rfl⟩
    |(refine(i' bC).mono ?_;rintro ai bf ⟨rfl,rfl⟩;exact⟨_,rfl,Far.refl _ _,rfl⟩)
    |(refine(i' bB).mono ?_;rintro ai bf ⟨rfl,bD⟩;exact⟨_,rfl,C' bD,rfl⟩)
    |skip
 ·intro f r hF aD;have aa:=aD.2.2.2.2.2.2.2.2.2.2.2.2.2.2.2.2.1;have bE:=aD.2.2.2.2.2.2.2.2.2.2.2.2.2.2.2.2.2.1;have ax:r.cell? ⟨w.heap.size+1,0,none⟩=some (.int .i64 4):=t' (i:=0) aa;have bF:r.cell? ⟨w.heap.size+1,1,none⟩=some (.int .i64 ep):=t' (i:=1) aa;have bG:r.cell? ⟨w.heap.size+1,2,none⟩=some (.int .i64 i):=t' (i:=2) aa;have bH:r.cell? ⟨w.heap.size+1,3,none⟩=some (.int .i64 n):=t' (i:=3) aa;have bI:r.cell? ⟨w.heap.size+1,4,none⟩=some (.string bd):=t' (i:=4) aa;have hF:Far (fun k=>k=w.heap.size+1) H r:=hF.mono (fun k _ h=>by obtain⟨q,F,h⟩:=h;simp at F;subst F;exact h);have bJ:=y' hF;clear aD hF aa;simp only[Y',bE];generalize f 36=bS;generalize f 37=bT;generalize f 38=bU;generalize f 39=bV;generalize f 40=bW;generalize f 41=bX;generalize f 42=bY;generalize f 43=bZ;generalize f 44=ca;generalize f 45=cb;generalize f 46=cc;generalize f 47=cd;generalize f 48=ce;generalize f 49=cf;generalize f 50=cg;generalize f 51=ch;go_simp;go_wp2;refine bodyPost_ret (v:= .tuple #[.agg #[.int .i64 4, .int .i64 ep, .int .i64 i, .int .i64 n, .string bd], .int .i64 0]) (by simp[results,Tryz.results88,go_sem,ax,bF,bG,bH,bI]) rfl ⟨rfl,?_⟩;obtain⟨ao,ap,aq,au,av⟩:=i' aY;have bg:=(i' M).bel;have bh:=i' bJ;have bK:¬PkU p c2 (w.heap.size+1):=by have bL:=i' Z;exact cp' (i' be) bL (by decide) (by decide) (by decide) (by decide) (by decide) (by decide) (by decide) (by decide)
  refine⟨az,aA,⟨c2,(i' be).far bh (fun k O e=>bK (by rw[<-e];exact O)),?_,fun k O=>(ao k O).imp id (fun h=>Nat.le_trans bg.size h),ap,aq⟩,au,av⟩;exact((C' (E:=PkU p c) bg).trans (i' bA) (fun _ _ h=>h)).trans bh (fun k O e=>by omega)
theorem lN' {op ct n:Nat} {w:World} {p:Nat} {a:Mod.Sk} {sh:Nat->List (Nat×Value)} {st:Mod.Stv} {c:Sv} (I:aN' w p a.epoch a.logs sh st c) (hs:Alv op ct n st a.epoch a.logs) (aZ:ct+1000 < 18446744073709551616) (bD:dn' a.held sh) (e:Nat) (s q:Int) (b:ByteArray) (ba:a.epoch<=e) (bE:e<=2147483647) (bb:n=0\/hiW a e < n):
  Calls Tryz.prog 87 #[A' p, .agg #[.int .i64 1, .int .i64 e, .int .i64 s, .int .i64 q, .string b]] w fun U r=>
   U= .returned (.tuple #[.agg #[.int .i64 2, .int .i64 e, .int .i64 0, .int .i64 0, .string (gY' a)], .int .i64 0])/\bP' op (ct+hiW a e) (n - hiW a e) w r p (bc' a e) c:=by
 obtain⟨bc,be⟩:∃bc,bc=n - hiW a e:=⟨_,rfl⟩;obtain⟨bf,bg⟩:∃bf,bf=ct+hiW a e:=⟨_,rfl⟩;have c1:w.cell? ⟨p,1,none⟩=some (.int .i64 a.epoch):=by rw[t' I.ks.blk,I.ks.a1]
 have bF:=lt_of_block I.ks.blk;have ay:=fun y (bG:Below w.heap.size w y)=>y' (vH' (I.far (C' (E:=fun _=>False) bG) (fun _ _ h=>h)) hs aZ bD e ba bE bb);rw[<-be,<-bg]at ay ⊢;clear be bg bb hs aZ;clear n;have aQ:(bc' a e).logs=a.logs:=rfl;have aR:(bc' a e).epoch=e:=rfl;obtain⟨M,bh⟩:∃M,M=bc' a e:=⟨_,rfl⟩;rw[<-bh]at ay aQ aR ⊢;have az:=ua' (a.logs 0).length (a.logs 1).length (a.logs 2).length;have bH:=I.ks.loglen (i:=0) (by omega);have bI:=I.ks.loglen (i:=1) (by omega);have bJ:=I.ks.loglen (i:=2) (by omega);obtain⟨V,aA⟩:∃n,n=(a.logs 0).length:=⟨_,rfl⟩;obtain⟨X,aB⟩:∃n,n=(a.logs 1).length:=⟨_,rfl⟩;obtain⟨Y,aC⟩:∃n,n=(a.logs 2).length:=⟨_,rfl⟩;obtain⟨wel,aS⟩:∃v,v=gY' a:=⟨_,rfl⟩;have aT:wel=ef' (a.logs 0).length++ef' (a.logs 1).length++ef' (a.logs 2).length:=aS;rw[<-aS];rw[<-aA,<-aB,<-aC]at aT az;rw[<-aT]at az;rw[<-aA]at bH;rw[<-aB]at bI;rw[<-aC]at bJ;have bi:=fun y=>y' (kr' V X Y (by omega) (by omega) (by omega) y);rw[az]at bi;have bK:=y' (And.intro aA (And.intro aB (And.intro aC (And.intro aQ aR))));obtain⟨ep,bj⟩:∃ep,ep=a.epoch:=⟨_,rfl⟩;rw[<-bj]at c1 ba;have ch:¬ (e:Int) < (ep:Int):=by omega
 have bL:=y' I.lt;have bk:=y' (eN' w #[.int .i64 1, .int .i64 e, .int .i64 s, .int .i64 q, .string b] zFr);clear I bj bh aQ aR aA aB aC aS aT az;unfold A' at *;go_enter Tryz.func87,Tryz.ntmps87;go_upto_region 1 with fail;refine H' (eC' w #[.int .i64 1, .int .i64 e, .int .i64 s, .int .i64 q, .string b] zFr) (i' bk) ?_;clear bk;intro x J;have ai:=t' (i:=1) J.box;simp at ai;have bl:=(J.bel.cell (p:=⟨p,1,none⟩) bF).trans c1;have Z:=y' J;clear J;go_quiet (fail);go_upto_region 3 with fail;refine H' (eC' w #[.int .i64 1, .int .i64 e, .int .i64 s, .int .i64 q, .string b] zFr) ((i' Z).drewN _) ?_;clear Z ai bl;intro aj J;have ai:=t' (i:=1) J.box;simp at ai;have bm:=y' (i' (ay aj J.bel));have Z:=y' J;clear J ay;go_upto_region 6 with (go_at_call 132;refine(i' bm).mono ?_;rintro U y ⟨rfl,H⟩);obtain⟨aD,aE,⟨c2,bn,aF,aG,aH,aI⟩,aJ,aK⟩:=H;have bM:∀k,w.heap.size<=k->¬PkU p c k:=fun k H h=>by have:=(i' bL) k h;omega
 have ci:=(i' Z).lt;have bN:=aF.size;obtain⟨z,aU⟩:∃z,z=y.heap.size:=⟨_,rfl⟩;have bo:=y' (aF.blk (i' Z).res (bM _ (by omega)));have bp:=y' bn;have bq:=y' aF;have bO:=y' (And.intro aG (And.intro aH (And.intro aI (And.intro aJ aK))));clear bm bn aF aG aH aI aJ aK ai;go_upto_region 7 with fail;rw[<-aU];refine H' (fun r=>aN' r p M.epoch M.logs aD aE c2/\Far (PkU p c) aj r/\r.heap[w.heap.size+1]? =some (.cells zFr 63 (0,0))/\r.heap[z]? =some (.cells #[.int .i64 0, .int .i64 0, .int .i64 0] 35 (0,0))) ?_ ?_
 ·have G:∀o,Below y.heap.size y (y.alloc o):=fun o=>(Below.refl _ _).alloc (Nat.le_refl _) o;refine⟨(i' bp).far (C' (E:=fun _=>False) (G _)) (fun _ _ h=>h),(i' bq).trans (C' (E:=fun _=>False) (G _)) (fun _ _ h=>h.elim),((G _).block _ (by omega)).trans (i' bo),by rw[aU];exact heap_alloc_new _ _⟩
 have cj:w.heap.size+1 < z:=by omega
 have ck:aj.heap.size<=z:=by omega
 clear bo bp bq aU bN;rintro cl ⟨aL,aM,aN,aO⟩;have br:=y' (And.intro aL (And.intro aM (And.intro aN aO)));clear aL aM aN aO;go_wp2;go_loopw[8,29] (fun _ i wr=>∃j:Nat,j<=3/\i= .int .i64 j/\aN' wr p M.epoch M.logs aD aE c2/\Far (PkU p c) aj wr/\wr.heap[w.heap.size+1]? =some (.cells zFr 63 (0,0))/\wr.heap[z]? =some (.cells #[.int .i64 (if 0 < j then V else 0:Nat), .int .i64 (if 1 < j then X else 0:Nat), .int .i64 (if 2 < j then Y else 0:Nat)] 35 (0,0))) (fun _ i _=>3 - (intOf i).toNat)
 case atStart=>obtain⟨aL,aM,aN,aO⟩:=i' br;exact⟨0,by omega,rfl,aL,aM,aN,by simpa using aO⟩
 case round=>
  obtain⟨j,hj,rfl,K,aa,ab,D⟩:=hrel;clear br;have bP:¬PkU p c2 z:=cp' K D (by decide) (by decide) (by decide) (by decide) (by decide) (by decide) (by decide) (by decide);obtain⟨ak,ao,ap,Q,aq⟩:=i' bK;obtain⟨bQ,bR,_,c0⟩:=K.ks.logc (i:=0) (by omega);obtain⟨bS,bT,_,ac⟩:=K.ks.logc (i:=1) (by omega);obtain⟨bU,bV,_,ad⟩:=K.ks.logc (i:=2) (by omega);rw[Q,<-ak]at c0;rw[Q,<-ao]at ac;rw[Q,<-ap]at ad;have bt:=y' (bJ' wr p 2 V bR bQ c0);have bu:=y' (bJ' wr p 5 X bT bS ac);have bw:=y' (bJ' wr p 8 Y bV bU ad);have au:∀ (k:Nat) (v:Value),aN' (wr.setCell ⟨z,k,none⟩ v) p M.epoch M.logs aD aE c2/\Far (PkU p c) aj (wr.setCell ⟨z,k,none⟩ v)/\(wr.setCell ⟨z,k,none⟩ v).heap[w.heap.size+1]? =some (.cells zFr 63 (0,0)):=fun k v=>by have F:=S' wr z k v;exact⟨K.far F (fun k H e=>bP (by rw[<-e];exact H)),aa.trans F (fun k H e=>by omega),F.blk ab (by omega)⟩
  have aV:=y' au;have av:=fun k v=>ah' (j:=k) (v:=v) D;have g0:=t' (i:=0) D;have g1:=t' (i:=1) D;have g2:=t' (i:=2) D;have cm:=I' (i:=0) D;have cn:=I' (i:=1) D;have co:=I' (i:=2) D;have aW:=y' av;have bz:=y' K;have bW:=y' aa;have bA:=y' ab;have cp:=y' D;rcases(show j=0\/j=1\/j=2\/j=3 by omega)with rfl|rfl|rfl|rfl
  ·simp at g0;clear K aa ab D au av c0 ac ad ak ao ap Q aq g1 g2;go_wp2_with (go_at_call 133;refine(i' bt).mono ?_;rintro U y ⟨rfl,rfl⟩);refine⟨⟨1,by omega,by go_num,?_⟩,by simp[intOf]⟩;obtain⟨h1,h2,h3⟩:=(i' aV) 0 (.int .i64 V);exact⟨h1,h2,h3,by simpa using (i' aW) 0 (.int .i64 V)⟩
  ·simp at g1;clear K aa ab D au av c0 ac ad ak ao ap Q aq g0 g2;go_wp2_with (go_at_call 133;refine(i' bu).mono ?_;rintro U y ⟨rfl,rfl⟩);refine⟨⟨2,by omega,by go_num,?_⟩,by simp[intOf]⟩;obtain⟨h1,h2,h3⟩:=(i' aV) 1 (.int .i64 X);exact⟨h1,h2,h3,by simpa using (i' aW) 1 (.int .i64 X)⟩
  ·simp at g2;clear K aa ab D au av c0 ac ad ak ao ap Q aq g0 g1;go_wp2_with (go_at_call 133;refine(i' bw).mono ?_;rintro U y ⟨rfl,rfl⟩);refine⟨⟨3,by omega,by go_num,?_⟩,by simp[intOf]⟩;obtain⟨h1,h2,h3⟩:=(i' aV) 2 (.int .i64 Y);exact⟨h1,h2,h3,by simpa using (i' aW) 2 (.int .i64 Y)⟩
  ·simp at g0 g1 g2;have bX:wr.cell? ⟨p,1,none⟩=some (.int .i64 e):=by rw[t' K.ks.blk,K.ks.a1,aq]
   have bY:=lt_of_block K.ks.blk;have aX:=lt_of_block D;clear K aa ab D au av c0 ac ad ak ao ap Q aq bt bu bw;go_upto_region 12 with fail;refine Z' (by kernel_rfl)
    [fun v _=>v= .pointer (some ⟨p,0,none⟩),fun v _=>v= .pointer (some ⟨p,0,none⟩),fun v _=>v= .pointer (some ⟨p,1,none⟩),fun v _=>v= .int .i64 e,fun v _=>v= .agg #[.int .i64 V, .int .i64 X, .int .i64 Y],fun v _=>v= .string wel,fun v _=>v= .agg #[.int .i64 2, .int .i64 e, .int .i64 0, .int .i64 0, .string wel],
     fun _ r=>r.heap[w.heap.size+1]? =some (.cells #[.int .i64 2, .int .i64 e, .int .i64 0, .int .i64 0, .string wel] 63 (0,0)),fun v _=>v= .int .i64 0]
    [[(0,none)],[(41,some 0)],[(42,some 1)],[(43,some 2)],[(7,none)],[(45,some 4)],[(44,some 3),(46,some 5)],[(4,none),(47,some 6)],[]] [some 41,some 42,some 43,some 44,some 45,some 46,some 47,none,some 5] [false,false,false,false,false,true,false,false,false,false,false,false,false,false,false,false,false,false,false,false,false,false,false,false,false,false,false,false,false,false,false,false,false,false,false,false,false,false,false,false,false,true,true,true,true,true,true,true]
    [(7,fun k=>k=w.heap.size+1)]
    (by kernel_rfl) (by kernel_rfl) (by kernel_rfl) (by kernel_rfl) (by kernel_rfl) ?_ ?_ ?_ ?_
   ·repeat' (first|exact O' _|exact bh' _ _|exact trivial|apply And.intro)
   ·repeat' (first|exact trivial|exact .inl rfl|exact .inr (.inr (an' _ _))|apply And.intro)
   ·refine⟨?_,?_,?_,?_,?_,?_,?_,?_,?_,trivial⟩
    case refine_8=>
     intro a' r G F;simp only[M',List.getD_cons_zero,List.getD_cons_succ,Array.getD_eq_getD_getElem?]at F;try simp at F
     have aP:=G.blk (i' bA) (by rintro⟨q,O,g1,g2,cq⟩;simp at O;subst O;exact g1 rfl);clear G;rw[if_pos (by rfl)];refine wp_store_row 63 (.tmp 4) (.tmp 47) rfl (w.heap.size+1) #[.int .i64 2, .int .i64 e, .int .i64 0, .int .i64 0, .string wel] (by simp[Act.eval,F]) (by simp[Act.eval,F]) 63 _ aP (by rw[hv'];rfl) rfl (by rw[Array.all_eq_true_iff_forall_mem];intro u hu;simp at hu;rcases hu with rfl|rfl|rfl|rfl|rfl <;> rfl) ?_;exact⟨_,rfl,aj' (.head _) (aU' _ _ _),setRow_heap _ _ _ _ _ _ aP⟩
    case refine_9=>intro a' r G F;clear G;go_simp;exact⟨_,rfl,Far.refl _ _,rfl⟩
    all_goals
     intro a' r G F;have ax:Below wr.heap.size wr r:=eY' G (by intro q O;simp at O;subst O;show av' _ 7 _=true;decide+kernel);have bl:=(ax.cell (p:=⟨p,1,none⟩) bY).trans bX;have cr:=(ax.cell (p:=⟨z,0,none⟩) aX).trans g0;have cs:=(ax.cell (p:=⟨z,1,none⟩) aX).trans g1;have cu:=(ax.cell (p:=⟨z,2,none⟩) aX).trans g2;clear G ax;simp only[M',List.getD_cons_zero,List.getD_cons_succ,Array.getD_eq_getD_getElem?]at F;try simp at F
     go_simp;first
      |exact⟨_,rfl,Far.refl _ _,rfl⟩
      |(refine(i' (bi r)).mono ?_;rintro U cv ⟨rfl,bZ⟩;exact⟨_,rfl,C' bZ,rfl⟩)
      |skip
   ·intro f r hF aY;have ah:=aY.2.2.2.2.2.2.2.1;have ca:=aY.2.2.2.2.2.2.2.2.1;have aP:r.cell? ⟨w.heap.size+1,0,none⟩=some (.int .i64 2):=t' (i:=0) ah;have cb:r.cell? ⟨w.heap.size+1,1,none⟩=some (.int .i64 e):=t' (i:=1) ah;have cc:r.cell? ⟨w.heap.size+1,2,none⟩=some (.int .i64 0):=t' (i:=2) ah;have cd:r.cell? ⟨w.heap.size+1,3,none⟩=some (.int .i64 0):=t' (i:=3) ah;have ce:r.cell? ⟨w.heap.size+1,4,none⟩=some (.string wel):=t' (i:=4) ah;have hF:Far (fun k=>k=w.heap.size+1) wr r:=hF.mono (fun k _ h=>by obtain⟨q,O,h⟩:=h;simp at O;subst O;exact h);have cf:=y' hF;clear aY hF ah;simp only[Y',ca];generalize f 41=cw;generalize f 42=cx;generalize f 43=cy;generalize f 44=cz;generalize f 45=cA;generalize f 46=cB;generalize f 47=cC;go_simp;go_wp2;refine bodyPost_ret (v:= .tuple #[.agg #[.int .i64 2, .int .i64 e, .int .i64 0, .int .i64 0, .string wel], .int .i64 0]) (by simp[results,Tryz.results87,go_sem,aP,cb,cc,cd,ce]) rfl ⟨rfl,?_⟩;obtain⟨aG,aH,aI,aJ,aK⟩:=i' bO;have bB:=(i' Z).bel;have bC:=i' cf;have cg:¬PkU p c2 (w.heap.size+1):=cp' (i' bz) (i' bA) (by decide) (by decide) (by decide) (by decide) (by decide) (by decide) (by decide) (by decide);refine⟨aD,aE,⟨c2,(i' bz).far bC (fun k H e=>cg (by rw[<-e];exact H)),?_,fun k H=>(aG k H).imp id (fun h=>Nat.le_trans bB.size h),aH,aI⟩,aJ,aK⟩;exact((C' (E:=PkU p c) bB).trans (i' bW) (fun _ _ h=>h)).trans bC (fun k H e=>by omega)
theorem lO' {op ct n:Nat} {w:World} {p:Nat} {a:Mod.Sk} {sh:Nat->List (Nat×Value)} {st:Mod.Stv} {c:Sv} (G:aN' w p a.epoch a.logs sh st c) (hs:Alv op ct n st a.epoch a.logs) (Q:ct+1000 < 18446744073709551616) (ax:aw' a) (ay:aR' a) (az:dn' a.held sh) (i q:Nat) (hi:i < 3) (aA:q<=2147483647) (b:ByteArray) (aB:b.size<=20) (U:1<=n/\n<=(a.commits 3 a.epoch i q b).length):
  Calls Tryz.prog 88 #[A' p, .agg #[.int .i64 3, .int .i64 a.epoch, .int .i64 i, .int .i64 q, .string b]] w fun V I=>
   V= .returned (.tuple #[.agg zFr, .int .i64 4])/\bC' op w I p a.epoch (grown a i ((a.commits 3 a.epoch i q b).take (n - 1))).logs c:=by
 have c1:w.cell? ⟨p,1,none⟩=some (.int .i64 a.epoch):=by rw[t' G.ks.blk,G.ks.a1]
 have aC:=lt_of_block G.ks.blk;have J:=fun y (aD:Below w.heap.size w y)=>y' (vG' (G.far (C' (E:=fun _=>False) aD) (fun _ _ h=>h)) hs Q ax ay az a.epoch i q hi aA b aB U);clear U;obtain⟨lg,X⟩:∃lg,lg=(grown a i ((a.commits 3 a.epoch i q b).take (n - 1))).logs:=⟨_,rfl⟩;rw[<-X]at J ⊢;obtain⟨ep,Y⟩:∃ep,ep=a.epoch:=⟨_,rfl⟩;rw[<-Y]at c1 J ⊢;have aP:((ep:Int) != (ep:Int))=false:=by simp
 have aE:=y' G.lt;have Z:=y' (eN' w #[.int .i64 3, .int .i64 ep, .int .i64 i, .int .i64 q, .string b] zFr);have aQ:(0:Int)<=(i:Int):=by omega
 have aR:(i:Int) < 3:=by omega
 clear hs Q X;clear n;clear G Y;unfold A' at *;go_enter Tryz.func88,Tryz.ntmps88;go_upto_region 1 with fail;refine H' (eC' w #[.int .i64 3, .int .i64 ep, .int .i64 i, .int .i64 q, .string b] zFr) (i' Z) ?_;clear Z;intro x r;have H:=t' (i:=1) r.box;simp at H;have aF:=(r.bel.cell (p:=⟨p,1,none⟩) aC).trans c1;have D:=y' r;clear r;go_quiet (fail);go_upto_region 3 with fail;refine H' (eC' w #[.int .i64 3, .int .i64 ep, .int .i64 i, .int .i64 q, .string b] zFr) ((i' D).drewN _) ?_;clear D H aF;intro aG r;have aa:=t' (i:=0) r.box;have H:=t' (i:=1) r.box;have ab:=t' (i:=2) r.box;have ac:=t' (i:=3) r.box;have ad:=t' (i:=4) r.box;simp at aa H ab ac ad;have ah:=y' (i' (J aG r.bel));have D:=y' r;clear r J;go_wp2_with (go_at_call 135;refine(i' ah).mono ?_;rintro V y ⟨rfl,F⟩;obtain⟨aH,aI,⟨c2,M,O,ai,aj,ak⟩,ao⟩:=F;have ap:∀k,w.heap.size<=k->¬PkU p c k:=fun k F h=>(by have:=(i' aE) k h;omega);have aS:=(i' D).lt;have z:=O.blk (i' D).res (ap _ (by omega));have aq:¬PkU p c2 (w.heap.size+1):=cp' M z (by decide) (by decide) (by decide) (by decide) (by decide) (by decide) (by decide) (by decide);have au:=(i' D).bel;have aJ:=fun I (av:Far (fun k=>k=w.heap.size+1) y I)=>y' (show bC' op w I p ep lg c from⟨aH,aI,⟨c2,M.far av (fun k F e=>aq (by rw[<-e];exact F)),((C' (E:=PkU p c) au).trans O (fun _ _ h=>h)).trans av (fun k F e=>by omega),fun k F=>(ai k F).imp id (fun h=>Nat.le_trans au.size h),aj,ak⟩,ao⟩);have aK:y.cell? ⟨w.heap.size+1,0,none⟩=some (.int .i64 0):=t' (i:=0) z;have aL:y.cell? ⟨w.heap.size+1,1,none⟩=some (.int .i64 0):=t' (i:=1) z;have aM:y.cell? ⟨w.heap.size+1,2,none⟩=some (.int .i64 0):=t' (i:=2) z;have aN:y.cell? ⟨w.heap.size+1,3,none⟩=some (.int .i64 0):=t' (i:=3) z;have aO:y.cell? ⟨w.heap.size+1,4,none⟩=some (.string ⟨#[]⟩):=t' (i:=4) z;have aT:=I' (i:=0) z;have aU:=I' (i:=1) z;have aV:=I' (i:=2) z;have aW:=I' (i:=3) z;have aX:=I' (i:=4) z;have aY:=y' z;clear z aq;clear M O ai aj ak ao ah D ap aa H ab ac ad);refine bodyPost_ret (v:= .tuple #[.agg zFr, .int .i64 4]) (by simp[results,Tryz.results88,go_sem,zFr,aK,aL,aM,aN,aO]) rfl ⟨rfl,?_⟩;have fs:=fun x i v=>S' x (w.heap.size+1) i v;exact i' (aJ _ (((((fs _ _ _).trans (fs _ _ _) (fun _ _ h=>h)).trans (fs _ _ _) (fun _ _ h=>h)).trans (fs _ _ _) (fun _ _ h=>h)).trans (fs _ _ _) (fun _ _ h=>h)))
theorem kx' {op ct n:Nat} {w:World} {p:Nat} {a:Mod.Sk} {sh:Nat->List (Nat×Value)} {st:Mod.Stv} {c:Sv} (G:aN' w p a.epoch a.logs sh st c) (hs:Alv op ct n st a.epoch a.logs) (Q:ct+1000 < 18446744073709551616) (aq:dn' a.held sh) (e:Nat) (s q:Int) (b:ByteArray) (U:a.epoch<=e) (au:e<=2147483647) (V:1<=n/\n<=hiW a e):
  Calls Tryz.prog 87 #[A' p, .agg #[.int .i64 1, .int .i64 e, .int .i64 s, .int .i64 q, .string b]] w fun X I=>
   X= .returned (.tuple #[.agg zFr, .int .i64 4])/\bC' op w I p a.epoch a.logs c:=by
 have c1:w.cell? ⟨p,1,none⟩=some (.int .i64 a.epoch):=by rw[t' G.ks.blk,G.ks.a1]
 have av:=lt_of_block G.ks.blk;have J:=fun y (ax:Below w.heap.size w y)=>y' (un' (G.far (C' (E:=fun _=>False) ax) (fun _ _ h=>h)) hs Q aq e U au V);clear V hs Q;clear n;obtain⟨lg,Y⟩:∃lg,lg=a.logs:=⟨_,rfl⟩;rw[<-Y]at J ⊢;obtain⟨ep,Z⟩:∃ep,ep=a.epoch:=⟨_,rfl⟩;rw[<-Z]at c1 U J ⊢;have aJ:¬ (e:Int) < (ep:Int):=by omega
 have ay:=y' G.lt;have aa:=y' (eN' w #[.int .i64 1, .int .i64 e, .int .i64 s, .int .i64 q, .string b] zFr);clear G Z Y;unfold A' at *;go_enter Tryz.func87,Tryz.ntmps87;go_upto_region 1 with fail;refine H' (eC' w #[.int .i64 1, .int .i64 e, .int .i64 s, .int .i64 q, .string b] zFr) (i' aa) ?_;clear aa;intro x z;have H:=t' (i:=1) z.box;simp at H;have az:=(z.bel.cell (p:=⟨p,1,none⟩) av).trans c1;have D:=y' z;clear z;go_quiet (fail);go_upto_region 3 with fail;refine H' (eC' w #[.int .i64 1, .int .i64 e, .int .i64 s, .int .i64 q, .string b] zFr) ((i' D).drewN _) ?_;clear D H az;intro aA z;have H:=t' (i:=1) z.box;simp at H;have ab:=y' (i' (J aA z.bel));have D:=y' z;clear z J;go_wp2_with (go_at_call 132;refine(i' ab).mono ?_;rintro X y ⟨rfl,F⟩;obtain⟨aB,aC,⟨c2,M,O,ac,ad,ah⟩,ai⟩:=F;have aj:∀k,w.heap.size<=k->¬PkU p c k:=fun k F h=>(by have:=(i' ay) k h;omega);have aK:=(i' D).lt;have r:=O.blk (i' D).res (aj _ (by omega));have ak:¬PkU p c2 (w.heap.size+1):=cp' M r (by decide) (by decide) (by decide) (by decide) (by decide) (by decide) (by decide) (by decide);have ao:=(i' D).bel;have aD:=fun I (ap:Far (fun k=>k=w.heap.size+1) y I)=>y' (show bC' op w I p ep lg c from⟨aB,aC,⟨c2,M.far ap (fun k F e=>ak (by rw[<-e];exact F)),((C' (E:=PkU p c) ao).trans O (fun _ _ h=>h)).trans ap (fun k F e=>by omega),fun k F=>(ac k F).imp id (fun h=>Nat.le_trans ao.size h),ad,ah⟩,ai⟩);have aE:y.cell? ⟨w.heap.size+1,0,none⟩=some (.int .i64 0):=t' (i:=0) r;have aF:y.cell? ⟨w.heap.size+1,1,none⟩=some (.int .i64 0):=t' (i:=1) r;have aG:y.cell? ⟨w.heap.size+1,2,none⟩=some (.int .i64 0):=t' (i:=2) r;have aH:y.cell? ⟨w.heap.size+1,3,none⟩=some (.int .i64 0):=t' (i:=3) r;have aI:y.cell? ⟨w.heap.size+1,4,none⟩=some (.string ⟨#[]⟩):=t' (i:=4) r;have aL:=I' (i:=0) r;have aM:=I' (i:=1) r;have aN:=I' (i:=2) r;have aO:=I' (i:=3) r;have aP:=I' (i:=4) r;have aQ:=y' r;clear r ak;clear M O ac ad ah ai ab D aj H);refine bodyPost_ret (v:= .tuple #[.agg zFr, .int .i64 4]) (by simp[results,Tryz.results87,go_sem,zFr,aE,aF,aG,aH,aI]) rfl ⟨rfl,?_⟩;have fs:=fun x i v=>S' x (w.heap.size+1) i v;exact i' (aD _ (((((fs _ _ _).trans (fs _ _ _) (fun _ _ h=>h)).trans (fs _ _ _) (fun _ _ h=>h)).trans (fs _ _ _) (fun _ _ h=>h)).trans (fs _ _ _) (fun _ _ h=>h)))
end Go.Proofs.YtamafdcnbcoegabGreat
