/-
  Part 5 of a proof.
-/
import Derived.Laws.CopyOwn
import Derived.DeepKeys
import Derived.Laws.StructEq
import Derived.Maps.OwnIn
import Derived.Shelf.Small.Wraps
import Derived.Shelf.LaysM
import Derived.Shelf.Strconv.Clone
import Derived.Shelf.Slices.Reverse
import Derived.Ground.Names2Prog
import Derived.Shelf.Slices.Clone
import Derived.Shelf.Slices.SearchI
import Derived.Shelf.Slices.Delete
import Derived.Shelf.Slices.Cells
import Derived.Shelf.Slices.Empties
import Derived.Test.YtamafdcnbcoegabGreatProg
import Derived.Shelf.Spec.SlicesInsertGrow
import Derived.Test.YtamafdcnbcoegabGreatOa4
set_option maxRecDepth 100000
set_option maxHeartbeats 40000000
namespace Go.Proofs.YtamafdcnbcoegabGreat
attribute [local simp, local go_sem] Ev Ep Ei Eb Et Ej Ea En Er Es
open Qb Mq
abbrev z18:= @Array.getElem?_setIfInBounds_ne
abbrev z63:= @List.pairwise_cons
abbrev z90:= @List.length_singleton
abbrev z95:= @Go.MapKept.run_getObj_map
abbrev z98:= @Option.getD_some
abbrev RH:= @Go.wp_store_row
abbrev xM:= @List.concat_eq_append
abbrev xN:= @List.eq_nil_or_concat
abbrev Bf:= @List.getElem?_cons_succ
abbrev sX:= @List.take_add_one
abbrev z126:= @Option.isSome_none
abbrev z129:= @Option.isSome_some
abbrev xO:= @List.map_drop
abbrev z144:= @Option.getD_none
abbrev Ge:= @List.contains_cons
abbrev Gf:= @List.getElem?_toArray
abbrev Gg:= @List.map_congr_left
abbrev Mh:= @List.mem_eraseIdx_iff_getElem?
abbrev Gh:= @Nat.lt_succ_self
abbrev Gi:= @Bool.false_or
abbrev Gj:= @Bool.eq_iff_iff
abbrev Kr:= @List.getElem_of_mem
abbrev Ks:= @List.drop_replicate
abbrev Gk:= @Go.run_part_plain
abbrev Kt:= @Go.run_equalIn_array
abbrev z223:= @Array.toList_push
abbrev Ng:= @List.map_take
abbrev Ku:= @List.take_append
abbrev Kv:= @Go.IntKind.wrap_u32
abbrev Kw:= @List.map_set
open Go.RowKit Go.Proofs.Tryz
section
variable{w a q:Nat}{p:World}{j:TypeId}{y:Value}{C:List Value}
theorem KC (h:p.ownsRow w j a y q C):p.ownsRow 0 j a y q C:=by
 obtain⟨h1,h2⟩:=h;refine⟨h1,?_⟩;rcases h2 with h2|⟨g,cap,z,h3,_,h4⟩;exact .inl h2;exact .inr ⟨g,cap,z,h3,z54 _,h4⟩
theorem iC (z:List z10):KN (z.map λb=>b.data.toList)=AF z:=by
 unfold KN AF;rw[rZ];apply Gg;intro b _;simp
end
variable{bQ dV:Prop}{p:World}{w a q b:Nat}{x:Mq.Sk}{M:AU}{m:Nat -> Value}{y u:Value}{j aT:TypeId}{C:List Value}{c:Ag}{r aR:List UInt8}{J:Oper}{G:Act}{aB:Exit -> Act -> World -> Prop}{aC:Array Oper}{dW:Func}{dX:Tmp}{dY:Option Obj}{l aN:Array Value}{aA:Nat×Nat}{N:Nat -> Prop}{aU:Obj}{aS:Int -> Option Value}{aZ:List MapEntry}{cP:MapEntry}{o:Int}
theorem Mi (h:bQ->dV) (k:bQ):dV:=h k
def ML (a:Mq.Sk) (i:Int):List z10:=if 0<=i/\i < 3 then a.Qc i.toNat else []
def kH (lv:Nat->Value) (i:Int):Value:=if 0<=i/\i < 3 then lv i.toNat else En
theorem Bg (R:Jg p w x M m y) (hd:M.dead=false) (i:Int) (hi:¬ (0<=i/\i < 3)):
  Cp 154 #[Er w 0,Ej i] p λe w'=>Rr e En/\w'=p:=by
 have c1:=Bi 1 R.blk;simp[AK,hd]at c1;clear R hd;by_cases h0:i < 0
 .go_enter func154,ntmps154;go_wp2;go_ret;exact⟨rfl,rfl⟩
 have h3:3<=i:=by omega
 go_enter func154,ntmps154;go_wp2;go_ret;exact⟨rfl,rfl⟩
theorem sY (R:Jg p w x M m y) (hd:M.dead=false) (i:Int):
  Cp 154 #[Er w 0,Ej i] p λe w'=>Rr e (kH m i)/\w'=p:=by
 unfold kH;by_cases h:0<=i/\i < 3;rw[if_pos h];obtain⟨n,rfl⟩:=z62 h.1;exact xH R hd n (by omega);rw[if_neg h];exact Bg R hd i h
theorem sZ (R:Jg p w x M m y) (i:Int):Jr p (kH m i) (AF (ML x i)):=by
 unfold kH ML;by_cases h:0<=i/\i < 3;rw[if_pos h,if_pos h];have z:=R.Qc i.toNat (by omega);have hl:=z.lt;obtain⟨F,cap,e,h1,h2,h3⟩:=z.shape;refine⟨F,cap,by rw[AO];exact e,by rw[AO];exact h1,h2,λh0=>?_⟩;rw[AO]at h0 ⊢;obtain⟨g,o,rfl,G⟩:=h3 h0;exact⟨g,o,rfl,hl g (by rw[e];rfl),λj hj=>G j (by omega)⟩;rw[if_neg h,if_neg h];exact AR (B:=0) (z20 _ _ 9 _)
theorem tA {a:Mq.Sk} (z:Jd a) (i:Int):(ML a i).length<=120:=by
 unfold ML;split;have:=OO (a:=a) (s:=i.toNat) (by omega);have:=z.room;omega;simp
theorem ae' (B:Nat) (e:TypeId) (n:Nat) (xs:List Value):CL (λv w=>w.ownsRow B e 1 v n xs):=λ_ _ _ h hb=>Q' h (λg z=>hb.block g (z14 h g z).2)
theorem DI (h:p.ownsRow w j q y b C) (hb:a<=w):p.ownsRow a j q y b C:=by
 obtain⟨h1,h2⟩:=h;refine⟨h1,?_⟩;rcases h2 with h2|⟨g,cap,z,h3,h4,h5⟩;exact .inl h2;exact .inr ⟨g,cap,z,h3,z26 hb h4,h5⟩
theorem RI (e s:Nat) (f:Js) (t:Nat) (hb:∀x∈f.kept,x.1.size<=20):∀i,(Mq.sendTo e s f t i).2.length<=i/\∀l∈ (Mq.sendTo e s f t i).2,l.length<=35
 |0=>⟨z16 _,λl hl=>by cases hl⟩
 |i+1=>by
  obtain⟨h1,h2⟩:=RI e s f t hb i;rw[Mq.sendTo];split
  .exact⟨by omega,h2⟩
  .rename_i x z;split
   .refine⟨by simp;omega,λl hl=>?_⟩;rw[z55,z51]at hl;rcases hl with hl|rfl
    .exact h2 l hl
    .have:=hb x (z65 z);rw[Zu];simp;omega
   .exact⟨by omega,h2⟩
theorem XZ (z:Jj w c):c.tick.2.length<=12/\∀l∈c.tick.2,l.length<=35:=by
 unfold Ag.tick;split;exact⟨by simp,λl hl=>by cases hl⟩;split;refine⟨by simp,λl hl=>?_⟩;rw[z51]at hl;rw[hl,Zu];simp;have h:=λs (hs:s < 3)=>RI c.Qa s (c.fl s) (c.Qf+1) (λx F=>(z.bod s hs x F).1) 4;have h0:=h 0 (by omega);have h1:=h 1 (by omega);have h2:=h 2 (by omega);simp only[Zl,List.nil_append];refine⟨by simp only[List.length_append];omega,λl hl=>?_⟩;rw[z55,z55]at hl;rcases hl with (hl|hl)|hl;exact h0.2 l hl;exact h1.2 l hl;exact h2.2 l hl
theorem Bh (L:List (List UInt8)):((L.map λl=>(⟨l.toArray⟩:z10)).map λb=>b.data.toList)=L:=by
 rw[rZ];conv=>rhs;rw[<-List.map_id L]
 apply Gg;intro l _;simp
namespace Mq
def Jh (o c:Nat):List UInt8:=le4 (o:Int)++le4 ((c % 4294967296:Nat):Int)++le4 ((c / 4294967296:Nat):Int)
theorem Qt (o c:Nat):(Jh o c).length=12:=rfl
def Xd (o c:Nat) (inside:List UInt8):List UInt8:=Jh o c++(inside++List.replicate (40 - inside.length) 0)++Jh o c
theorem Jz (o c:Nat) {inside:List UInt8} (h:inside.length<=40):(Xd o c inside).length=64:=by
 simp[Xd,Qt];omega
def Jw (a b c:Nat):List UInt8:=le4 (a:Int)++le4 (b:Int)++le4 (c:Int)
theorem Ju (a b c:Nat):(Jw a b c).length=12:=rfl
def Zd (st q:Nat) (b:List UInt8):List UInt8:=[UInt8.ofNat (st % 256),UInt8.ofNat (b.length % 256)]++le4 (q:Int)++b
theorem Zr (st q:Nat) (b:List UInt8):(Zd st q b).length=6+b.length:=by simp[Zd,Qz];omega
def Xc (l:List UInt8) (k:Nat) (s:List UInt8):List UInt8:=l.take (64 * k)++s++l.drop (64 * k+64)
theorem Xa {l:List UInt8} {k:Nat} (hs:r.length=64) (z:64 * k+64<=l.length):(Xc l k r).length=l.length:=by
 simp[Xc,hs];omega
structure Dk where
 bytes:List UInt8
 Xr:Nat
 dead:Bool
def Dk.put (d:Dk) (k:Nat) (s:List UInt8):Int×Dk:=
 if d.dead=true then(3,d)else if d.Xr=1 then(4,{d with dead:=true})else(0,{bytes:=Xc d.bytes k s,Xr:=d.Xr - 1,dead:=false})
structure Stv where
 Qe:Nat
 count:Nat
 head:Nat
 dk:Dk
def Stv.next (s:Stv):Nat:=(s.count+1) % 18446744073709551616
def Stv.Qp (s:Stv) (a b c:Nat):Int×Stv:=
 ((s.dk.put (1 - s.head) (Xd s.Qe s.next (Jw a b c))).1,{s with head:=1 - s.head,count:=s.next,dk:=(s.dk.put (1 - s.head) (Xd s.Qe s.next (Jw a b c))).2})
def Stv.Qu (s:Stv) (z st q:Nat) (b:List UInt8):Int×Stv:=
 ((s.dk.put (2+z) (Xd s.Qe s.next (Zd st q b))).1,{s with count:=s.next,dk:=(s.dk.put (2+z) (Xd s.Qe s.next (Zd st q b))).2})
end Mq
def lay (L:List UInt8) (off:Nat) (l:List UInt8):List UInt8:=L.take off++(l++L.drop (off+l.length))
theorem PT (h:w+aR.length<=r.length):(lay r w aR).length=r.length:=by
 simp[lay];omega
theorem Bj (L:List UInt8) (off:Nat) (l:List UInt8):bv (lay L off l)=(bv L).take off++(bv l++(bv L).drop (off+(bv l).length)):=by
 simp[lay,bv,List.map_take,List.map_drop]
theorem vQ:(prog.info? 5).map (·.size)=some 1:=by kernel_rfl
theorem TP:(prog.info? 214).map (·.size)=some 64:=by kernel_rfl
theorem JB (b o j:Nat):(⟨b,o,none⟩:Addr).add j=⟨b,o+j,none⟩:=by
 unfold Addr.add;split;rename_i h;subst h;rfl;rfl
theorem JC {K:Act->World->Prop} (d s:Operand)
  (H:J.op=.call {callee:=.builtin .copy,args:= #[d,s],argTypes:= #[48,48]}) (g off n cap:Nat) (L l:List UInt8) (t:TypeId) (v:Value)
  (z:p.heap[g]? =some (.cells (bv L).toArray t (0,0))) (hd:G.eval d=Es g off n cap) (Q:Qk p v l) (hs:G.eval s=v) (hl:l.length<=n) (ac:off+n<=L.length)
  (h:∀w',w'.heap[g]? =some (.cells (bv (lay L off l)).toArray t (0,0))->Far (λk=>k=g) p w'->K (G.put J.dst (Ej l.length)) w'):J.wp prog G p K aB:=by
 obtain⟨V,I,rfl,ad,ah,Y⟩:=Q;by_cases h0:l.length=0;obtain rfl:l=[]:=z68 h0;have F:=run_copy_none (P:=prog) p 48 48 J.type 5 (some ⟨g,off,none⟩) V n cap 0 I underlying48 vQ (by simp);unfold Oper.wp;simp[execOp,H,resolve,invoke,builtin,hd,hs,F,Result.andThen];exact h p (by rw[Bj];simpa[bv]using z) (Far.refl _ _);obtain⟨b,Z,rfl,aa⟩:=Y (by omega);have F:=run_copy_row (P:=prog) p 48 48 J.type 5 g off n cap ⟨b,Z,none⟩ l.length I (bv L).toArray t (bv l) underlying48 vQ z (by rw[AC];exact(Fu hl).symm) (by
  intro j u hj;have M:j < l.length:=by have:=(z25.1 hj).1;rw[AC]at this;exact this
  rw[JW M]at hj;cases hj;rw[JB];exact aa j M) (by rw[AC,Iw,AC];omega) (GO l)
 unfold Oper.wp;simp[execOp,H,resolve,invoke,builtin,hd,hs,F,Result.andThen];rw[AC];refine h _ ?_ ⟨rfl,rfl,rfl,by simp,λk _ ab=>mU p g k _ ab⟩;rw[Bj];have:=z91 p g (bv L).toArray ((bv L).take off++(bv l++(bv L).drop (off+(bv l).length))).toArray t (0,0) z;rw[AC]at this ⊢;simpa using this
theorem RJ {rest:List Oper} (z:J.guard=none) (d s:Operand)
  (F:J.op=.call {callee:=.builtin .copy,args:= #[d,s],argTypes:= #[48,48]}) (g off n cap:Nat) (L l:List UInt8) (t:TypeId) (v:Value)
  (H:p.heap[g]? =some (.cells (bv L).toArray t (0,0))) (hd:G.eval d=Es g off n cap) (I:Qk p v l) (hs:G.eval s=v) (hl:l.length<=n) (M:off+n<=L.length)
  (h:∀w',w'.heap[g]? =some (.cells (bv (lay L off l)).toArray t (0,0))->Far (λk=>k=g) p w'->wpList prog aC aB rest (G.put J.dst (Ej l.length)) w'):wpList prog aC aB (J::rest) G p:=
 jK z λ_ hK=>JC d s F g off n cap L l t v H hd I hs hl M (λw' h1 h2=>hK _ _ (h w' h1 h2))
theorem EF {rest:List Oper} (z:J.guard=none) (x:Operand) (F:J.op=.load 214 x)
  (g:Nat) (H:G.eval x=Er g 0) (t:TypeId) (L:List UInt8) (I:L.length=64) (M:p.heap[g]? =some (.cells (bv L).toArray t (0,0)))
  (h:wpList prog aC aB rest (G.put J.dst (.agg (bv L).toArray)) p):wpList prog aC aB (J::rest) G p:=
 wpList_load_row z 214 x F g H t _ (0,0) _ M underlying214 rfl (by rw[TP];simp[bv,I]) h
theorem FH {K:Act->World->Prop} (x:Operand) (z:J.op=.load 214 x)
  (g:Nat) (F:G.eval x=Er g 0) (t:TypeId) (L:List UInt8) (H:L.length=64) (I:p.heap[g]? =some (.cells (bv L).toArray t (0,0)))
  (h:K (G.put J.dst (.agg (bv L).toArray)) p):J.wp prog G p K aB:=
 wp_load_row 214 x z g F t _ (0,0) _ I underlying214 rfl (by rw[TP];simp[bv,H]) h
theorem Bk (l:List UInt8):(bv l).toArray.all (·.oneCell')=true:=by
 rw[z43];intro v z;exact GO l v (by simpa using z)
theorem GX {rest:List Oper} (H:J.guard=none) (x y:Operand) (I:J.op=.store 214 x y)
  (g:Nat) (M:G.eval x=Er g 0) (L:List UInt8) (z:L.length=64) (Q:G.eval y=.agg (bv L).toArray) (t:TypeId) (old:Array Value) (V:old.size=64) (F:Eh p g old t)
  (h:∀w',w'.heap[g]? =some (.cells (bv L).toArray t (0,0))->Far (λk=>k=g) p w'->wpList prog aC aB rest (G.put J.dst undef) w'):wpList prog aC aB (J::rest) G p:=
 wpList_store_row H 214 x y I g (bv L).toArray M Q t old F (by rw[TP];simp[bv,z]) (by rw[V];simp[bv,z]) (Bk L)
  (h _ (z91 p g old _ t (0,0) F) ⟨rfl,rfl,rfl,by simp,λk _ Y=>mU p g k _ Y⟩)
theorem YA {K:Act->World->Prop} (x y:Operand) (H:J.op=.store 214 x y)
  (g:Nat) (I:G.eval x=Er g 0) (L:List UInt8) (z:L.length=64) (M:G.eval y=.agg (bv L).toArray) (t:TypeId) (old:Array Value) (Q:old.size=64) (F:Eh p g old t)
  (h:∀w',w'.heap[g]? =some (.cells (bv L).toArray t (0,0))->Far (λk=>k=g) p w'->K (G.put J.dst undef) w'):J.wp prog G p K aB:=
 RH 214 x y H g (bv L).toArray I M t old F (by rw[TP];simp[bv,z]) (by rw[Q];simp[bv,z]) (Bk L)
  (h _ (z91 p g old _ t (0,0) F) ⟨rfl,rfl,rfl,by simp,λk _ V=>mU p g k _ V⟩)
theorem KV (h:dW.results= #[.cell dX 214]) (tmps:Array Value) (w:World) (g:Nat) (t:TypeId) (L:List UInt8) (z:L.length=64)
  (F:tmps.getD dX undef=Er g 0) (G:w.heap[g]? =some (.cells (bv L).toArray t (0,0))):(results dW tmps).run prog w=.ok (.agg (bv L).toArray) w:=
 results_cell_row h tmps w g t _ (0,0) _ F G underlying214 rfl (by rw[TP];simp[bv,z])
theorem YB (o c:Nat) (ao:o < 4294967296) (aq:c < 18446744073709551616) (w:World):
  Cp 200 #[.agg #[.int .u32 o,.int .u64 c]] w λr w'=>∃v,r=.returned v/\Qw (w.heap.size+1) w' v (Jh o c)/\El w w':=by
 go_enter func200,ntmps200;go_upto_region 1 with fail;refine G' (λx=>Eh x w.heap.size #[.int .u32 o,.int .u64 c] 188/\El w x) ?_ ?_;exact⟨z19 w _,bna⟩;rintro x ⟨I,Y⟩;have au:=z12 I;have c0:x.cell? (Ea w.heap.size 0)=some (.int .u32 o):=Bi 0 I;have Z:=y' I;have aa:=y' Y;clear I Y;have J:=λ(v:Value) (l:List UInt8) (n:Int) (y:World) (h1:l.length<=1000) (h2:w.heap.size+1<=y.heap.size) (h3:0<=n) (h4:Qw (w.heap.size+1) y v l)=>y' (BH (w.heap.size+1) n v l y h1 h2 h3 h4);have M:=λ(v:Value) (l:List UInt8) (y H:World) (h2:w.heap.size+1<=y.heap.size) (h4:Qw (w.heap.size+1) y v l) (z:y.grownBy H v.ownBlock)=>AB (B:=w.heap.size+1) z h2 (λg z=>(h4.lt g z).1);go_upto_region 2 with (go_at_call 103;refine Cm (J En [] (o:Int) x (by simp) (by omega) (by omega) (QK _ _)) ?_;rintro r y ⟨v1,rfl,G,z⟩);have F:=M _ _ x y (by omega) (QK _ _) z;have Q:=(F.block _ (Gh _)).trans (d' Z);have c1:y.cell? (Ea w.heap.size 1)=some (.int .u64 c):=Bi 1 Q;have av:=F.size;have ab:=y' ((d' aa).trans (F.mono (by omega)));have V:=y' G;have ac:=y' Q;clear G z F Q c0 Z aa;have ai:IntKind.u32.wrap (c:Int)=((c % 4294967296:Nat):Int):=by rw[Kv];omega
 go_upto_region 3 with (go_at_call 103;refine Cm (J v1 _ ((c % 4294967296:Nat):Int) y (by simp[Qz]) (by omega) (by omega) (d' V)) ?_;rintro r H ⟨aj,rfl,G,z⟩)
 have F:=M _ _ y H (by omega) (d' V) z;have ad:=(F.block _ (Gh _)).trans (d' ac);have c2:H.cell? (Ea w.heap.size 1)=some (.int .u64 c):=Bi 1 ad;have ax:=F.size;have ak:=y' ((d' ab).trans (F.mono (by omega)));have ah:=y' G;clear G z F ad c1 ac ab V ai;go_wp2_with (go_at_call 103;refine Cm (J aj _ ((c / 4294967296:Nat):Int) H (by simp[Qz]) (by omega) (by omega) (d' ah)) ?_;rintro r u ⟨v3,rfl,G,z⟩);have F:=M _ _ H u (by omega) (d' ah) z;go_ret;exact⟨v3,rfl,by simpa[Jh]using G,(d' ak).trans (F.mono (by omega))⟩
theorem vR (h:w < r.length):(bv r).toArray[w]? =some (.int .u8 (r.getD w 0).toNat):=by
 rw[Gf];exact JW h
theorem oC (S T:List UInt8) (w:World):∀ (is:List Nat),(∀i∈is,i < S.length/\i < T.length)->
  (Op.eqItems 9999 5 1 (bv S).toArray (bv T).toArray is).run prog w=.ok (is.all λi=>S.getD i 0==T.getD i 0) w
 |[],_=>by simp[Op.eqItems]
 |i::is,h=>by
  have h0:=h i (.head _);have z:=Gk (P:=prog) w (e:=5) (by kernel_rfl) (xs:=(bv S).toArray) (off:=i) (vR h0.1);have F:=Gk (P:=prog) w (e:=5) (by kernel_rfl) (xs:=(bv T).toArray) (off:=i) (vR h0.2);have G:=run_equalIn_int (P:=prog) w 9998 5 .u8 .u8 ((S.getD i 0).toNat:Int) ((T.getD i 0).toNat:Int) underlying5;have ih:=oC S T w is (λj hj=>h j (.tail _ hj));simp only[Op.eqItems,Nat.mul_one,Sem.run_bind,z,F,G,Result.andThen_ok,List.all_cons];have e:(((S.getD i 0).toNat:Int) == ((T.getD i 0).toNat:Int))=(S.getD i 0==T.getD i 0):=by
   rw[Gj,zP,zP];constructor
   .intro e;exact UInt8.toNat_inj.1 (by omega)
   .intro e;rw[e]
  rw[e];cases H:(S.getD i 0==T.getD i 0)
  .simp
  .simpa using ih
theorem Kx (z:r.length=w) (F:aR.length=w):((List.range w).all λi=>r.getD i 0==aR.getD i 0)=decide (r=aR):=by
 rw[Gj,z70,jJ];constructor;intro h;apply List.ext_getElem (by omega);intro i h1 h2;have:=h i (z88.2 (by omega));simpa[h1,h2]using this;rintro rfl i _;simp
theorem TQ {S T:List UInt8} (z:S.length=64) (F:T.length=64) (w:World):(Op.equalIn 10000 214 (.agg (bv S).toArray) (.agg (bv T).toArray)).run prog w=.ok (decide (S=T)) w:=by
 obtain⟨i,hi⟩:∃i,prog.info? 5=some i:=by
  have:=vQ;cases h:prog.info? 5 with
  |none=>rw[h]at this;cases this
  |some i=>exact⟨i,rfl⟩
 have G:prog.cellsOf 5=1:=by kernel_rfl
 have e:=oC S T w (List.range 64) (λi hi=>by have:=z88.1 hi;omega);rw[Kx z F,<-G]at e;exact(Kt (P:=prog) w 9999 (bv S).toArray (bv T).toArray underlying214 hi).trans e
theorem YC (off:Nat):∀ (l:List Value) (i:Nat) (z:Array Value),off+i+l.length<=z.size->
  (l.zipIdx i).foldl (λz (p:Value×Nat)=>z.setIfInBounds (off+p.2) p.1) z=(z.toList.take (off+i)++l++z.toList.drop (off+i+l.length)).toArray
 |[],i,z,_=>by simp
 |v::l,i,z,h=>by
  rw[List.zipIdx_cons,List.foldl_cons,YC off l (i+1) _ (by simp at h ⊢;omega)];have:=list_seg_step z.toList (off+i) v l (by simp at h ⊢;omega);congr 1;rw[Fq];have F:off+(i+1)=off+i+1:=by omega
  rw[F,this,z60]
def CF:List UInt8:=List.replicate 64 0
theorem BD:CF.length=64:=by simp[CF]
theorem Bl (parts:List (Nat×Value)):prog.built 254 parts=Instr.fill (λx=>(#[(0,1),(1,64)]:Array (Nat×Nat))[x]?) (Value.int .i64 0::bv CF).toArray parts:=by kernel_rfl
theorem oD (k:Int) (S:List UInt8) (F:S.length=64):prog.built 254 [(0,Ej k),(1,.agg (bv S).toArray)]=some (Ej k::bv S).toArray:=by
 rw[Bl];have z:(bv CF).length=64:=by rw[AC,BD]
 have hb:(bv S).length=64:=by rw[AC,F]
 have G:=YC 1 (bv S) 0 (Value.int .i64 k::bv CF).toArray (by simp[z,hb]);generalize H:bv CF=I,J:bv S=X at *;have M:X.toArray.size=64:=by simpa using hb
 simp only[Instr.fill,Value.cells];simp[z,hb];rw[G];simp[z,hb]
theorem Bm (o c:Nat) (ins:List UInt8) (h:ins.length<=40):lay (lay (lay (List.replicate 64 0) 0 (Jh o c)) 12 ins) 52 (Jh o c)=Xd o c ins:=by
 have z:lay (List.replicate 64 (0:UInt8)) 0 (Jh o c)=Jh o c++List.replicate 52 0:=by simp[lay,Qt]
 rw[z];have F:lay (Jh o c++List.replicate 52 0) 12 ins=Jh o c++ins++List.replicate (52 - ins.length) 0:=by unfold lay;rw[List.take_left' (Qt o c),List.drop_append,List.drop_eq_nil_of_le (by rw[Qt];omega),Qt,Ks,z78,z39];congr 3;omega
 rw[F];unfold lay Xd;have hl:(Jh o c++ins).length=12+ins.length:=by rw[z29,Qt]
 rw[Ku,z48 (by omega),List.take_replicate,List.drop_append,List.drop_eq_nil_of_le (by rw[hl,Qt];omega),Ks,hl,Qt];have G:min (52 - (12+ins.length)) (52 - ins.length)=40 - ins.length:=by omega
 have H:52 - ins.length - (52+12 - (12+ins.length))=0:=by omega
 rw[G,H];simp
theorem NT (w:World) (A B C:Obj):(((w.alloc A).alloc B).alloc C).heap[w.heap.size]? =some A/\(((w.alloc A).alloc B).alloc C).heap[w.heap.size+1]? =some B/\(((w.alloc A).alloc B).alloc C).heap[w.heap.size+2]? =some C/\El w (((w.alloc A).alloc B).alloc C):=by
 have h1:=z19 (w.alloc A) B;have h2:=z19 ((w.alloc A).alloc B) C;have z:(w.alloc A).heap.size=w.heap.size+1:=by simp
 have F:((w.alloc A).alloc B).heap.size=w.heap.size+2:=by simp
 rw[z]at h1;rw[F]at h2;refine⟨?_,?_,h2,(bna.alloc (by omega) _).alloc (by omega) _⟩;rw[hao _ _ (by omega),hao _ _ (by omega)];exact z19 w A;rw[hao _ _ (by omega)];exact h1
theorem NU (h:dY=some (.cells l j aA)) (e:l=aN):dY=some (.cells aN j aA):=by rw[<-e];exact h
def oE (B:Nat) (l:List UInt8) (v:Value) (w:World):Prop:=Qw B w v l/\∀g,v.ownBlock=some g->g < w.heap.size
theorem ai' (B:Nat) (l:List UInt8):CL (oE B l):=λ_ _ _ h hb=>⟨h.1.below hb h.2,λg z=>z21 (h.2 g z) hb.size⟩
theorem oF (o c:Nat) (ins:List UInt8) (v:Value) (w:World) (aE:o < 4294967296) (aF:c < 18446744073709551616) (hi:ins.length<=40) (ak:Qk w v ins):
  Cp 171 #[.agg #[.int .u32 o,.int .u64 c],v] w λr w'=>Rr r (.agg (bv (Xd o c ins)).toArray)/\El w w':=by
 have ao:=λy=>y' (YB o c aE aF y);go_enter func171,ntmps171;go_upto_region 2 with fail;refine G' (λx=>Eh x w.heap.size #[.int .u32 o,.int .u64 c] 188/\x.heap[w.heap.size+1]? =some (.cells (bv CF).toArray 214 (0,0))/\x.heap[w.heap.size+2]? =some (.cells (bv CF).toArray 214 (0,0))/\El w x) ?_ ?_;exact⟨(NT _ _ _ _).1,NU (NT _ _ _ _).2.1 (by kernel_rfl),NU (NT _ _ _ _).2.2.1 (by kernel_rfl),(NT _ _ _ _).2.2.2⟩;rintro x ⟨h0,h1,h2,aq⟩;have au:=y' h0;have av:=y' h1;have ax:=y' h2;have V:=y' aq;have aN:=z12 h2;obtain⟨c0,c1⟩:=LG h0;have aG:=y' ak;clear h0 h1 h2 aq ak;refine Z'
  [Ev (Es (w.heap.size+2) 0 64 64),Ev (.agg #[.int .u32 o,.int .u64 c]),oE (w.heap.size+3) (Jh o c),Et]
  [[5],[2],[2007],[1006,3008]] [7,8,9,10] [6,4,8]
  3 _ rfl rfl ?_ ?_ (hst:=by repeat' (first|exact Y' _|exact ai' _ _|exact aa'|exact trivial|apply z13))
 .refine⟨?_,?_,?_,trivial⟩;all_goals
   intro a y hb Y;have aH:=Bc hb (by show w.heap.size < _;omega) c0;have aI:=Bc hb (by show w.heap.size < _;omega) c1;have Z:=hb.size;clear hb;simp[J']at Y;try go_simp
   try exact z11 _ _
  refine Cm (ao _) ?_;rintro r w1 ⟨v1,rfl,G,aa⟩;exact⟨v1,rfl,aa,G.mono (by omega),λg ab=>(G.lt g ab).2⟩
 intro f y hb z;simp only[AJ,List.take]at z;have ay:=z.1;have az:=z.2.2.1;simp only[V',ay];have g0:=(hb.block _ (by show w.heap.size < _;omega)).trans (d' au);have g1:=(hb.block _ (by show w.heap.size+1 < _;omega)).trans (d' av);have g2:=(hb.block _ (by show w.heap.size+2 < _;omega)).trans (d' ax);have H:=y' ((d' V).trans (hb.mono (by have:=(d' V).size;omega)));generalize f 8=v8,f 7=aO at *;have Z:=hb.size;refine JC (.tmp 6) (.tmp 8) rfl (w.heap.size+2) 0 64 64 CF (Jh o c) 214 v8 g2 rfl az.1.at rfl (by rw[Qt];omega) (by rw[BD];omega) ?_;intro aP F hF;have ac:=y' (hF.blk g0 (by omega));have I:=y' (hF.blk g1 (by omega));have J:=y' F;have ad:=y' ((d' H).trans (hF.below (by omega) (λk ah e=>by omega)));have aQ:=hF.size;clear hb ay az g0 g1 g2 hF F H au av ax V c0 c1 z;obtain⟨c0,c1⟩:=LG (d' ac);have aA:(lay CF 0 (Jh o c)).length=64:=by rw[PT (by rw[Qt,BD];omega),BD]
 have M:=y' aA;clear aA;go_simp;go_upto_region 4 with (refine RJ rfl (.tmp 10) (.tmp 11) rfl (w.heap.size+2) 12 40 52 (lay CF 0 (Jh o c)) ins 214 v (d' J) rfl ((d' aG).below (d' ad)) rfl hi (by rw[d' M];omega) ?_;intro u hu hF;go_simp);have aB:(lay (lay CF 0 (Jh o c)) 12 ins).length=64:=by rw[PT (by rw[d' M];omega),d' M]
 have ai:=y' aB;have aj:=y' ((d' ad).trans (hF.below (by omega) (λk ah e=>by omega)));have g0:=hF.blk (d' ac) (by omega);have I:=y' (hF.blk (d' I) (by omega));have J:=y' hu;have aR:=hF.size;obtain⟨c0,c1⟩:=LG g0;clear aB hu hF g0 ad ac M;refine Z'
  [Ev (Es (w.heap.size+2) 52 12 12),Ev (.agg #[.int .u32 o,.int .u64 c]),oE (w.heap.size+3) (Jh o c),Et]
  [[5],[2],[2014],[1013,3015]] [14,15,16,17] [13,4,1]
  3 _ rfl rfl ?_ ?_ (hst:=by repeat' (first|exact Y' _|exact ai' _ _|exact aa'|exact trivial|apply z13))
 .refine⟨?_,?_,?_,trivial⟩;all_goals
   intro a y hb Y;have aH:=Bc hb (by show w.heap.size < _;omega) c0;have aI:=Bc hb (by show w.heap.size < _;omega) c1;have Z:=hb.size;clear hb;simp[J']at Y;try go_simp
   try exact z11 _ _
  refine Cm (ao _) ?_;rintro r w1 ⟨v1,rfl,G,aa⟩;exact⟨v1,rfl,aa,G.mono (by omega),λg ab=>(G.lt g ab).2⟩
 intro f y hb z;simp only[AJ,List.take]at z;have aC:=z.1;have aD:=z.2.2.1;simp only[V',aC];have g1:=(hb.block _ (by show w.heap.size+1 < _;omega)).trans (d' I);have g2:=(hb.block _ (by show w.heap.size+2 < _;omega)).trans (d' J);have H:=y' ((d' aj).trans (hb.mono (by have:=(d' aj).size;omega)));generalize f 15=aJ,f 14=aS at *;have Z:=hb.size;refine JC (.tmp 13) (.tmp 15) rfl (w.heap.size+2) 52 12 12 _ (Jh o c) 214 aJ g2 rfl aD.1.at rfl (by rw[Qt];omega) (by rw[d' ai];omega) ?_;intro z3 F hF;have Q:(lay (lay (lay CF 0 (Jh o c)) 12 ins) 52 (Jh o c)).length=64:=by rw[PT (by rw[d' ai,Qt];omega),d' ai]
 have g1:=hF.blk g1 (by omega);have aK:=y' ((d' H).trans (hF.below (by omega) (λk ah e=>by omega)));have aT:=hF.size;rw[show lay (lay (lay CF 0 (Jh o c)) 12 ins) 52 (Jh o c)=Xd o c ins from Bm o c ins hi]at F Q;have I:=y' g1;have J:=y' F;clear hb aC aD g1 g2 hF F H aj c0 c1 z;go_simp;go_wp2_with (first
  |(refine EF rfl (.tmp 5) rfl (w.heap.size+2) rfl 214 (Xd o c ins) Q (d' J) ?_)
  |(refine GX rfl (.tmp 4) (.tmp 17) rfl (w.heap.size+1) rfl (Xd o c ins) Q rfl 214 _ (by simp[AC,BD]) (d' I) ?_;intro z4 aL aM;go_simp))
 exact z47 (KV results171 _ _ (w.heap.size+1) _ _ Q rfl aL) rfl ⟨rfl,(d' aK).trans (aM.below (by omega) (λk ah e=>by omega))⟩
theorem FD (w:World) (A B:Obj):((w.alloc A).alloc B).heap[w.heap.size]? =some A/\((w.alloc A).alloc B).heap[w.heap.size+1]? =some B/\El w ((w.alloc A).alloc B):=by
 have h1:=z19 (w.alloc A) B;have z:(w.alloc A).heap.size=w.heap.size+1:=by simp
 rw[z]at h1;refine⟨?_,h1,bna.alloc (by omega) _⟩;rw[hao _ _ (by omega)];exact z19 w A
theorem RK (o c a b d:Nat) (w:World) (ax:o < 4294967296) (ay:c < 18446744073709551616) (aC:a < 4294967296) (hb:b < 4294967296) (hd:d < 4294967296):
  Cp 164 #[.agg #[.int .u32 o,.int .u64 c,.int .i64 a,.int .i64 b,.int .i64 d]] w λr w'=>r=.returned (.agg (bv (Xd o c (Jw a b d))).toArray)/\Below w.heap.size w w':=by
 have aD:∀y:World,(Instr.index 100 (.agg #[.int .i64 a,.int .i64 b,.int .i64 d]) (.int .i64 0)).run prog y=.ok (.int .i64 a) y:=λy=>by kernel_rfl
 have aE:∀y:World,(Instr.index 100 (.agg #[.int .i64 a,.int .i64 b,.int .i64 d]) (.int .i64 1)).run prog y=.ok (.int .i64 b) y:=λy=>by kernel_rfl
 have aF:∀y:World,(Instr.index 100 (.agg #[.int .i64 a,.int .i64 b,.int .i64 d]) (.int .i64 2)).run prog y=.ok (.int .i64 d) y:=λy=>by kernel_rfl
 have hl:∀n:Int,(le4 n).length=4:=λn=>Qz n;go_enter func164,ntmps164;go_upto_region 2 with fail;refine G' (λx=>x.heap[w.heap.size]? =some (.cells #[.int .u32 o,.int .u64 c,.int .i64 a,.int .i64 b,.int .i64 d] 199 (0,0))/\x.heap[w.heap.size+1]? =some (.cells (bv CF).toArray 214 (0,0))/\Below w.heap.size w x) ?_ ?_;exact⟨(FD _ _ _).1,NU (FD _ _ _).2.1 (by kernel_rfl),(FD _ _ _).2.2⟩;rintro x ⟨h0,h1,aj⟩;have c2:x.cell? ⟨w.heap.size,2,none⟩=some (.int .i64 a):=Bi 2 h0;have c3:x.cell? ⟨w.heap.size,3,none⟩=some (.int .i64 b):=Bi 3 h0;have c4:x.cell? ⟨w.heap.size,4,none⟩=some (.int .i64 d):=Bi 4 h0;have aG:=z12 h1;have I:=y' h0;have J:=y' h1;have ak:=y' aj;clear h0 h1 aj;go_wp2;go_loopw[3,5,8] (λv _ i wr=>∃j:Nat,j<=3/\i=.int .i64 j/\Qw (w.heap.size+2) wr v ((Jw a b d).take (4 * j))/\wr.heap[w.heap.size]? =some (.cells #[.int .u32 o,.int .u64 c,.int .i64 a,.int .i64 b,.int .i64 d] 199 (0,0))/\wr.heap[w.heap.size+1]? =some (.cells (bv CF).toArray 214 (0,0))/\Below w.heap.size w wr) (λ_ _ i _=>3 - (intOf i).toNat)
 case atStart=>exact⟨0,by omega,rfl,QK _ _,d' I,d' J,d' ak⟩
 case round=>
  obtain⟨j,hj,rfl,ao,aq,ac,au⟩:=hrel;clear I J ak c2 c3 c4;have aH:=z12 ac;have G:=y' ao;have I:=y' aq;have J:=y' ac;have M:=y' au;clear ao aq ac au;rcases(show j=0\/j=1\/j=2\/j=3 by omega)with rfl|rfl|rfl|rfl
  .have V:=y' (show(Jw a b d).take (4 * (0+1))=(Jw a b d).take (4 * 0)++le4 a by simp[Jw,le4]);go_upto_region 6 with (go_at_call 103;refine(BH (w.heap.size+2) (a:Int) u3 _ wr (by simp only[List.length_take,Ju];omega) (by omega) (by omega) (d' G)).mono ?_;rintro r Q ⟨v',rfl,H,z⟩;have F:Below (w.heap.size+2) wr Q:=AB z (by omega) (λg z=>((d' G).lt g z).1);have Y:=y' H;have Z:=y' ((d' M).trans (F.mono (by omega)));have aa:=y' ((F.block _ (by omega)).trans (d' I));have ab:=y' ((F.block _ (by omega)).trans (d' J));clear H z F);go_wp2;exact⟨⟨0+1,by omega,by go_num,by rw[d' V];exact d' Y,d' aa,d' ab,d' Z⟩,by simp[intOf]⟩
  .have V:=y' (show(Jw a b d).take (4 * (1+1))=(Jw a b d).take (4 * 1)++le4 b by simp[Jw,le4]);go_upto_region 6 with (go_at_call 103;refine(BH (w.heap.size+2) (b:Int) u3 _ wr (by simp only[List.length_take,Ju];omega) (by omega) (by omega) (d' G)).mono ?_;rintro r Q ⟨v',rfl,H,z⟩;have F:Below (w.heap.size+2) wr Q:=AB z (by omega) (λg z=>((d' G).lt g z).1);have Y:=y' H;have Z:=y' ((d' M).trans (F.mono (by omega)));have aa:=y' ((F.block _ (by omega)).trans (d' I));have ab:=y' ((F.block _ (by omega)).trans (d' J));clear H z F);go_wp2;exact⟨⟨1+1,by omega,by go_num,by rw[d' V];exact d' Y,d' aa,d' ab,d' Z⟩,by simp[intOf]⟩
  .have V:=y' (show(Jw a b d).take (4 * (2+1))=(Jw a b d).take (4 * 2)++le4 d by simp[Jw,le4]);go_upto_region 6 with (go_at_call 103;refine(BH (w.heap.size+2) (d:Int) u3 _ wr (by simp only[List.length_take,Ju];omega) (by omega) (by omega) (d' G)).mono ?_;rintro r Q ⟨v',rfl,H,z⟩;have F:Below (w.heap.size+2) wr Q:=AB z (by omega) (λg z=>((d' G).lt g z).1);have Y:=y' H;have Z:=y' ((d' M).trans (F.mono (by omega)));have aa:=y' ((F.block _ (by omega)).trans (d' I));have ab:=y' ((F.block _ (by omega)).trans (d' J));clear H z F);go_wp2;exact⟨⟨2+1,by omega,by go_num,by rw[d' V];exact d' Y,d' aa,d' ab,d' Z⟩,by simp[intOf]⟩
  rw[z48 (by rw[Ju];omega)]at G;obtain⟨c0,c1⟩:=LG (d' I);have av:=y' (oF o c (Jw a b d) u3 wr ax ay (by rw[Ju];omega) (d' G).at);have ad:(Xd o c (Jw a b d)).length=64:=Jz o c (by rw[Ju];omega);obtain⟨S,ah⟩:=exq (Xd o c (Jw a b d));rw[<-ah]at av ad;have az:=y' ah;clear ah;go_wp2_with (first
   |(go_at_call 171;refine Cm av ?_;rintro r Q ⟨rfl,ai⟩)
   |(refine GX rfl (.tmp 2) (.tmp 19) rfl (w.heap.size+1) rfl S ad rfl 214 _ (by simp[AC,BD]) ((ai.block _ (by omega)).trans (d' J)) ?_;intro z4 aA aB;go_simp))
  exact z47 (KV results164 _ _ (w.heap.size+1) _ _ ad rfl aA) rfl ⟨by rw[d' az],((d' M).trans (ai.mono (d' M).size)).trans (aB.below (by have:=(d' M).size;have:=ai.size;omega) (λk aI e=>by omega))⟩
theorem kI {K:Act->World->Prop} (s x:Operand)
  (F:J.op=.call {callee:=.builtin .append,args:= #[s,x],argTypes:= #[48,9]}) (B:Nat) (v:Value) (l:List UInt8) (H:Qw B p v l) (hs:G.eval s=v)
  (z:z10) (I:G.eval x=.string z) (M:l.length+z.size<=140737488355328) (Q:B<=p.heap.size)
  (h:∀v' w',Qw B w' v' (l++z.data.toList)->p.grownBy w' v.ownBlock->K (G.put J.dst v') w'):J.wp prog G p K aB:=by
 obtain⟨i0,hi,V,Y,Z⟩:=jL UQ;obtain⟨v',w',aa,h1,h2,_⟩:=Lib.run_append_own_string (P:=prog) p B 48 9 J.type 5 i0 underlying48 underlying9 hi V Y Z v l.length (bv l) H z
  (by unfold maxLen;omega) M Q
 unfold Oper.wp execOp;simp only[F,resolve,invoke,builtin,Sem.run_bind,Sem.run_pure,Result.andThen_ok,List.map_toArray,List.map_cons,List.map_nil,hs,I,aa];refine h v' w' ?_ h2;unfold Qw;rw[FN,z29,<-zV];have:z.data.toList.length=z.size:=by simp
 rw[this];exact h1
theorem BA {w':World} (h:p.ownsRow w j a y q C) (z:∀g,y.ownBlock=some g->w'.heap[g]? =p.heap[g]?):w'.ownsRow w j a y q C:=by
 obtain⟨h1,h2⟩:=h;refine⟨h1,?_⟩;rcases h2 with h2|⟨g,cap,F,rfl,hb,G,r⟩;exact .inl h2;exact .inr ⟨g,cap,F,rfl,hb,by rw[z g rfl];exact G,r⟩
theorem aC' (F:∀k,N k->k < w):DO N (oE w r):=λ_ _ _ h hF=>
 ⟨BA h.1 (λg z=>hF.rest g (h.2 g z) (λe=>by have:=(h.1.lt g z).1;have:=F g e;omega)),λg z=>z21 (h.2 g z) hF.size⟩
theorem ac' (k:Nat) (o:Obj):CL (λ_ w=>w.heap[k]? =some o):=λ_ _ _ h hb=>(hb.block k (z12 h)).trans h
theorem aL' (z:¬N w):DO N (λ_ F=>F.heap[w]? =some aU):=λ_ _ _ h hF=>hF.blk h z
theorem Bn {B:Nat} (x:World) (z:B<=x.heap.size) (a b:Nat) (F:a < 256) (hb:b < 256):Qw B (x.alloc (.cells #[.int .u8 a,.int .u8 b] 5)) (Es x.heap.size 0 2 2) [UInt8.ofNat (a % 256),UInt8.ofNat (b % 256)]:=by
 refine⟨by simp[bv],.inr ⟨x.heap.size,2,_,rfl,z,z19 x _,by simp,by unfold maxLen;omega,by simp,?_⟩⟩;have h1:a % 256=a:=by omega
 have h2:b % 256=b:=by omega
 simp[bv,h1,h2]
theorem NV (o c st q:Nat) (b:z10) (w:World) (az:o < 4294967296) (aA:c < 18446744073709551616) (hs:st < 256) (aK:q < 4294967296) (hb:b.size<=20):
  Cp 124 #[.agg #[.int .u32 o,.int .u64 c],.agg #[Ej st,Ej q,.string b]] w λr w'=>Rr r (.agg (bv (Xd o c (Zd st q b.data.toList))).toArray)/\El w w':=by
 have aL:IntKind.u8.wrap (st:Int)=(st:Int):=by rw[IntKind.wrap_u8];omega
 have aM:IntKind.u8.wrap (b.size:Int)=(b.size:Int):=by rw[IntKind.wrap_u8];omega
 have aN:IntKind.u32.wrap (q:Int)=(q:Int):=by rw[Kv];omega
 go_enter func124,ntmps124;go_upto_region 1 with fail;refine G' (λx=>Eh x w.heap.size #[.int .u32 o,.int .u64 c] 188/\Eh x (w.heap.size+1) #[Ej st,Ej q,.string b] 150/\x.heap[w.heap.size+2]? =some (.cells (bv CF).toArray 214 (0,0))/\El w x) ?_ ?_;exact⟨(NT _ _ _ _).1,(NT _ _ _ _).2.1,NU (NT _ _ _ _).2.2.1 (by kernel_rfl),(NT _ _ _ _).2.2.2⟩;rintro x ⟨h0,h1,h2,ak⟩;have aO:=z12 h2;obtain⟨c0,c1,c2⟩:=PM h1;have aB:∀ao,(x.alloc ao).cell? (Ea (w.heap.size+1) 1)=some (Ej q):=λao=>by exact(z85 x _ ⟨w.heap.size+1,1,none⟩ (by show w.heap.size+1 < _;omega)).trans c1
 have J:=y' h0;have aC:=y' h1;have Z:=y' h2;have aa:=y' ak;clear h0 h1 h2 ak;have aD:=λ(v:Value) (l:List UInt8) (n:Int) (y:World) (h1:l.length<=1000) (h2:w.heap.size+3<=y.heap.size) (h3:0<=n) (h4:Qw (w.heap.size+3) y v l)=>y' (BH (w.heap.size+3) n v l y h1 h2 h3 h4);have ab:=y' (Bn x (B:=w.heap.size+3) (by omega) st b.size hs (by omega));go_upto_region 2 with (go_at_call 103;refine Cm (aD _ _ (q:Int) _ (by simp) (by simp;omega) (by omega) (d' ab)) ?_;rintro r y ⟨v5,rfl,aq,z⟩);have G:Below (w.heap.size+3) x y:=((z11 _ _).alloc (by omega) _).trans (AB z (by simp;omega) (λg z=>((d' ab).lt g z).1));have J:=y' ((G.block _ (by omega)).trans (d' J));have au:=(G.block (w.heap.size+1) (by omega)).trans (d' aC);have Z:=y' ((G.block (w.heap.size+2) (by omega)).trans (d' Z));have aa:=y' ((d' aa).trans (G.mono (by omega)));have aP:=G.size;have ac:=y' aq;obtain⟨c0,aQ⟩:=LG (d' J);have c2:y.cell? (Ea (w.heap.size+1) 2)=some (.string b):=Bi 2 au;clear aq z ab aB c1 au G;have ad:(Zd st q b.data.toList).length<=40:=by rw[Zr];simp;omega
 have M:(Xd o c (Zd st q b.data.toList)).length=64:=Jz o c ad;obtain⟨R,Q⟩:=exq (Zd st q b.data.toList);rw[<-Q]at ad M;have ah: [UInt8.ofNat (st % 256),UInt8.ofNat (b.size % 256)]++le4 q++b.data.toList=R:=by rw[Q];simp[Zd]
 have av:=λv y aE=>y' (oF o c R v y az aA ad aE);obtain⟨S,ai⟩:=exq (Xd o c R);rw[<-ai]at av M;have aF:=y' (show S=Xd o c (Zd st q b.data.toList) by rw[ai,Q]);have ah:=y' ah;clear ai Q;have V:=y' (λg z=>((d' ac).lt g z).1);have aj:∀k,k < w.heap.size+2->∀p∈ ([(4,λk=>v5.ownBlock=some k),(6,λk=>k=w.heap.size+2)]:List (Nat× (Nat->Prop))),¬p.2 k:=by intro k ax p F;simp at F;rcases F with rfl|rfl;intro e;have:=(d' V) k e;omega;intro e;have e:k=w.heap.size+2:=e;omega
 refine AH
  [Ev (.agg #[.int .u32 o,.int .u64 c]),Ev v5,Ep (w.heap.size+1) 2,Ev (.string b),oE (w.heap.size+3) R,Ev (.agg (bv S).toArray),λ_ H=>H.heap[w.heap.size+2]? =some (.cells (bv S).toArray 214 (0,0))]
  [[2],[5],[3],[3020],[2019,4021],[1018,5022],[4,6023]] [19,20,21,22,23,24,0] [18,6]
  [(4,λk=>v5.ownBlock=some k),(6,λk=>k=w.heap.size+2)] ?_ ?_ (hst:=by repeat' (first|exact Y' _|exact ai' _ _|exact ac' _ _|exact trivial|apply z13)) (hstF:=by repeat' (first|exact trivial|exact .inl rfl|exact .inr (.inr (ab' _ _))|exact .inr (.inr (aC' (λk ax=>by omega)))|exact .inr (.inr (aL' (λe=>by have:=(d' V) _ e;omega)))|apply z13))
 .refine⟨?_,?_,?_,?_,?_,?_,?_,trivial⟩;all_goals
   intro a H hb I;have z0:=hb.blk (d' J) (FK (aj _ (by omega)));obtain⟨d0,d1⟩:=LG z0;have d2:H.cell? (Ea (w.heap.size+1) 2)=some (.string b):=by have:=hb.rest (w.heap.size+1) (by omega) (FK (aj _ (by omega)));unfold World.cell? at c2 ⊢;simp only at c2 ⊢;rw[this];exact c2
   have aR:=hb.size;have Y:=y' hb;clear hb z0;simp[J']at I
  .go_simp;exact⟨_,rfl,Far.refl _ _,rfl⟩
  .go_simp;exact⟨_,rfl,Far.refl _ _,rfl⟩
  .go_simp;exact⟨_,rfl,Far.refl _ _,rfl⟩
  .go_simp;exact⟨_,rfl,Far.refl _ _,rfl⟩
  have aG:Qw (w.heap.size+3) H v5 _:=BA (d' ac) (λg z=>(d' Y).rest g ((d' ac).lt g z).2 (by rintro⟨p,F,h1,_,h3⟩;simp at F;rcases F with rfl|rfl;exact h1 rfl;have:=(d' V) g z;have h3:g=w.heap.size+2:=h3;omega));rw[if_pos (by rfl)];refine kI (.tmp 19) (.tmp 21) rfl (w.heap.size+3) v5 _ aG (by simp[Act.eval,I]) b (by simp[Act.eval,I]) (by simp[Qz];omega) (by omega) ?_;intro v' w' h1 h2;rw[show _=R from d' ah]at h1;exact⟨v',rfl,AQ (.head _) (BU h2),h1,λg z=>(h1.lt g z).2⟩
  .go_simp;refine Cm (av _ H I.2.1.at) ?_;rintro r w1 ⟨rfl,aH⟩;exact⟨_,rfl,I' aH,rfl⟩
  have aI:=(d' Y).blk (d' Z) (by rintro⟨p,F,h1,_,h3⟩;simp at F;rcases F with rfl|rfl;have:=(d' V) _ h3;omega;exact h1 rfl);rw[if_pos (by rfl)];refine YA (.tmp 4) (.tmp 23) rfl (w.heap.size+2) (by simp[Act.eval,I]) S M (by simp[Act.eval,I]) 214 _ (by simp[AC,BD]) aI ?_;intro w' h1 h2;exact⟨_,rfl,AQ (.tail _ (.head _)) h2,h1⟩
 intro f H hF ay;have aJ:=ay.2.2.2.2.2.2.1;have Y:=y' ((d' aa).trans (hF.below (by omega) (λk ax h=>by obtain⟨p,F,h3⟩:=h;exact aj k (by omega) p F h3)));clear ay hF;simp only[V'];go_simp;go_wp2;exact z47 (KV results124 _ _ (w.heap.size+2) _ _ M rfl aJ) rfl ⟨by rw[d' aF],d' Y⟩
theorem fI {K:Act->World->Prop} (d s:Operand)
  (Q:J.op=.call {callee:=.builtin .copy,args:= #[d,s],argTypes:= #[48,48]}) (g off n cap m:Nat) (z:Array Value) (F:List Value) (t:TypeId) (b H I:Nat)
  (M:Eh p g z t) (hd:G.eval d=Es g off n cap) (hs:G.eval s=Es b H m I) (V:F.length=m) (Y:∀j v,F[j]? =some v->p.cell? (Ea b (H+j))=some v) (hl:m<=n) (Z:off+m<=z.size) (h1:∀v∈F,v.oneCell'=true)
  (h:∀w',w'.heap[g]? =some (.cells (z.toList.take off++(F++z.toList.drop (off+m))).toArray t (0,0))->Far (λk=>k=g) p w'->K (G.put J.dst (Ej m)) w'):J.wp prog G p K aB:=by
 subst V;have aa:=run_copy_row (P:=prog) p 48 48 J.type 5 g off n cap ⟨b,H,none⟩ F.length I z t F underlying48 vQ M (Fu hl).symm (by intro j u hj;rw[JB];exact Y j u hj) Z h1;unfold Oper.wp;simp[execOp,Q,resolve,invoke,builtin,hd,hs,aa,Result.andThen];exact h _ (z91 p g z _ t (0,0) M) ⟨rfl,rfl,rfl,by simp,λk _ ab=>mU p g k _ ab⟩
theorem xP (w:World) (k:Nat) (S L:List UInt8) (lv:Value) (F:S.length=64) (Z:64 * k+64<=L.length) (ai:L.length<=10000) (aj:w.ownsRow 0 5 1 lv L.length (bv L)):
  Cp 176 #[.agg (Ej k::bv S).toArray,lv] w λr w'=>Rr r (.tuple #[])/\w'.ownsRow 0 5 1 lv (Xc L k S).length (bv (Xc L k S))/\Far (λj=>lv.ownBlock=some j) w w':=by
 have I:=Xa (l:=L) (k:=k) F Z;obtain⟨h1,h2⟩:=aj;rcases h2 with ⟨_,h2⟩|⟨g,cap,z,rfl,aE,J,hn,ak,hs,M⟩;omega;have ao:=z12 J;obtain⟨n,Q⟩:=exq (L.length);rw[<-Q]at Z ai h1 hn M I ⊢;have i0:(0:Int)<=(k:Int) * 64:=by omega
 have aF:(k:Int) * 64<=(n:Int):=by omega
 have aG:((k:Int) * 64).toNat=k * 64:=by omega
 have aH:(n:Int)<=(cap:Int):=by omega
 have aI:IntKind.i64.wrap ((k:Int) * 64)=(k:Int) * 64:=by rw[z28];omega
 have aJ:¬cap=k * 64:=by omega
 have aK:¬ (cap:Int)=(k:Int) * 64:=by omega
 have aL:=y' Q;have V:=y' I;have aq:=y' M;have au:=y' J;clear Q I M J;go_enter func176,ntmps176;go_upto_region 1 with fail;refine G' (λx=>x.heap[w.heap.size]? =some (.cells (Ej k::bv S).toArray 254 (0,0))/\El w x) ⟨z19 w _,bna⟩ ?_;rintro x ⟨h0,aa⟩;have c0:x.cell? (Ea w.heap.size 0)=some (Ej k):=by rw[D' h0];simp
 have Y:=z12 h0;have av:=y' h0;have G:=y' aa;clear h0 aa;refine Z'
  [Ev (Es g 0 n cap),Ep w.heap.size 0,Ei k,Ei ((k:Int) * 64),Ev (Es g (k * 64) (n - k * 64) (cap - k * 64)),Ep w.heap.size 1,Ev (Es w.heap.size 1 64 64),Et]
  [[1],[2],[2005],[3006],[1004,4007],[2],[6009],[5008,7010]] [5,6,7,8,9,10,11,12] [4,8]
  7 _ rfl rfl ?_ ?_
 .refine⟨?_,?_,?_,?_,?_,?_,?_,trivial⟩;all_goals
   intro a y hb ax;have aM:=Bc hb (by show w.heap.size < _;omega) c0;have ay:=hb.size;clear hb;simp[J']at ax;try go_simp
   try exact z11 _ _
 intro f y hb H;simp only[AJ,List.take]at H;have ab:=H.2.2.2.2.1;have ac:=H.2.2.2.2.2.2.1;simp only[V',ab,ac];have g0:=(hb.block _ (by show w.heap.size < _;omega)).trans (d' av);have ad:=(hb.block g (by have:=(d' G).size;omega)).trans (((d' G).block g ao).trans (d' au));have az:=y' ((d' G).trans (hb.mono (by have:=(d' G).size;omega)));have ay:=hb.size;refine fI (.tmp 8) (.tmp 10) rfl g (k * 64) (n - k * 64) (cap - k * 64) 64 z (bv S) 5 w.heap.size 1 64 ad rfl rfl (by rw[AC,F]) ?_ (by omega) (by omega) (GO S) ?_;intro j v hj;rw[D' g0,Gf,Iu 1 j,Bf];exact hj;intro aN Y hF;have aA:((z.toList.take (k * 64)++(bv S++z.toList.drop (k * 64+64))).toArray).toList.take (n * 1)=bv (Xc L k S):=by
  have ah:(z.toList.take (k * 64)).length=k * 64:=by rw[z71,Ix];omega
  have aB:bv (Xc L k S)=(bv L).take (64 * k)++(bv S++(bv L).drop (64 * k+64)):=by simp[Xc,bv,List.map_take,List.map_drop]
  rw[List.toList_toArray,aB,<-d' aq,Iq,Ah,Ke,Ku,Ku,ah,AC,F,z48 (l:=z.toList.take (k * 64)) (by rw[ah];omega),z48 (l:=bv S) (by rw[AC,F];omega),show min (64 * k) n=k * 64 by omega,show 64 * k+64=k * 64+64 by omega,show n - k * 64 - 64=n - (k * 64+64) by omega]
 have aC:=y' Y;have aD:=y' hF;clear hb H ab ac g0 ad Y hF c0;go_simp;go_wp2;refine z74 (z64 rfl _ _ _) rfl ?_;refine⟨rfl,⟨by rw[AC];omega,.inr ⟨g,cap,_,by rw[d' V],z54 _,d' aC,by rw[d' V];omega,ak,by simp[AC];omega,by rw[d' V];exact aA⟩⟩,?_⟩;exact(I' (E:=λj=>(Value.slice (some ⟨g,0,none⟩) n cap).ownBlock=some j) (d' az)).trans (d' aD) (λj _ e=>by rw[e];rfl)
structure Vq (w:World) (p:Nat) (d:Dk) (lv uv:Value):Prop where
 blk:w.heap[p]? =some (.cells #[lv,uv,Ej d.Xr,.bool d.dead] 233 (0,0))
 row:w.ownsRow 0 5 1 lv d.bytes.length (bv d.bytes)
 un:Ql w 254 65 uv 0 []
 len:128<=d.bytes.length/\d.bytes.length<=10000
 arm:d.Xr<=9223372036854775807
def DkU (p:Nat) (lv z:Value) (k:Nat):Prop:=k=p\/lv.ownBlock=some k\/z.ownBlock=some k
theorem Vq.far {E:Nat->Prop} {w x:World} {p:Nat} {d:Dk} {lv F:Value} (h:Vq w p d lv F) (G:Far E w x) (H:∀k,DkU p lv F k->¬E k):Vq x p d lv F:=
 ⟨G.blk h.blk (H p (.inl rfl)),BA h.row (λg z=>G.rest g (z14 h.row g z).2 (H g (.inr (.inl z)))),h.un.far G (λg z=>H g (.inr (.inr z))),h.len,h.arm⟩
theorem Vq.lt {w:World} {p:Nat} {d:Dk} {lv F:Value} (h:Vq w p d lv F):∀k,DkU p lv F k->k < w.heap.size:=by
 rintro k (rfl|z|z);exact z12 h.blk;exact(z14 h.row k z).2;exact h.un.lt k z
theorem YD (w:World) (p:Nat) (lv F:Value) (n:Int) (k:Nat) (S:List UInt8) (hb:Eh w p #[lv,F,Ej n,.bool true] 233):
  Cp 169 #[Er p 0,Ej k,.agg (bv S).toArray] w λr w'=>Rr r (Ej 3)/\El w w':=by
 have G:=z12 hb;have c3:∀z,(w.alloc z).cell? (Ea p 3)=some (.bool true):=λz=>(z85 w _ ⟨p,3,none⟩ G).trans (Bi 3 hb);clear hb;go_enter func169,ntmps169;go_wp2;go_ret;exact⟨rfl,bna⟩
theorem YE (w:World) (p:Nat) (lv G:Value) (k:Nat) (S:List UInt8) (hb:w.heap[p]? =some (.cells #[lv,G,Ej 1,.bool false] 233 (0,0))):
  Cp 169 #[Er p 0,Ej k,.agg (bv S).toArray] w λr w'=>Rr r (Ej 4)/\w'.heap[p]? =some (.cells #[lv,G,Ej 1,.bool true] 233 (0,0))/\Far (λj=>j=p) w w':=by
 have H:=z12 hb;have F:∀z,(w.alloc z).heap[p]? =some (.cells #[lv,G,Ej 1,.bool false] 233 (0,0)):=λz=>(hao _ _ H).trans hb;have c3:∀z,(w.alloc z).cell? ⟨p,3,none⟩=some (.bool false):=λz=>Bi 3 (F z);have c2:∀z,(w.alloc z).cell? ⟨p,2,none⟩=some (Ej 1):=λz=>Bi 2 (F z);have f3:∀z,(w.alloc z).frozen? ⟨p,3,none⟩=false:=λz=>H' (i:=3) (F z);clear F;replace hb:=y' hb;go_enter func169,ntmps169;go_wp2;go_ret;refine⟨rfl,?_,(T' w p 3 _).trans (I' bna) Ih⟩;rw[hao _ _ (by rw[z80];exact H)];have:=AA (j:=3) (v:=.bool true) (d' hb);simpa using this
open Go.MapKept
def Xp (w:World) (b:Nat) (f:Int->Option Value):Prop:=
 ∃z F,w.heap[b]? =some (.map z F)/\(∀x∈z.toList,IsKey (.int .i64) x.key)/\(z.toList.map (·.key)).Nodup/\
  ∀ (k:Int) (v:Value),f k=some v↔ ∃x∈z.toList,x.key=Ej k/\x.val=v
theorem Xp.keep {w w':World} {b:Nat} {f:Int->Option Value} (h:Xp w b f) (z:w'.heap[b]? =w.heap[b]?):Xp w' b f:=by
 obtain⟨F,G,hb,r⟩:=h;exact⟨F,G,z.trans hb,r⟩
theorem Xp.lt {w:World} {b:Nat} {f:Int->Option Value} (h:Xp w b f):b < w.heap.size:=by
 obtain⟨z,F,hb,r⟩:=h;exact(z38.1 hb).1
theorem Xp.Jy (h:Xp p w aS) (z:p.heap[w]? =some (.cells l j aA)):False:=by
 obtain⟨F,G,hb,r⟩:=h;rw[hb]at z;cases z
theorem iD (w:World):Xp (w.alloc (.map #[] 0)) w.heap.size λ_=>none:=
 ⟨#[],0,z19 w _,by simp,by simp,by simp⟩
def fJ (w:World) (v:Value) (f:Int->Option Value):Prop:=(v=.map none/\f=λ_=>none)\/∃b,v=.map (some b)/\Xp w b f
def CT:Value->Option Nat
 | .map b=>b
 | _=>none
theorem fJ.keep {w w':World} (h:fJ w y aS) (z:∀b,CT y=some b->w'.heap[b]? =w.heap[b]?):fJ w' y aS:=by
 rcases h with h|⟨b,rfl,h⟩;exact .inl h;exact .inr ⟨b,rfl,h.keep (z b rfl)⟩
theorem fJ.lt {w:World} (h:fJ w y aS):∀b,CT y=some b->b < w.heap.size:=by
 intro b hb;rcases h with ⟨rfl,_⟩|⟨z,rfl,h⟩;cases hb;cases hb;exact h.lt
theorem LK (k:Int):IsKey (.int .i64) (Ej k):=by simp[IsKey]
theorem TS (F:∀x∈aZ,IsKey (.int .i64) x.key) (z:∀ (k:Int) (v:Value),aS k=some v↔ ∃x∈aZ,x.key=Ej k/\x.val=v) (k:Int):
  (Instr.findNow (.int .i64) (Ej k) aZ 0=some none/\aS k=none/\∀x∈aZ,x.key≠Ej k)\/
  ∃j e,Instr.findNow (.int .i64) (Ej k) aZ 0=some (some (j,e.val))/\aZ[j]? =some e/\e.key=Ej k/\aS k=some e.val:=by
 rcases findNow_spec (LK k) aZ 0 F with ⟨h1,h2⟩|⟨j,e,h1,h2,h3⟩
 .refine .inl ⟨h1,?_,h2⟩;cases G:aS k with
  |none=>rfl
  |some v=>obtain⟨x,H,I,_⟩:=(z k v).1 G;exact absurd I (h2 x H)
 exact .inr ⟨j,e,by rw[h1];simp,h2,h3,(z k e.val).2 ⟨e,z65 h2,h3,rfl⟩⟩
theorem CX {P:Program} {w:World} {t K:TypeId} (z:P.underlying t=some (.map K j)) (hK:P.underlying K=some (.int .i64)) (F:(zeroValue j).run P w=.ok y w) (h:fJ w u aS) (k:Int):
  (Instr.lookup t u (Ej k) true).run P w=.ok (.tuple #[(aS k).getD y,.bool (aS k).isSome]) w/\(Instr.lookup t u (Ej k) false).run P w=.ok ((aS k).getD y) w:=by
 rcases h with ⟨rfl,rfl⟩|⟨b,rfl,I,J,hb,G,hn,H⟩;have h1:Instr.findNow (.int .i64) (Ej k) [] 0=some none:=rfl;constructor <;> simp[Instr.lookup,run_underlying z,run_checkKey hK (LK k),run_findKey hK h1,F,Result.andThen];rcases TS G H k with ⟨h1,h2,_⟩|⟨M,e,h1,h2,h3,h4⟩;constructor <;> simp[Instr.lookup,run_underlying z,MapKept.run_getObj_map hb,run_checkKey hK (LK k),run_findKey hK h1,F,h2,Result.andThen];constructor <;> simp[Instr.lookup,run_underlying z,MapKept.run_getObj_map hb,run_checkKey hK (LK k),run_findKey hK h1,h4,Result.andThen]
def WE (f:Int->Option Value) (k:Int) (v:Value):Int->Option Value:=λj=>if j=k then some v else f j
def fK (f:Int->Option Value) (k:Int):Int->Option Value:=λj=>if j=k then none else f j
theorem Bo (hn:(aZ.map (·.key)).Nodup) (Z:∀x∈aZ,IsKey (.int .i64) x.key) (aa:∀ (o:Int) (v:Value),aS o=some v↔ ∃x∈aZ,x.key=Ej o/\x.val=v) (hj:aZ[w]? =some cP) (V:cP.key=Ej o) (v:Value):
  (∀x∈aZ.set w {cP with key:=Ej o,val:=v},IsKey (.int .i64) x.key)/\((aZ.set w {cP with key:=Ej o,val:=v}).map (·.key)).Nodup/\
   ∀ (J:Int) (v':Value),WE aS o v J=some v'↔ ∃x∈aZ.set w {cP with key:=Ej o,val:=v},x.key=Ej J/\x.val=v':=by
 have I:w < aZ.length:=(z25.1 hj).1;have ab:(aZ.set w {cP with key:=Ej o,val:=v}).map (·.key)=aZ.map (·.key):=by rw[Kw];apply z93;intro i;rw[z94];by_cases M:w=i;subst M;have:=fB ((z17 I).symm.trans hj);simp[I,this,V];simp[M]
 have ac:∀ (i:Nat) (x:MapEntry),aZ[i]? =some x->x.key=Ej o->i=w:=by
  intro i x hi z;by_cases M:i=w;exact M;have F:i < aZ.length:=(z25.1 hi).1;have h0:=List.getElem_inj (xs:=aZ.map (·.key)) (i:=i) (j:=w) (h₀:=by simpa using F) (h₁:=by simpa using I) hn;have ad:(aZ.map (·.key))[i]'(by simpa using F)=Ej o:=by rw[Fi,<-z];congr 1;rw[z17 F]at hi;exact fB hi
  have ah:(aZ.map (·.key))[w]'(by simpa using I)=Ej o:=by rw[Fi,<-V];congr 1;rw[z17 I]at hj;exact fB hj
  exact h0.1 (ad.trans ah.symm)
 refine⟨λx z=>?_,ab ▸ hn,λJ v'=>?_⟩;rcases Kn z with h|h;exact Z x h;subst h;exact LK o;unfold WE;by_cases Q:J=o;subst Q;rw[if_pos rfl];constructor;rintro⟨⟩;exact⟨_,List.mem_set I _,rfl,rfl⟩;rintro⟨x,z,G,rfl⟩;obtain⟨i,hi,H⟩:=Kr z;rw[List.getElem_set]at H;split at H;rw[<-H];rename_i Y;have F:i < aZ.length:=by simpa using hi
 exact absurd (ac i x (by rw[z17 F,H]) G).symm Y;rw[if_neg Q,aa];constructor;rintro⟨x,z,G,rfl⟩;obtain⟨i,F,H⟩:=Kr z;have Y:¬w=i:=by rintro rfl;rw[z17 F,H]at hj;cases hj;rw[V]at G;injection G with _ h;exact Q h.symm
 refine⟨x,?_,G,rfl⟩;have:=List.getElem_set_ne Y (a:={cP with key:=Ej o,val:=v}) (hj:=by simpa using F);rw[<-H,<-this];exact z86 _;rintro⟨x,z,G,rfl⟩;rcases Kn z with h|h;exact⟨x,h,G,rfl⟩;subst h;injection G with _ h;exact absurd h.symm Q
theorem RL {P:Program} {w:World} {t K E:TypeId} (Z:P.underlying t=some (.map K E)) (hK:P.underlying K=some (.int .i64)) {b:Nat} {f:Int->Option Value} (h:Xp w b f) (k:Int) (v:Value):
  ∃o,(∀y:World,y.heap=w.heap->(Instr.mapUpdate t (.map (some b)) (Ej k) v).run P y=.ok () {y with heap:=y.heap.setIfInBounds b o})/\Xp {w with heap:=w.heap.setIfInBounds b o} b (WE f k v):=by
 obtain⟨F,G,hb,I,hn,J⟩:=h;have ah:b < w.heap.size:=(z38.1 hb).1;have aa:∀o,({w with heap:=w.heap.setIfInBounds b o}:World).heap[b]? =some o:=λo=>by simp[ah]
 rcases TS I J k with ⟨h1,h2,h3⟩|⟨j,e,h1,h2,h3,h4⟩;refine⟨.map (F.push ⟨Ej k,v,G⟩) (G+1),?_,F.push ⟨Ej k,v,G⟩,G+1,aa _,?_,?_,?_⟩;intro y M;have hb:y.heap[b]? =some (.map F G):=by rw[M];exact hb
 simp[Instr.mapUpdate,run_underlying Z,MapKept.run_getObj_map hb,run_checkKey hK (LK k),run_findKey hK h1,run_setObj_map _ hb,Result.andThen];intro x z;simp only[Array.toList_push,List.mem_append,List.mem_singleton]at z;rcases z with z|rfl;exact I x z;exact LK k;simp only[Array.toList_push,List.map_append,List.map_cons,List.map_nil];rw[jZ];refine⟨hn,by simp,?_⟩;rintro a ai c ab rfl;simp only[List.mem_singleton]at ab;obtain⟨x,z,rfl⟩:=z66.1 ai;exact h3 x z ab;intro aj v';unfold WE;simp only[Array.toList_push,List.mem_append,List.mem_singleton];by_cases Q:aj=k;subst Q;rw[if_pos rfl];constructor;rintro⟨⟩;exact⟨_,.inr rfl,rfl,rfl⟩;rintro⟨x,z|rfl,H,rfl⟩;exact absurd H (h3 x z);rfl;rw[if_neg Q,J];constructor;rintro⟨x,z,r⟩;exact⟨x,.inl z,r⟩;rintro⟨x,z|rfl,H,r⟩;exact⟨x,z,H,r⟩;injection H with _ h;exact absurd h.symm Q;have hj:F[j]? =some e:=by simpa using h2
 have V:(F.modify j (λY=>{Y with key:=Ej k,val:=v})).toList=F.toList.set j {e with key:=Ej k,val:=v}:=by rw[Array.toList_modify];apply z93;intro i;rw[z94,List.getElem?_modify];by_cases ac:j=i;subst ac;have ad:j < F.toList.length:=(z25.1 h2).1;rw[h2];simp at ad;simp[ad];simp[ac]
 have hs:∀w,(Instr.keyThatStays (Ej k) (Ej k)).run P w=.ok (Ej k) w:=λw=>by simp[Instr.keyThatStays,Instr.sameBits]
 obtain⟨g1,g2,ak⟩:=Bo hn I J h2 h3 v;refine⟨.map (F.modify j (λY=>{Y with key:=Ej k,val:=v})) G,?_,_,G,aa _,?_,?_,?_⟩;intro y M;have hb:y.heap[b]? =some (.map F G):=by rw[M];exact hb
 simp[Instr.mapUpdate,run_underlying Z,MapKept.run_getObj_map hb,run_checkKey hK (LK k),run_findKey hK h1,hj,h3,hs,run_setObj_map _ hb,Result.andThen];rw[V];exact g1;rw[V];exact g2;rw[V];exact ak
theorem MN {P:Program} {w:World} {t K E K':TypeId} (ab:P.underlying t=some (.map K E)) (hK:P.underlying K=some (.int .i64)) {b:Nat} {f:Int->Option Value} (h:Xp w b f) (k:Int):
  ∃o,(∀ (ty:TypeId) (y:World),y.heap=w.heap->(Builtin.delete_ #[t,K'] ty #[.map (some b),Ej k]).run P y=.ok (.tuple #[]) {y with heap:=y.heap.setIfInBounds b o})/\Xp {w with heap:=w.heap.setIfInBounds b o} b (fK f k):=by
 obtain⟨z,H,hb,J,hn,M⟩:=h;have ah:b < w.heap.size:=(z38.1 hb).1;have ac:∀o,({w with heap:=w.heap.setIfInBounds b o}:World).heap[b]? =some o:=λo=>by simp[ah]
 rcases TS J M k with ⟨h1,h2,h3⟩|⟨j,e,h1,h2,h3,h4⟩;refine⟨.map z H,?_,z,H,ac _,J,hn,?_⟩;intro ty y Q;have hb:y.heap[b]? =some (.map z H):=by rw[Q];exact hb
 simp[Builtin.delete_,run_underlying ab,MapKept.run_getObj_map hb,run_checkKey hK (LK k),run_findKey hK h1,run_setObj_map _ hb,Result.andThen];intro V v';unfold fK;by_cases I:V=k;subst I;rw[if_pos rfl];constructor;rintro⟨⟩;rintro⟨x,F,G,_⟩;exact absurd G (h3 x F);rw[if_neg I,M];have Y:j < z.toList.length:=(z25.1 h2).1;have Z:(z.eraseIdxIfInBounds j).toList=z.toList.eraseIdx j:=by
  have:j < z.size:=by simpa using Y
  unfold Array.eraseIdxIfInBounds;rw[dif_pos this,Array.toList_eraseIdx]
 have aa:(z.toList.eraseIdx j).Sublist z.toList:=List.eraseIdx_sublist _ _;have ai:∀x∈z.toList.eraseIdx j,x.key≠Ej k:=by intro x F G;obtain⟨i,aj,hi⟩:=Mh.1 F;have ad:i < z.toList.length:=(z25.1 hi).1;have h0:=List.getElem_inj (xs:=z.toList.map (·.key)) (i:=i) (j:=j) (h₀:=by simpa using ad) (h₁:=by simpa using Y) hn;refine aj (h0.1 ?_);rw[Fi,Fi];rw[z17 ad]at hi;rw[z17 Y]at h2;rw[fB hi,fB h2,G,h3]
 refine⟨.map (z.eraseIdxIfInBounds j) H,?_,_,H,ac _,?_,?_,?_⟩;intro ty y Q;have hb:y.heap[b]? =some (.map z H):=by rw[Q];exact hb
 simp[Builtin.delete_,run_underlying ab,MapKept.run_getObj_map hb,run_checkKey hK (LK k),run_findKey hK h1,run_setObj_map _ hb,Result.andThen];rw[Z];exactλx F=>J x (aa.subset F);rw[Z];exact(aa.map _).nodup hn;rw[Z];intro V v';unfold fK;by_cases I:V=k;subst I;rw[if_pos rfl];constructor;rintro⟨⟩;rintro⟨x,F,G,_⟩;exact absurd G (ai x F);rw[if_neg I,M];constructor;rintro⟨x,F,G,r⟩;obtain⟨i,hi⟩:=List.getElem?_of_mem F;refine⟨x,Mh.2 ⟨i,?_,hi⟩,G,r⟩;rintro rfl;rw[h2]at hi;cases hi;rw[h3]at G;injection G with _ h;exact I h.symm;rintro⟨x,F,r⟩;exact⟨x,aa.subset F,r⟩
theorem oG {P:Program} {w:World} {t K E:TypeId} (F:P.underlying t=some (.map K E)) {b:Nat} {f:Int->Option Value} (h:Xp w b f):
  ∃o,(∀ (ty:TypeId) (y:World),y.heap=w.heap->(Builtin.clear_ #[t] ty #[.map (some b)]).run P y=.ok (.tuple #[]) {y with heap:=y.heap.setIfInBounds b o})/\Xp {w with heap:=w.heap.setIfInBounds b o} b (λ_=>none):=by
 obtain⟨G,z,hb,J,hn,M⟩:=h;have H:b < w.heap.size:=(z38.1 hb).1;refine⟨.map #[] z,?_,#[],z,by simp[H],by simp,by simp,by simp⟩;intro ty y I;have hb:y.heap[b]? =some (.map G z):=by rw[I];exact hb
 simp[Builtin.clear_,run_underlying F,MapKept.run_getObj_map hb,run_setObj_map _ hb,Result.andThen]
theorem JS {w:World} (b:Nat) (o:Obj):Far (λk=>k=b) w {w with heap:=w.heap.setIfInBounds b o}:=
 ⟨rfl,rfl,rfl,by simp,λk _ z=>by show(w.heap.setIfInBounds b o)[k]? = _;rw[z18 (λe=>z e.symm)]⟩
theorem oH {P:Program} {w:World} {t K:TypeId} (z:P.underlying t=some (.map K j)):(Builtin.clear_ #[t] aT #[.map none]).run P w=.ok (.tuple #[]) w:=by
 simp[Builtin.clear_,run_underlying z,Result.andThen]
end Go.Proofs.YtamafdcnbcoegabGreat
namespace Go.Proofs
open Go.Shelf
open Go.RowKit in
def Tryz.laysM316_ren:Go.Shelf.Ren:=⟨λ|316=>127|n=>n,λ|9=>9|3=>3|4=>4|37=>48|0=>0|127=>252|5=>5|n=>n,λ|n=>n⟩
theorem Tryz.laysM316:Go.Proofs.LaysM.n316 prog Tryz.laysM316_ren:={
 mixed:=by kernel_rfl
 f316:=func127.trans (congrArg some (by kernel_rfl))
 t0:=underlying0
 a0:=isAgg0
 z0:=sizeOf0
 v0:=zeroValue0
 t3:=underlying3
 a3:=isAgg3
 z3:=sizeOf3
 v3:=zeroValue3
 t4:=underlying4
 a4:=isAgg4
 z4:=sizeOf4
 v4:=zeroValue4
 t9:=underlying9
 a9:=isAgg9
 z9:=sizeOf9
 v9:=zeroValue9
 t37:=underlying48
 a37:=isAgg48
 z37:=sizeOf48
 v37:=zeroValue48
 t127:=underlying252
 a127:=isAgg252
 z127:=sizeOf252
 v127:=zeroValue252
 t5:=underlying5
 a5:=isAgg5
 z5:=sizeOf5
 v5:=zeroValue5
 i0:=by kernel_rfl
 i3:=by kernel_rfl
 i4:=by kernel_rfl
 i5:=by kernel_rfl
 i9:=by kernel_rfl
 i37:=by kernel_rfl
 i127:=by kernel_rfl}
open Go.RowKit in
theorem Tryz.stringslite_Clone (s:ByteArray) (w:World) (z:s.size<=281474976710656):
  Calls prog 127 #[.string s] w λe w'=>e=.returned (.string s)/\Below w.heap.size w w':=Any.stringslite_Clone Tryz.laysM316 s w z
open Go.RowKit Go.Proofs.Tryz Go.Lib Go.Sort in
open Go.RowKit Go.Proofs.Tryz Go.Lib Go.Sort in
open Go.RowKit Go.Proofs.Tryz Go.Lib Go.Sort in
def Tryz.laysNm216_ren:Go.Shelf.Ren:=⟨λ|16=>72|n=>n,λ|24=>33|9=>9|4=>4|n=>n,λ|n=>n⟩
theorem Tryz.laysNm216:Go.Proofs.Lays2.n16 prog Tryz.laysNm216_ren:={
 mixed:=by kernel_rfl
 f16:=func72.trans (congrArg some (by kernel_rfl))
 t4:=underlying4
 a4:=isAgg4
 z4:=sizeOf4
 v4:=zeroValue4
 t9:=underlying9
 a9:=isAgg9
 z9:=sizeOf9
 v9:=zeroValue9
 t24:=underlying33
 a24:=isAgg33
 z24:=sizeOf33
 v24:=zeroValue33
 i9:=by kernel_rfl}
open Go.RowKit Go.Proofs.Tryz Go.Lib in
theorem Tryz.slices_Clone_string (b off n c:Nat) (z:List ByteArray) (w:World) (F:n<=z.length) (G:n * 16<=140737488355328) (H:∀j,j < z.length->w.cell? ⟨b,off+j,none⟩=some (.string (z.getD j ByteArray.empty))):
  Calls prog 72 #[.slice (some ⟨b,off,none⟩) n c] w λe w'=>∃v',e=.returned v'/\w'.ownsRow w.heap.size 9 1 v' n ((z.take n).map (Value.string))/\v'≠ .slice none 0 0/\Below w.heap.size w w':=Any.slices_Clone_string Tryz.laysNm216 b off n c z w F G H
open Go.RowKit Go.Proofs.Tryz Go.Lib in
theorem Tryz.slices_Clone_string_nil (n c:Nat) (w:World):
  Calls prog 72 #[.slice none n c] w λe w'=>e=.returned (.slice none 0 0)/\w'=w:=Any.slices_Clone_string_nil Tryz.laysNm216 n c w
open Go.RowKit Go.Proofs.Tryz Go.Lib in
open Go.RowKit Go.Proofs.Tryz Go.Lib in
open Go.RowKit Go.Proofs.Tryz Go.Lib in
open Go.RowKit Go.Proofs.Tryz Go.Lib in
def Tryz.laysNm225_ren:Go.Shelf.Ren:=⟨λ|25=>125|31=>172|32=>173|37=>201|n=>n,λ|22=>101|3=>3|4=>4|40=>230|0=>0|n=>n,λ|n=>n⟩
theorem Tryz.laysNm225:Go.Proofs.Lays2.n25 prog Tryz.laysNm225_ren:={
 mixed:=by kernel_rfl
 f25:=func125.trans (congrArg some (by kernel_rfl))
 f31:=func172.trans (congrArg some (by kernel_rfl))
 f32:=func173.trans (congrArg some (by kernel_rfl))
 f37:=func201.trans (congrArg some (by kernel_rfl))
 t0:=underlying0
 a0:=isAgg0
 z0:=sizeOf0
 v0:=zeroValue0
 t3:=underlying3
 a3:=isAgg3
 z3:=sizeOf3
 v3:=zeroValue3
 t4:=underlying4
 a4:=isAgg4
 z4:=sizeOf4
 v4:=zeroValue4
 t22:=underlying101
 a22:=isAgg101
 z22:=sizeOf101
 v22:=zeroValue101
 t40:=underlying230
 a40:=isAgg230
 z40:=sizeOf230
 v40:=zeroValue230}
open Go.RowKit Go.Proofs.Tryz Go.Lib in
theorem Tryz.slices_BinarySearch_int (b off n c:Nat) (z:List Int) (x:Int) (w:World) (F:n<=z.length) (G:n < 4611686018427387904) (H:∀j,j < z.length->w.cell? ⟨b,off+j,none⟩=some (.int .i64 (z.getD j 0))) (hs:(z.take n).Pairwise (· <= ·)):
  Calls prog 125 #[.slice (some ⟨b,off,none⟩) n c,.int .i64 x] w λe w'=>e=.returned (.tuple #[.int .i64 ((z.take n).countP (· < x):Nat),.bool ((z.take n).contains x)])/\∃q,w'=w.drewN q:=Any.slices_BinarySearch_int Tryz.laysNm225 b off n c z x w F G H hs
def Tryz.laysNm223_ren:Go.Shelf.Ren:=⟨λ|23=>199|n=>n,λ|22=>101|3=>3|4=>4|0=>0|n=>n,λ|n=>n⟩
theorem Tryz.laysNm223:Go.Proofs.Lays2.n23 prog Tryz.laysNm223_ren:={
 mixed:=by kernel_rfl
 f23:=func199.trans (congrArg some (by kernel_rfl))
 t0:=underlying0
 a0:=isAgg0
 z0:=sizeOf0
 v0:=zeroValue0
 t3:=underlying3
 a3:=isAgg3
 z3:=sizeOf3
 v3:=zeroValue3
 t4:=underlying4
 a4:=isAgg4
 z4:=sizeOf4
 v4:=zeroValue4
 t22:=underlying101
 a22:=isAgg101
 z22:=sizeOf101
 v22:=zeroValue101
 i3:=by kernel_rfl}
open Go.RowKit Go.Proofs.Tryz Go.Lib Go.Sort in
open Go.RowKit Go.Proofs.Tryz Go.Lib Go.Sort in
open Go.RowKit Go.Proofs.Tryz Go.Lib Go.Sort in
open Go.RowKit Go.Proofs.Tryz Go.Lib Go.Sort in
theorem Tryz.slices_Delete_int_cells (b off n c i j:Nat) (z:List Int) (w:World) (F:n<=z.length) (G:n<=c) (H:c<=9223372036854775807) (I:i<=j) (hj:j<=n) (J:∀j,j < z.length->w.cell? ⟨b,off+j,none⟩=some (.int .i64 (z.getD j 0))) (M:∀j,j < n->w.frozen? ⟨b,off+j,none⟩=false):
  Calls prog 199 #[.slice (some ⟨b,off,none⟩) n c,.int .i64 i,.int .i64 j] w λe w'=>e=.returned (.slice (some ⟨b,off,none⟩) (n - (j - i)) c)/\∃q,w'=(w.drewN q).setCells b off (((z.take n).take i++(z.take n).drop j++List.replicate (j - i) 0).map (Value.int .i64)):=Any.slices_Delete_int_cells Tryz.laysNm223 b off n c i j z w F G H I hj J M
open Go.RowKit Go.Proofs.Tryz Go.Lib in
theorem Tryz.slices_BinarySearch_int_empty (a:Option Addr) (c:Nat) (x:Int) (w:World):
  Calls prog 125 #[.slice a 0 c,.int .i64 x] w λe w'=>e=.returned (.tuple #[.int .i64 0,.bool false])/\w'=w:=Any.slices_BinarySearch_int_empty Tryz.laysNm225 a c x w
open Go.RowKit Go.Proofs.Tryz Go.Lib in
theorem Tryz.slices_Delete_int_empty (a:Option Addr) (c:Nat) (w:World):
  Calls prog 199 #[.slice a 0 c,.int .i64 0,.int .i64 0] w λe w'=>e=.returned (.slice a 0 c)/\w'=w:=Any.slices_Delete_int_empty Tryz.laysNm223 a c w
def Tryz.laysNm221_ren:Go.Shelf.Ren:=⟨λ|21=>126|27=>174|28=>175|35=>202|39=>214|n=>n,λ|22=>101|3=>3|4=>4|0=>0|n=>n,λ|n=>n⟩
theorem Tryz.laysNm221:Go.Proofs.Lays2.n21 prog Tryz.laysNm221_ren:={
 mixed:=by kernel_rfl
 f21:=func126.trans (congrArg some (by kernel_rfl))
 f27:=func174.trans (congrArg some (by kernel_rfl))
 f28:=func175.trans (congrArg some (by kernel_rfl))
 f35:=func202.trans (congrArg some (by kernel_rfl))
 f39:=func214.trans (congrArg some (by kernel_rfl))
 t0:=underlying0
 a0:=isAgg0
 z0:=sizeOf0
 v0:=zeroValue0
 t3:=underlying3
 a3:=isAgg3
 z3:=sizeOf3
 v3:=zeroValue3
 t4:=underlying4
 a4:=isAgg4
 z4:=sizeOf4
 v4:=zeroValue4
 t22:=underlying101
 a22:=isAgg101
 z22:=sizeOf101
 v22:=zeroValue101
 i3:=by kernel_rfl}
end Go.Proofs
namespace Go.Proofs.YtamafdcnbcoegabGreat
attribute [local simp, local go_sem] Ev Ep Ei Eb Et Ej Ea En Er Es
open Qb Mq
open Go.RowKit Go.Proofs.Tryz
def Jt (w:World) (v:Value) (ns:List Nat):Prop:=w.ownsRow 0 3 1 v ns.length (O' ns)
variable{k:List Nat}{w a q b:Nat}{y u R:Value}{p f:World}{l aN:Array Value}{j aT cT:TypeId}{aA:Nat×Nat}{d:List (Nat×Value)}{o:Int}{bW:Nat×Value}{aS:Int -> Option Value}{C:List Value}{N:Nat -> Prop}{J:Oper}{G:Act}{aB:Exit -> Act -> World -> Prop}
theorem YF (h:w < k.length):(O' k)[w]? =some (Ej (k.getD w 0:Nat)):=by
 simp[O',h,List.getD_eq_getElem?_getD]
theorem RM (ns:List Nat):∀u∈O' ns,u.oneCell'=true:=by
 intro u hu;obtain⟨n,_,rfl⟩:=z66.1 hu;rfl
theorem FL (w:World):Jt w En []:=z20 _ _ _ _
theorem Jt.keep {w w':World} (h:Jt w y k) (z:∀g,y.ownBlock=some g->w'.heap[g]? =w.heap[g]?):Jt w' y k:=Q' h z
theorem Jt.cases {w:World} {v:Value} (h:Jt w v k):(v=En/\k=[])\/
  ∃g cap z,v=Es g 0 k.length cap/\Eh w g z 3/\k.length<=cap/\cap<=maxLen/\z.size=cap/\z.toList.take k.length=O' k:=by
 obtain⟨h1,h2⟩:=h;rcases h2 with ⟨h2,h3⟩|⟨g,cap,z,rfl,_,F,hn,G,hs,H⟩;exact .inl ⟨h2,z68 h3⟩;exact .inr ⟨g,cap,z,rfl,F,hn,G,by simpa using hs,by simpa using H⟩
theorem Jt.cell' (h:Jt p (Es w 0 a q) k) (F:b < k.length):p.cell? (Ea w b)=some (Ej (k.getD b 0:Nat)):=by
 have h0:=h;rcases h.cases with ⟨e,_⟩|⟨g',I,J,e,M,hn,Q,hs,V⟩;cases e;injection e with z G H;injection z with z;injection z with z;subst z G H;rw[z59 h0 b (by omega),YF F]
theorem iE {ns:List Nat} (z:Eh p w l 3) (hn:ns.length<=a) (F:a<=maxLen) (hs:l.size=a) (G:l.toList.take ns.length=O' ns):
  Jt p (Es w 0 ns.length a) ns:=
 ⟨by simp[O'],.inr ⟨w,a,l,rfl,z54 _,z,hn,F,by simpa using hs,by simpa using G⟩⟩
theorem IA (z:Eh p w l 3) (hn:k.length=a) (hl:a<=q) (F:q<=maxLen) (hs:l.size=q) {rest:List Value} (G:l.toList=O' k++rest):
  Jt p (Es w 0 a q) k:=by
 subst hn;exact iE z hl F hs (by rw[G,z81 (by simp[O']),z48 (by simp[O'])])
theorem MO (n:Nat):(Builtin.zeroCells (Value.int .i64 0).cells n).size=n:=by
 rw[Nd];show n * 1=n;omega
theorem EA:∀ (G:List Value) (o:Nat) (F:World) (z:Array Value),F.heap[w]? =some (.cells z j aA)->o+G.length<=z.size->
  ∃c,(F.setCells w o G).heap[w]? =some (.cells c j aA)/\c.size=z.size/\c.toList=z.toList.take o++G++z.toList.drop (o+G.length)
 |[],o,F,z,h,_=>⟨z,h,rfl,by simp⟩
 |v::r,o,F,z,h,hl=>by
  have H:o < z.size:=by simp at hl;omega
  obtain⟨c,h1,h2,h3⟩:=EA r (o+1) (F.setCell ⟨w,o,none⟩ v) _ (AA h) (by simp at hl ⊢;omega);refine⟨c,h1,by rw[h2];simp,?_⟩;rw[h3,Fq];have I:(z.toList.set o v).take (o+1)=z.toList.take o++[v]:=by rw[sX,List.take_set_of_le (z16 _)];simp[H]
  have J:(z.toList.set o v).drop (o+1+r.length)=z.toList.drop (o+(v::r).length):=by rw[List.drop_set_of_lt (by omega)];congr 1;simp;omega
  rw[I,J];simp
theorem EB (b:Nat):∀ (z:List Value) (o:Nat) (w:World),Far (λk=>k=b) w (w.setCells b o z)
 |[],_,w=>Far.refl _ w
 |v::r,o,w=>(T' w b o v).trans (EB b r (o+1) _) Ih
theorem BK (E:Nat->Prop) (w:World) (n:Nat):Far E w (w.drewN n):=⟨rfl,rfl,rfl,z16 _,λ_ _ _=>rfl⟩
theorem oI (ns:List Nat) (x:Nat):((ns.map Int.ofNat).countP (· < (x:Int)))=ns.countP (· < x):=by
 rw[List.countP_map];apply List.countP_congr;intro a _;simp
theorem fL (ns:List Nat) (x:Nat):((ns.map Int.ofNat).contains (x:Int))=ns.contains x:=by
 induction ns with
 |nil=>rfl
 |cons a r ih=>simp only[List.map_cons,List.contains_cons,ih];congr 1;rw[Gj];simp only[beq_iff_eq];exact Int.ofNat_inj
theorem KD (h:Jt p y k) (hs:k.Pairwise (· < ·)) (hl:k.length<=1000000) (x:Nat):
  Cp 125 #[y,Ej x] p λe w'=>Rr e (.tuple #[Ej (k.countP (· < x):Nat),.bool (k.contains x)])/\∃q,w'=p.drewN q:=by
 rcases h.cases with ⟨rfl,rfl⟩|⟨g,cap,F,rfl,G,hn,H,I,J⟩;refine(Tryz.slices_BinarySearch_int_empty none 0 x p).mono ?_;rintro e w' ⟨rfl,rfl⟩;exact⟨rfl,0,rfl⟩;have hb:=Tryz.slices_BinarySearch_int g 0 k.length cap (k.map Int.ofNat) x p (by simp) (by omega) (λj hj=>by
  have z:j < k.length:=by simpa using hj
  rw[z45,z59 h j (by omega),YF z];simp[List.getD_eq_getElem?_getD,z]) (by
  rw[z48 (by simp),Fx];exact hs.imp (λh=>by simp;omega))
 refine hb.mono ?_;rintro e w' ⟨rfl,q,rfl⟩;rw[z48 (by simp),oI,fL];exact⟨rfl,q,rfl⟩
theorem YG (i:Nat):(O' k).drop i=O' (k.drop i):=by simp[O']
theorem YH (i:Nat):(O' k).take i=O' (k.take i):=by simp[O']
theorem KE (ns:List Nat):(O' ns).length=ns.length:=by simp[O']
theorem RO (base:Option Addr) (n c q:Nat) (z:List Value) (x:Value) (w:World) (F:n<=c) (G:c < n+1) (H:(n+1) * 8<=140737488355328) (I:z.length=n) (J:base=none->n=0)
  (M:∀a,base=some a->∀j v,z[j]? =some v->w.cell? (a.add j)=some v) (Q:∀j v,[x][j]? =some v->w.cell? (Ea q (0+j))=some v) (V:∀v∈ [x],v.oneCell'=true):
  Cp 126 #[.slice base n c,Ej n,Es q 0 1 1] w λe w'=>Rr e (Es w.heap.size 0 (n+1) (grownCap w (n+1) c 3))/\
   w'=w.drew.alloc (.cells ((z++[x]).toArray++Builtin.zeroCells (Value.int .i64 0).cells (grownCap w (n+1) c 3 - (n+1))) 3):=
 Any2.slices_Insert_int_end_grow Tryz.laysNm221 base n c q 0 1 1 z [x] w (by omega) F G H I rfl J M Q V
theorem Bp (b n c i q:Nat) (z:List Value) (x:Value) (w:World) (hi:i < n) (F:n<=c) (G:c < n+1) (H:(n+1) * 8<=140737488355328) (I:z.length=n)
  (J:∀j v,z[j]? =some v->w.cell? (Ea b (0+j))=some v) (M:∀j v,[x][j]? =some v->w.cell? (Ea q (0+j))=some v) (Q:∀v∈z,v.oneCell'=true) (V:∀v∈ [x],v.oneCell'=true):
  Cp 126 #[Es b 0 n c,Ej i,Es q 0 1 1] w λe w'=>Rr e (Es w.heap.size 0 (n+1) (grownCap w (n+1) c 3))/\
   w'=(((w.alloc (.cells ((z.take i).toArray++Builtin.zeroCells (Value.int .i64 0).cells (n+1 - i)++Builtin.zeroCells (Value.int .i64 0).cells (grownCap w (n+1) c 3 - (n+1))) 3)).drew.setCells w.heap.size i [x]).drew).setCells w.heap.size (i+1) (z.drop i):=
 Any2.slices_Insert_int_grow Tryz.laysNm221 b 0 n c i q 0 1 1 z [x] w hi (by omega) F G H I rfl J M Q V
theorem YI {w:World} {ns:List Nat} (h:Jt w y ns) (hl:ns.length<=1000000) (k x q:Nat) (aF:k<=ns.length) (ab:Eh w q #[Ej x] j) (aG:y.ownBlock≠some q):
  Cp 126 #[y,Ej k,Es q 0 1 1] w λe w'=>∃v',e=.returned v'/\Jt w' v' (ns.take k++x::ns.drop k)/\
   Far (λb=>y.ownBlock=some b) w w'/\Loc w y v':=by
 have J:∀z u,[Value.int .i64 x][z]? =some u->w.cell? (Ea q (0+z))=some u:=by intro z u hj;rw[D' ab,z45];simpa using hj
 have M:∀u∈ [Value.int .i64 x],u.oneCell'=true:=by simp[Value.oneCell']
 have Q:(ns.take k++x::ns.drop k).length=ns.length+1:=by simp;omega
 have ac:O' (ns.take k++x::ns.drop k)=O' (ns.take k)++[Ej x]++O' (ns.drop k):=by simp[O']
 have ad:∀ (a:Nat),grownCap w (ns.length+1) a 3<=maxLen:=λa=>Fv w _ _ _ (by unfold maxLen;omega);have ah:∀ (a:Nat),ns.length+1<=grownCap w (ns.length+1) a 3:=λa=>wM w _ _ _;rcases h.cases with ⟨rfl,rfl⟩|⟨g,cap,F,rfl,V,hn,ai,H,ax⟩;obtain rfl:k=0:=by simpa using aF
 refine(RO none 0 0 q [] (Ej x) w (by omega) (by omega) (by omega) rfl (λ_=>rfl) (λa aj=>by cases aj) J M).mono ?_;rintro e w' ⟨rfl,rfl⟩;refine⟨_,rfl,?_,?_,.inr (.inr ⟨_,rfl,z16 _⟩)⟩;have I:=ah 0;refine IA (z19 w.drew _) Q I (ad 0) ?_ (rest:=(Builtin.zeroCells (Value.int .i64 0).cells (grownCap w (0+1) 0 3 - (0+1))).toList) ?_;rw[Fs,MO];simp only[List.nil_append,List.size_toArray,List.length_cons,List.length_nil]at I ⊢;omega;rw[Iy];rfl;exact(BK _ w 1).trans (I' bna) Ih;have aH:q≠g:=λe=>aG (by rw[e];rfl);have ak:∀z u,(O' ns)[z]? =some u->w.cell? (Ea g (0+z))=some u:=by
  intro z u hj;have aS:z < ns.length:=by have:=(z25.1 hj).1;rwa [KE]at this
  rw[z45,z59 h z (by omega)];exact hj
 have ay:∀z,w.frozen? ⟨g,z,none⟩=false:=λz=>by simp[World.frozen?,V]
 have az:∀z,w.frozen? ⟨q,z,none⟩=false:=λz=>by simp[World.frozen?,ab]
 have aA:∀z,z < cap->(w.cell? (Ea g z)).isSome=true:=λz hj=>by rw[D' V];simp[H,hj]
 have aB:cap<=9223372036854775807:=by unfold maxLen at ai;omega
 have aI:(O' (ns.take k)).length=k:=by rw[KE,z71];omega
 have ao:((O' ns).drop k).length=ns.length - k:=by simp[O']
 by_cases aC:k=ns.length;have aD:O' (ns.take k++x::ns.drop k)=O' ns++[Ej x]:=by rw[ac,aC];simp[O']
 have aJ:(k:Int)=(ns.length:Int):=by rw[aC]
 rw[aJ];by_cases Y:ns.length+1<=cap;refine(Any2.slices_Insert_int_end_room Tryz.laysNm221 g 0 ns.length cap q 0 1 1 [Ej x] w (by omega) Y aB rfl (λz hj=>by rw[z45];exact aA _ (by omega)) (λz _=>ay _) J M).mono ?_;rintro e w' ⟨rfl,rfl⟩;obtain⟨c,Z,G,aa⟩:=EA [Value.int .i64 x] (0+ns.length) w F V (by simp;omega);refine⟨_,rfl,?_,(EB g _ _ w).mono (λb _ hb=>by rw[hb];rfl),.inr (.inl rfl)⟩;exact IA Z Q Y ai (by rw[G,H]) (by rw[aa,aD,z45,ax]);refine(RO (some ⟨g,0,none⟩) ns.length cap q (O' ns) (Ej x) w hn (by omega) (by omega) (KE _) (λh=>by cases h) (λa aj z u hj=>by cases aj;rw[Addr.add_lit];exact ak z u hj) J M).mono ?_;rintro e w' ⟨rfl,rfl⟩;refine⟨_,rfl,?_,?_,.inr (.inr ⟨_,rfl,z16 _⟩)⟩;have I:=ah cap;refine IA (z19 w.drew _) Q I (ad cap) ?_ (rest:=(Builtin.zeroCells (Value.int .i64 0).cells (grownCap w (ns.length+1) cap 3 - (ns.length+1))).toList) ?_;rw[Fs,MO,Iw,z29,KE,z90];omega;rw[aD,Iy];exact(BK _ w 1).trans (I' bna) Ih;have aE:k < ns.length:=by omega
 by_cases Y:ns.length+1<=cap;refine(Any2.slices_Insert_int_shift Tryz.laysNm221 g 0 ns.length cap k q 0 1 1 (O' ns) [Ej x] w aE (by omega) Y aB aH (KE _) rfl ak (λz hj=>by rw[z45];exact aA _ (by omega)) (λz _=>ay _) J (RM ns) M
  j 3 1 cap (by simp[World.shape?,ab]) (by simp[World.shape?,V,H]) (by omega) (az _) (az _)).mono ?_
 rintro e w' ⟨rfl,rfl⟩;obtain⟨c,Z,G,aa⟩:=EA ((O' ns).drop k) (0+(k+1)) w.drew F V (by rw[ao,H];omega);obtain⟨aK,aq,au,av⟩:=EA [Value.int .i64 x] (0+k) _ c Z (by rw[G,H];simp;omega);refine⟨_,rfl,?_,?_,.inr (.inl rfl)⟩;refine IA aq Q Y ai (by rw[au,G,H]) (rest:=F.toList.drop (ns.length+1)) ?_;rw[av,ac,aa];have a1:(F.toList.take (0+(k+1))++(O' ns).drop k++F.toList.drop (0+(k+1)+((O' ns).drop k).length)).take (0+k)=O' (ns.take k):=by rw[z39,z81 (by simp;omega),Ah,Fu (by omega),z45,<-YH,<-ax,Ah,Fu (by omega)]
 have a3:0+k+ [Value.int .i64 (x:Int)].length=0+(k+1):=by simp
 have a4:(F.toList.take (0+(k+1))).length=0+(k+1):=by simp;omega
 have a5:0+(k+1)+((O' ns).drop k).length=ns.length+1:=by rw[ao];omega
 rw[a1,a3,a5,z39 (F.toList.take _),Iz (by rw[a4];omega),List.drop_of_length_le (by rw[a4];omega),z78,YG];simp only[List.append_assoc];have f1:=(BK (λk=>k=g) w 1).trans (EB g ((O' ns).drop k) (0+(k+1)) w.drew) Ih;exact(f1.trans (EB g _ _ _) Ih).mono (λb _ hb=>by rw[hb];rfl);refine(Bp g ns.length cap k q (O' ns) (Ej x) w aE hn (by omega) (by omega) (KE _) ak J (RM ns) M).mono ?_;rintro e w' ⟨rfl,rfl⟩;have I:=ah cap;have aL:=ad cap;have aM:Far (λ_=>False) w (w.alloc (.cells (((O' ns).take k).toArray++Builtin.zeroCells (Value.int .i64 0).cells (ns.length+1 - k)++Builtin.zeroCells (Value.int .i64 0).cells (grownCap w (ns.length+1) cap 3 - (ns.length+1))) 3)):=I' bna;have aN:=z19 w (.cells (((O' ns).take k).toArray++Builtin.zeroCells (Value.int .i64 0).cells (ns.length+1 - k)++Builtin.zeroCells (Value.int .i64 0).cells (grownCap w (ns.length+1) cap 3 - (ns.length+1))) 3);have aO:(((O' ns).take k).toArray++Builtin.zeroCells (Value.int .i64 0).cells (ns.length+1 - k)++Builtin.zeroCells (Value.int .i64 0).cells (grownCap w (ns.length+1) cap 3 - (ns.length+1))).size=grownCap w (ns.length+1) cap 3:=by rw[Fs,Fs,MO,MO];simp[KE];omega
 have aP:∃r,(((O' ns).take k).toArray++Builtin.zeroCells (Value.int .i64 0).cells (ns.length+1 - k)++Builtin.zeroCells (Value.int .i64 0).cells (grownCap w (ns.length+1) cap 3 - (ns.length+1))).toList=O' (ns.take k)++r:=⟨_,by rw[Array.append_assoc,Iy,YH]⟩;obtain⟨r,aQ⟩:=aP;generalize grownCap w (ns.length+1) cap 3=aR at *;generalize (((O' ns).take k).toArray++Builtin.zeroCells (Value.int .i64 0).cells (ns.length+1 - k)++Builtin.zeroCells (Value.int .i64 0).cells (aR - (ns.length+1)))=arr at *;generalize aT:w.alloc (.cells arr 3)=W at *;obtain⟨c,Z,G,aa⟩:=EA [Value.int .i64 x] k W.drew arr aN (by simp;omega);obtain⟨aK,aq,au,av⟩:=EA ((O' ns).drop k) (k+1) (W.drew.setCells w.heap.size k [Value.int .i64 x]).drew c Z (by rw[G,ao];omega);have a2:(O' (ns.take k)++[Value.int .i64 (x:Int)]).length=k+1:=by simp[aI]
 refine⟨_,rfl,?_,?_,.inr (.inr ⟨_,rfl,z16 _⟩)⟩;refine IA aq Q I aL (by rw[au,G,aO]) (rest:=c.toList.drop (k+1+((O' ns).drop k).length)) ?_;rw[av,ac,aa];have a1:arr.toList.take k=O' (ns.take k):=by rw[aQ,z81 (by omega),z48 (by omega)]
 rw[a1,z81 (by rw[a2];omega),z48 (by rw[a2];omega),YG];have f1:Far (λb=>b=w.heap.size) W (W.drew.setCells w.heap.size k [Value.int .i64 x]).drew:=(BK _ W 1).trans ((EB w.heap.size _ k W.drew).trans (BK _ _ 1) Ih) Ih;have f2:=f1.trans (EB w.heap.size ((O' ns).drop k) (k+1) _) Ih;exact(aM.trans f2 (λb hb h=>by omega)).mono (λ_ _ h=>h.elim)
theorem KF {w:World} (h:Jt w y k) (i j:Nat) (M:i<=j) (hj:j<=k.length):
  Cp 199 #[y,Ej i,Ej j] w λe w'=>∃v',e=.returned v'/\Jt w' v' (k.take i++k.drop j)/\
   Far (λb=>y.ownBlock=some b) w w'/\v'.ownBlock=y.ownBlock:=by
 rcases h.cases with ⟨rfl,rfl⟩|⟨g,cap,F,rfl,G,hn,H,I,ad⟩;obtain rfl:j=0:=by simpa using hj
 obtain rfl:i=0:=by omega
 refine(Tryz.slices_Delete_int_empty none 0 w).mono ?_;rintro e w' ⟨rfl,rfl⟩;exact⟨_,rfl,FL _,Far.refl _ _,rfl⟩;refine(Tryz.slices_Delete_int_cells g 0 k.length cap i j (k.map Int.ofNat) w (by simp) hn (by unfold maxLen at H;omega) M hj (λz Q=>?_) (λz _=>by simp[World.frozen?,G])).mono ?_;have J:z < k.length:=by simpa using Q
 rw[z45,z59 h z (by omega),YF J];simp[List.getD_eq_getElem?_getD,J];rintro e w' ⟨rfl,q,rfl⟩;have V:(((k.map Int.ofNat).take k.length).take i++((k.map Int.ofNat).take k.length).drop j++List.replicate (j - i) 0).map (Value.int .i64)=O' (k.take i++k.drop j)++List.replicate (j - i) (Ej 0):=by have Y:(k.map Int.ofNat).take k.length=k.map Int.ofNat:=z48 (by simp);rw[Y];simp only[List.map_append,List.map_replicate,O',<-List.map_take,<-List.map_drop,List.map_map];rfl
 rw[V];have Z:(O' (k.take i++k.drop j)++List.replicate (j - i) (Value.int .i64 0)).length=k.length:=by simp[O'];omega
 obtain⟨c,aa,ab,ac⟩:=EA (O' (k.take i++k.drop j)++List.replicate (j - i) (Ej 0)) 0 (w.drewN q) F G (by rw[Z,I];omega);refine⟨_,rfl,?_,?_,rfl⟩;refine IA aa (by simp;omega) (by omega) H (by rw[ab,I]) (rest:=List.replicate (j - i) (Ej 0)++F.toList.drop (0+(O' (k.take i++k.drop j)++List.replicate (j - i) (Value.int .i64 0)).length)) ?_;rw[ac];simp;exact((BK (λz=>z=g) w q).trans (EB g _ _ _) Ih).mono (λb _ hb=>by rw[hb];rfl)
def AV:List (Nat×Value)->Int->Option Value
 |[],_=>none
 |x::r,k=>if k=(x.1:Int)then some x.2 else AV r k
theorem EI (x:Nat×Value) (r:List (Nat×Value)) (k:Int):AV (x::r) k=if k=(x.1:Int)then some x.2 else AV r k:=rfl
theorem YJ:AV []=λ_=>none:=by funext k;rfl
theorem IW (h:AV d o=some y):∃x∈d,(x.1:Int)=o/\x.2=y:=by
 induction d with
 |nil=>cases h
 |cons x r ih=>unfold AV at h;split at h;rename_i z;exact⟨x,.head _,z.symm,fB h⟩;obtain⟨F,G,e⟩:=ih h;exact⟨F,.tail _ G,e⟩
theorem NW (l:List (Nat×Value)) (n:Nat):(AV l n).isSome=(l.map (·.1)).contains n:=by
 induction l with
 |nil=>rfl
 |cons x r ih=>unfold AV;rw[z50,Ge];by_cases h:n=x.1;subst h;simp;rw[if_neg (by omega),ih];simp[h]
def CY:List (Nat×Value)->Nat->Value->List (Nat×Value)
 |[],n,v=>[(n,v)]
 |x::r,n,v=>if n < x.1 then(n,v)::x::r else if n=x.1 then(n,v)::r else x::CY r n v
theorem OP (l:List (Nat×Value)) (n:Nat) (v:Value):AV (CY l n v)=WE (AV l) n v:=by
 funext k;induction l with
 |nil=>simp[CY,AV,WE]
 |cons x r ih=>
  unfold CY;by_cases h1:n < x.1;rw[if_pos h1];show(if k=(n:Int)then some v else AV (x::r) k)= _;rfl;rw[if_neg h1];by_cases h2:n=x.1;rw[if_pos h2];show(if k=(n:Int)then some v else AV r k)= _;unfold WE;rw[EI];by_cases h3:k=(n:Int);rw[if_pos h3,if_pos h3];rw[if_neg h3,if_neg h3,if_neg (by omega)];rw[if_neg h2];show(if k=(x.1:Int)then some x.2 else AV (CY r n v) k)= _;rw[ih];unfold WE;show _=if k=(n:Int)then some v else(if k=(x.1:Int)then some x.2 else AV r k)
  by_cases h3:k=(x.1:Int);rw[if_pos h3,if_neg (by omega),if_pos h3];rw[if_neg h3,if_neg h3]
theorem RP (h:bW∈CY d w y):bW=(w,y)\/bW∈d:=by
 induction d with
 |nil=>simp[CY]at h;exact .inl h
 |cons z r ih=>
  unfold CY at h;split at h
  .cases h with
   |head=>exact .inl rfl
   |tail _ h=>exact .inr h
  .split at h
   .cases h with
    |head=>exact .inl rfl
    |tail _ h=>exact .inr (.tail _ h)
   cases h with
   |head=>exact .inr (.head _)
   |tail _ h=>exact(ih h).imp id (λh=>.tail _ h)
theorem NX (h:∀y∈k,¬y < w):k.countP (· < w)=0:=by
 rw[Fj];intro y z;simpa using h y z
theorem iF {l:List (Nat×Value)} {n:Nat} {v:Value} (hs:(l.map (·.1)).Pairwise (· < ·)):
  (CY l n v).map (·.1)=if(l.map (·.1)).contains n then l.map (·.1)else(l.map (·.1)).take ((l.map (·.1)).countP (· < n))++n::(l.map (·.1)).drop ((l.map (·.1)).countP (· < n)):=by
 induction l with
 |nil=>simp[CY]
 |cons x r ih=>
  rw[z50,z63]at hs;obtain⟨h0,hs⟩:=hs;unfold CY;rw[z50,Ge,rW];by_cases h1:n < x.1;have G:(r.map (·.1)).countP (· < n)=0:=NX (λy H=>by have:=h0 y H;omega);have hn:(r.map (·.1)).contains n=false:=by
   cases h:(r.map (·.1)).contains n with
   |false=>rfl
   |true=>have:=h0 n (by simpa using h);omega
  have z:(n==x.1)=false:=by simp;omega
  rw[if_pos h1,G,hn,z,if_neg (by simp)];have:decide (x.1 < n)=false:=by simp;omega
  simp[this];rw[if_neg h1];by_cases h2:n=x.1;have z:(n==x.1)=true:=by simp[h2]
  rw[if_pos h2,z,if_pos (by simp)];simp[h2];have I:x.1 < n:=by omega
  have z:(n==x.1)=false:=by simp[h2]
  rw[if_neg h2,z,z50,ih hs];simp only[Bool.false_or];by_cases F:(r.map (·.1)).contains n=true;rw[if_pos F,if_pos F];rw[if_neg F,if_neg F];simp[I]
theorem oJ (hs:(d.map (·.1)).Pairwise (· < ·)):((CY d w y).map (·.1)).Pairwise (· < ·):=by
 induction d with
 |nil=>simp[CY]
 |cons x r ih=>
  have H:=hs;rw[z50,z63]at hs;obtain⟨h0,hs⟩:=hs;unfold CY;by_cases h1:w < x.1
  .rw[if_pos h1,z50,z63];refine⟨λF z=>?_,H⟩;rw[z50]at z;cases z with
   |head=>exact h1
   |tail _ z=>exact Nat.lt_trans h1 (h0 F z)
  rw[if_neg h1];by_cases h2:w=x.1;rw[if_pos h2,z50,z63];exact⟨λF z=>by rw[h2];exact h0 F z,hs⟩;rw[if_neg h2,z50,z63];refine⟨λF z=>?_,ih hs⟩;obtain⟨I,G,rfl⟩:=z66.1 z;rcases RP G with rfl|G;show x.1 < w;omega;exact h0 _ (z66.2 ⟨I,G,rfl⟩)
theorem NY (l:List (Nat×Value)) (n:Nat) (v:Value):(CY l n v).length<=l.length+1:=by
 induction l with
 |nil=>simp[CY]
 |cons x r ih=>unfold CY;split;simp;split;simp;simp only[List.length_cons];omega
structure Jl (w:World) (nv mv:Value) (l:List (Nat×Value)):Prop where
 nums:Jt w nv (l.map (·.1))
 map:fJ w mv (AV l)
 sorted:(l.map (·.1)).Pairwise (· < ·)
 len:l.length<=1000
theorem Jl.keep {w w':World} (h:Jl w y u d) (hn:∀g,y.ownBlock=some g->w'.heap[g]? =w.heap[g]?) (z:∀g,CT u=some g->w'.heap[g]? =w.heap[g]?):Jl w' y u d:=
 ⟨h.nums.keep hn,h.map.keep z,h.sorted,h.len⟩
def ShU (nv mv:Value) (k:Nat):Prop:=nv.ownBlock=some k\/CT mv=some k
theorem Jl.far {E:Nat->Prop} {w w':World} {nv mv:Value} {l:List (Nat×Value)} (h:Jl w nv mv l) (F:Far E w w') (G:∀k,ShU nv mv k->¬E k):Jl w' nv mv l:=
 h.keep (λg z=>F.rest g (z14 h.nums g z).2 (G g (.inl z))) (λg z=>F.rest g (h.map.lt g z) (G g (.inr z)))
theorem Jl.lt {w:World} (h:Jl w y u d):∀k,ShU y u k->k < w.heap.size:=by
 rintro k (z|z);exact(z14 h.nums k z).2;exact h.map.lt k z
theorem NZ (w:World):Jl w En (.map none) []:=⟨FL w,.inl ⟨rfl,YJ⟩,by simp,by simp⟩
theorem Jl.ne {w:World} {nv mv:Value} {l:List (Nat×Value)} (h:Jl w nv mv l) {p:Nat} {c:Array Value} {t:TypeId} {fr:Nat×Nat} (F:w.heap[p]? =some (.cells c t fr)) (G:t≠3):¬ShU nv mv p:=by
 rintro(z|z);exact(Ql.Jc h.nums).ne F (λe=>G e.symm) z;rcases h.map with ⟨rfl,_⟩|⟨b,rfl,H⟩;cases z;cases z;exact H.Jy F
structure KP (w:World) (p o:Nat) (t:TypeId) (arr:Array Value) (nv mv:Value) (l:List (Nat×Value)):Prop where
 blk:w.heap[p]? =some (.cells arr t (0,0))
 c0:arr[o]? =some nv
 c1:arr[o+1]? =some mv
 sh:Jl w nv mv l
 ty:t≠3
structure EC (w x:World) (p o:Nat) (t:TypeId) (arr:Array Value) (nv mv:Value) (l':List (Nat×Value)):Prop where
 out:∃nv' mv',KP x p o t ((arr.setIfInBounds o nv').setIfInBounds (o+1) mv') nv' mv' l'/\Loc w nv nv'/\(CT mv'=CT mv\/∃g,CT mv'=some g/\w.heap.size<=g)
 far:Far (λk=>k=p\/ShU nv mv k) w x
theorem IX {i:Nat} (h:l[i]? =some y):l.setIfInBounds i y=l:=by
 apply Ai;rw[Fq];apply z93;intro j;rw[z94];by_cases z:i=j;subst z;have F:i < l.size:=(z38.1 h).1;rw[if_pos rfl,Ix,if_pos F];simpa using h.symm;simp[z]
theorem set_comm (u v:Value) (h:w≠a):(l.setIfInBounds w u).setIfInBounds a v=(l.setIfInBounds a v).setIfInBounds w u:=by
 apply Ai;simp only[Array.toList_setIfInBounds];exact List.set_comm _ _ h
theorem Jt.Ye (N:Jt p y k) (z:Xp p w aS):y.ownBlock≠some w:=by
 intro h;rcases N.cases with ⟨rfl,_⟩|⟨g,cap,G,rfl,F,_⟩;cases h;cases h;exact z.Jy F
theorem EG (h:Loc f y u) (hs:p.heap.size<=f.heap.size):Loc p y u:=by
 rcases h with h|h|⟨g,h,z⟩;exact .inl h;exact .inr (.inl h);exact .inr (.inr ⟨g,h,z26 hs z⟩)
theorem vS {W:World} {v:Value} (h0:a < l.size) (h1:a+1 < l.size) (hb:Eh f w ((l.setIfInBounds a u).setIfInBounds (a+1) (.map (some b))) j) (I:j≠3)
  (N:Jt f u ((CY d q v).map (·.1))) (F:Xp f b (AV d)) (J:Far (λk=>k=w\/y.ownBlock=some k) p f) (hl:Loc p y u) (G:CT R=some b\/p.heap.size<=b)
  (M:Xp W b (WE (AV d) q v)) (z:Far (λk=>k=b) f W) (hs:(d.map (·.1)).Pairwise (· < ·)) (V:d.length < 1000):EC p W w a j l y R (CY d q v):=by
 have Q:¬w=b:=λe=>F.Jy (by rw[<-e];exact hb);refine⟨⟨u,.map (some b),⟨z.blk hb Q,?_,?_,⟨N.keep (λg H=>z.rest g (z14 N g H).2 (λe=>N.Ye F (by rw[H,e]))),.inr ⟨b,rfl,by rw[OP];exact M⟩,oJ hs,by have:=NY d q v;omega⟩,I⟩,hl,?_⟩,?_⟩;rw[z18 (by omega)];simp[h0];simp[h1];rcases G with h|h;exact .inl h.symm;exact .inr ⟨b,rfl,h⟩;refine(J.mono (λk _ h=>h.elim .inl (λh=>.inr (.inl h)))).trans z (λk Y e=>?_);rcases G with h|h;exact .inr (.inr (by rw[h,e]));omega
def La (B:Nat) (z:List Value) (v:Value) (w:World):Prop:=∃g,v=Es g 0 1 1/\B<=g/\w.heap[g]? =some (.cells z.toArray 254 (0,0))
theorem aM' (B:Nat) (z:List Value):CL (La B z):=λ_ _ _ h hb=>by
 obtain⟨g,e,h1,h2⟩:=h;exact⟨g,e,h1,(hb.block g (z12 h2)).trans h2⟩
theorem an' (z:∀k,N k->k < w):DO N (La w C):=λ_ _ _ h hF=>by
 obtain⟨g,e,h1,h2⟩:=h;exact⟨g,e,h1,hF.blk h2 (λe=>by have:=z _ e;omega)⟩
def Gl (w0:World) (z:Value) (F:List Value) (v:Value) (w:World):Prop:=Ql w 254 65 v 1 F/\Loc w0 z v/\w0.heap.size<=w.heap.size
theorem az' (w0:World) (z:Value) (F:List Value):CL (Gl w0 z F):=λ_ _ _ h hb=>
 ⟨h.1.keep (λg G=>hb.block g (h.1.lt g G)),h.2.1,z26 h.2.2 hb.size⟩
theorem ao' {E:Nat->Prop} (F:∀k,E k->k < p.heap.size/\y.ownBlock≠some k):DO E (Gl p y C):=λ_ _ _ h hF=>
 ⟨h.1.far hF (λg z e=>by
  obtain⟨h1,h2⟩:=F g e;rcases h.2.1 with h3|h3|⟨k,h3,h4⟩
  .rw[h3]at z;cases z
  .rw[h3]at z;exact h2 z
  .rw[h3]at z;cases z;omega),h.2.1,z26 h.2.2 hF.size⟩
theorem YK:(prog.info? 254).map (λi=>(i.zero,i.size,i.bytes))=some (some (.agg (Ej 0::bv CF).toArray),65,72):=by kernel_rfl
def Gm (w0:World) (p:Nat) (lv z:Value) (n:Int) (F:List Value) (w:World):Prop:=
 ∃v,w.heap[p]? =some (.cells #[lv,v,Ej n,.bool false] 233 (0,0))/\Gl w0 z F v w
theorem aA' (w0:World) (p:Nat) (lv z:Value) (n:Int) (F:List Value):CL (λ_ w=>Gm w0 p lv z n F w):=λ_ _ _ h hb=>by
 obtain⟨v,h1,h2⟩:=h;exact⟨v,(hb.block p (z12 h1)).trans h1,az' w0 z F _ _ _ h2 hb⟩
theorem TU {K:Act->World->Prop} (x y:Operand) (H:J.op=.build 254 #[(0,x),(1,y)]) (k:Int) (S:List UInt8) (I:S.length=64)
  (z:G.eval x=Ej k) (F:G.eval y=.agg (bv S).toArray) (h:K (G.put J.dst (.agg (Ej k::bv S).toArray)) p):J.wp prog G p K aB:=by
 have hb:=oD k S I;refine wp_build 254 #[(0,x),(1,y)] H ?_ ?_;simp only[List.map_toArray,List.map_cons,List.map_nil,z,F,hb];rfl;simp only[List.map_toArray,List.map_cons,List.map_nil,z,F,hb];exact h
theorem kJ (w:World) (z:List Value) (F:z.length=65):(Instr.buildSlice 231 1 #[(0,.agg z.toArray)]).run prog w=.ok (Es w.heap.size 0 1 1) (w.alloc (.cells z.toArray 254)):=by
 obtain⟨i0,hi,H,I,M⟩:=AT YK;have J:∀C:Array Value,C.size=65->Instr.fill (λi=>some (i * 65,65)) C [(0,.agg z.toArray)]=some z.toArray:=by intro C G;have e:=YC 0 z 0 C (by omega);simp only[Instr.fill,Value.cells];simp[F,G];simp at e;rw[e];simp[F,G]
 simp[Instr.buildSlice,run_underlying underlying231,sizeOf,typeInfo,hi,I,zeroValue,H];rw[J _ (by simp)];simp[newRow]
theorem fN {K:Act->World->Prop} (x:Operand) (F:J.op=.buildSlice 231 1 #[(0,x)]) (z:List Value) (H:z.length=65)
  (I:G.eval x=.agg z.toArray) (h:K (G.put J.dst (Es p.heap.size 0 1 1)) (p.alloc (.cells z.toArray 254))):J.wp prog G p K aB:=by
 unfold Oper.wp execOp;simp only[F,List.map_toArray,List.map_cons,List.map_nil,I,Sem.run_bind,kJ p z H,Result.andThen_ok];exact h
theorem kK (w:World) (p:Nat) (lv z:Value) (n k:Nat) (S:List UInt8) (ac:S.length=64) (hn:n≠1) (aP:n<=9223372036854775807)
  (hb:w.heap[p]? =some (.cells #[lv,z,Ej n,.bool false] 233 (0,0))) (ad:Ql w 254 65 z 0 []):
  Cp 169 #[Er p 0,Ej k,.agg (bv S).toArray] w λr w'=>
   r=.returned (Ej 0)/\Gm w p lv z (n - 1:Nat) (Ej k::bv S) w'/\Far (λj=>j=p\/z.ownBlock=some j) w w':=by
 have aj:=z12 hb;have Y:=ad.ne hb (by decide);have Z:∀F,(w.alloc F).heap[p]? =some (.cells #[lv,z,Ej n,.bool false] 233 (0,0)):=λF=>(hao _ _ aj).trans hb;have c3:∀F,(w.alloc F).cell? ⟨p,3,none⟩=some (.bool false):=λF=>Bi 3 (Z F);have c2:∀F,(w.alloc F).cell? ⟨p,2,none⟩=some (Ej n):=λF=>Bi 2 (Z F);have f2:∀F,(w.alloc F).frozen? ⟨p,2,none⟩=false:=λF=>H' (i:=2) (Z F);have aQ:((n:Int) ==1)=false:=by simp;omega
 have aR:IntKind.i64.wrap ((n:Int) - 1)=(n:Int) - 1:=by rw[z28];omega
 have ak:=y' hb;have ao:=y' ad;clear hb Z ad;go_enter func169,ntmps169;go_upto_region 7 with fail;obtain⟨M,aq⟩:=exq (n - 1);refine G' (λx=>x.heap[p]? =some (.cells #[lv,z,Ej M,.bool false] 233 (0,0))/\x.heap[w.heap.size]? =some (.cells (bv S).toArray 214 (0,0))/\Ql x 254 65 z 0 []/\Far (λj=>j=p) w x/\w.heap.size < x.heap.size) ?_ ?_;have aF:max 0 ((n:Int) - 1)=((M:Nat):Int):=by omega
 rw[aF];refine⟨?_,?_,(d' ao).far ((T' w p 2 (Ej M)).trans (I' bna) Ih) (λg G e=>Y (by rw[G,e])),(T' w p 2 (Ej M)).trans (I' bna) Ih,?_⟩;rw[hao _ _ (by rw[z80];exact aj)];have:=AA (j:=2) (v:=Ej M) (d' ak);simpa using this;have:=z19 (w.setCell ⟨p,2,none⟩ (Ej M)) (.cells (bv S).toArray 214);rw[z80]at this;exact this;simp;rintro x ⟨h0,h1,h2,h3,aS⟩;have aT:=z12 h0;have aG:=λg G=>h2.lt g G;have au:(Value.int .i64 k::bv S).length=65:=by simp[AC,ac]
 obtain⟨Q,aa⟩:=exq (Value.int .i64 k::bv S);rw[<-aa]at au;have av:=y' aa;have aH:∀u∈Q,u.oneCell'=true:=by
  rw[aa];intro u hu;cases hu with
  |head=>rfl
  |tail _ hu=>exact GO S u hu
 clear aa;have ax:=y' h0;have ay:=y' h1;have az:=y' h2;have aI:=y' h3;clear h0 h1 h2 h3 c3 c2 f2 ak ao;refine AH
  [Ep p 0,Ep p 0,Ep p 0,Ep p 1,Ev z,Ei k,Ev (.agg (bv S).toArray),Ev (.agg Q.toArray),La x.heap.size Q,Gl x z Q,Ep p 0,Ep p 1,λ_ w=>Gm x p lv z M Q w]
  [[0],[0],[2031],[3032],[4033],[1],[5],[6035,7036],[8037],[5034,9038],[1030],[11040],[12041,10039]] [31,32,33,34,35,36,37,38,39,40,41,42,0] [30,12]
  [(9,λj=>z.ownBlock=some j),(12,λj=>j=p)] ?_ ?_ (hst:=by repeat' (first|exact Y' _|exact aM' _ _|exact az' _ _ _|exact aA' _ _ _ _ _ _|exact trivial|apply z13)) (hstF:=by repeat' (first|exact trivial|exact .inl rfl|exact .inr (.inr (ab' _ _))|exact .inr (.inr (an' (λg G=>aG g G)))|exact .inr (.inr (an' (λg (G:g=p)=>by omega)))|exact .inr (.inr (ao' (λg (G:g=p)=>⟨by omega,by rw[G];exact Y⟩)))|exact .inr (.inl (by kernel_rfl))|apply z13))
 .refine⟨?_,?_,?_,?_,?_,?_,?_,?_,?_,?_,?_,?_,?_,trivial⟩;all_goals
   intro a V hb J;have ah:=hb.size;have ab:=y' hb;clear hb;simp[J']at J
  .go_simp;exact⟨_,rfl,Far.refl _ _,rfl⟩
  .go_simp;exact⟨_,rfl,Far.refl _ _,rfl⟩
  .go_simp;exact⟨_,rfl,Far.refl _ _,rfl⟩
  .go_simp;exact⟨_,rfl,Far.refl _ _,rfl⟩
  .have d1:V.cell? ⟨p,1,none⟩=some z:=Bi 1 ((d' ab).blk (d' ax) (by rintro⟨q,H,g1,g2,I⟩;simp at H;rcases H with rfl|rfl;exact Y I;exact absurd (show DM _ 12 4=false from g2) (by decide+kernel)));go_simp;exact⟨_,rfl,Far.refl _ _,rfl⟩
  .go_simp;exact⟨_,rfl,Far.refl _ _,rfl⟩
  have d1:=(d' ab).blk (d' ay) (by rintro⟨q,H,g1,g2,I⟩;simp at H;rcases H with rfl|rfl;have:¬z.ownBlock=some w.heap.size:=λe=>((d' az).ne (d' ay) (by decide)) e;exact this I;have I:w.heap.size=p:=I;omega);rw[if_pos (by rfl)];refine FH (.tmp 5) rfl w.heap.size (by simp[Act.eval,J]) 214 S ac d1 ?_;exact⟨_,rfl,Far.refl _ _,rfl⟩;rw[if_pos (by rfl)];refine TU (.tmp 35) (.tmp 36) rfl k S ac (by simp[Act.eval,J]) (by simp[Act.eval,J]) ?_;exact⟨_,rfl,Far.refl _ _,by rw[d' av];rfl⟩;rw[if_pos (by rfl)];refine fN (.tmp 37) rfl Q au (by simp[Act.eval,J]) ?_;exact⟨_,rfl,I' bna,_,rfl,ah,z19 V _⟩;have aJ:=(d' az).far (d' ab) (by rintro g G ⟨q,H,g1,g2,I⟩;simp at H;rcases H with rfl|rfl;exact g1 rfl;have I:g=p:=I;exact Y (by rw[G,I]));obtain⟨g,G,aU,aK⟩:=J.2;refine ES rfl (.tmp 34) (.tmp 38) 231 rfl 254 _ 65 72 underlying231 YK (by simp[Value.cells,AC,BD]) z 0 [] aJ (by simp[Act.eval,J]) ⟨g,0,none⟩ 1 1 Q (by simp[Act.eval,G]) (by omega) ?_ aH (by omega) (by omega) (by omega) ?_;intro j u hj;rw[JB,D' aK,Gf,z45];exact hj;intro v' w' g1 g2;exact⟨v',rfl,AQ (.head _) (BU g2.grown),g1,IK ah g2,z26 ah g2.grown.size⟩
  .go_simp;exact⟨_,rfl,Far.refl _ _,rfl⟩
  .go_simp;exact⟨_,rfl,Far.refl _ _,rfl⟩
  have d0:=(d' ab).blk (d' ax) (by rintro⟨q,H,g1,g2,I⟩;simp at H;rcases H with rfl|rfl;exact Y I;exact g1 rfl);have f1:V.frozen? ⟨p,1,none⟩=false:=H' (i:=1) d0;have d1:V.cell? ⟨p,1,none⟩=some z:=Bi 1 d0;obtain⟨aV,ai⟩:=J;obtain⟨aA,cap,aL,_⟩:=ai.1.shape;have aM:=y' d0;have aB:=y' ai;clear ai d0;rw[aL]at aB;go_simp;refine⟨AQ (.tail _ (.head _)) (T' V p 1 _),.slice aA 1 cap,?_,?_⟩;have:=AA (j:=1) (v:=.slice aA 1 cap) (d' aM);rw[<-aq];simpa using this;have aC:=d' aB;have aW:=aC.2.2;refine ao' (E:=λj=>j=p) (λg (G:g=p)=>⟨by omega,by rw[G];exact Y⟩) _ _ _ aC (T' V p 1 _)
 intro f V hF aD;have aE:=aD.2.2.2.2.2.2.2.2.2.2.2.2.1;have aN:=y' aE;have aO:=y' hF;clear aE aD hF;simp only[V'];go_simp;go_wp2;go_ret;refine⟨rfl,?_,?_⟩;rw[<-aq,<-d' av];obtain⟨v,g1,g2,I,aX⟩:=d' aN;exact⟨v,g1,g2,EG I (by omega),by omega⟩;refine((d' aI).mono (λj _ h=>.inl h)).trans (d' aO) (λj _ h=>?_);obtain⟨q,H,h⟩:=h;simp at H;rcases H with rfl|rfl;exact .inr h;exact .inl h
def Nh (z:Nat) (rt mt:TypeId) (F:Array Value):Prop:=
 (z=81/\rt=140/\mt=102/\∃ (b:z10) (G:Nat),F= #[.string b,Ej G])\/(z=121/\rt=207/\mt=108/\F= #[])\/
 (z=180/\rt=224/\mt=117/\∃b:z10,F= #[.string b])
theorem kL (ad:Nh w j aT l) (S:KP p a q cT aN y u d) (hl:d.length < 1000) (n:Nat):
  Cp w #[Er a q,Ej n,.agg l] p λe w'=>Rr e (.tuple #[])/\EC p w' a q cT aN y u (CY d n (.agg l)):=by
 obtain⟨aa,h0,h1,S,ah⟩:=S;obtain⟨aR,ai⟩:=exq (u);rw[<-ai];have ai:=y' ai;have c0:p.cell? (Ea a q)=some y:=(D' aa).trans h0;have c1:p.cell? (Ea a (q+1))=some u:=(D' aa).trans h1;have aS:=z12 aa;have aj:∀z:World,(binOp .eql aT (.map none) (.map none)).run prog z=.ok (.bool true) z:=by rcases ad with ⟨_,_,rfl,_⟩|⟨_,_,rfl,_⟩|⟨_,_,rfl,_⟩;all_goals exactλz=>by kernel_rfl
 have ak:∀ (z:World) (m:Nat),(binOp .eql aT (.map (some m)) (.map none)).run prog z=.ok (.bool false) z:=by rcases ad with ⟨_,_,rfl,_⟩|⟨_,_,rfl,_⟩|⟨_,_,rfl,_⟩;all_goals exactλz m=>by kernel_rfl
 obtain⟨aF,aG⟩:∃aF,prog.underlying aT=some (.map 3 aF):=by rcases ad with ⟨_,_,rfl,_⟩|⟨_,_,rfl,_⟩|⟨_,_,rfl,_⟩;exact⟨_,underlying102⟩;exact⟨_,underlying108⟩;exact⟨_,underlying117⟩
 have aU:=y' (λ(F:World) (mb:Nat) (H:Xp F mb (AV d))=>RL (P:=prog) (w:=F) aG underlying3 H n (.agg l));have aV:=y' (λh=>iF (l:=d) (v:=Value.agg l) (n:=n) h);have aW:=y' (z13 aj ak);obtain⟨ay,aH⟩:∃ay:World->Prop,∀x,ay x=(Eh x a aN cT/\Eh x p.heap.size l j/\Jl x y u d/\Far (λ_=>False) p x/\p.heap.size < x.heap.size):=⟨_,λ_=>rfl⟩;obtain⟨az,aI⟩:∃az:World->Prop,∀z,az z=(∃mb,Eh z a (aN.setIfInBounds (q+1) (.map (some mb))) cT/\Eh z p.heap.size l j/\Jt z y (d.map (·.1))/\Xp z mb (AV d)/\
   Far (λk=>k=a) p z/\p.heap.size < z.heap.size/\(CT aR=some mb\/p.heap.size<=mb)):=⟨_,λ_=>rfl⟩
 obtain⟨aA,aJ⟩:∃aA:Nat->World->Prop,∀G F,aA G F=(∃nv',Eh F a ((aN.setIfInBounds q nv').setIfInBounds (q+1) (.map (some G))) cT/\Eh F p.heap.size l j/\Jt F nv' ((CY d n (.agg l)).map (·.1))/\Xp F G (AV d)/\
    Far (λk=>k=a\/y.ownBlock=some k) p F/\Loc p y nv'):=⟨_,λ_ _=>rfl⟩
 have aK:=y' aH;have aB:=y' aI;have aC:=y' aJ;clear aj ak aG aH aI aJ;rcases ad with ⟨rfl,rfl,rfl,b,bt,rfl⟩|⟨rfl,rfl,rfl,rfl⟩|⟨rfl,rfl,rfl,b,rfl⟩;all_goals
  first
   |go_enter func81,ntmps81
   |go_enter func121,ntmps121
   |go_enter func180,ntmps180
  go_upto_region 1 with fail
  refine G' ay ?_ ?_;rw[d' aK];have J:∀O,Far (λ_=>False) p (p.alloc O):=λO=>I' bna;exact⟨(J _).blk aa id,z19 p _,S.far (J _) Ih,J _,by simp⟩;clear c0 c1 S;intro x aL;rw[d' aK]at aL;obtain⟨hb,I,S,J,M⟩:=aL;have c0:x.cell? (Ea a q)=some y:=(D' hb).trans h0;have c1:x.cell? (Ea a (q+1))=some u:=(D' hb).trans h1;have aX:x.frozen? ⟨a,q+1,none⟩=false:=by simp[World.frozen?,hb]
  have aY:= @run_makeMap prog;obtain⟨aj,ak⟩:=d' aW;have ao:(x.alloc (.map #[] 0)).heap[a]? =some (.cells aN cT (0,0)):=(z35 x _ a (z12 hb)).trans hb;have aZ:(x.alloc (.map #[] 0)).cell? (Ea a (q+1))=some u:=(D' ao).trans h1;have ba:(x.alloc (.map #[] 0)).frozen? ⟨a,q+1,none⟩=false:=by simp[World.frozen?,ao]
  rcases S.map with ⟨rfl,aq⟩|⟨mb,rfl,aq⟩;all_goals
   go_upto_region 3 with fail
   refine G' az ?_ ?_
  rw[d' aB];refine⟨x.heap.size,AA ao,(AG (by omega)).trans ((z35 x _ _ M).trans I),?_,?_,?_,?_,.inr (Nat.le_of_lt M)⟩;exact S.nums.keep (λg V=>(AG (λe=>S.ne hb ah (.inl (by rw[<-e];exact V)))).trans (z35 x _ g (z14 S.nums g V).2));rw[aq];exact(iD x).keep (AG (by have:=z12 hb;omega));exact((J.mono (λ_ _ h=>h.elim)).trans (I' ((z11 _ x).alloc (z16 _) _)) Ih).trans (T' _ a (q+1) _) Ih;simp;omega;rotate_left;rw[d' aB];refine⟨mb,by rw[IX h1];exact hb,I,S.nums,aq,J.mono (λ_ _ h=>h.elim),M,.inl (by rw[d' ai];rfl)⟩;all_goals
   have hs:=y' S.sorted;clear c0 c1 ao aZ ba aX I S aq hb M aY aj ak J aS;intro z aM;rw[d' aB]at aM;obtain⟨G,hb,I,N,H,aO,M,bb⟩:=aM;have bc:q < aN.size:=(z38.1 h0).1;have aD:q+1 < aN.size:=(z38.1 h1).1;have a0:(aN.setIfInBounds (q+1) (.map (some G)))[q]? =some y:=(by rw[z18 (by omega)];exact h0);have a1:(aN.setIfInBounds (q+1) (.map (some G)))[q+1]? =some (.map (some G)):=(by simp[aD]);have c0:z.cell? (Ea a q)=some y:=(D' hb).trans a0;have Y:=d' aV (d' hs);have Z:=KD N (d' hs) (by simp;omega) n;have aE:(d.map (·.1)).countP (· < n)<=(d.map (·.1)).length:=rU;have bd:(d.map (·.1)).length < 1000:=(by simpa using hl);generalize (d.map (·.1)).countP (· < n)=k at Y Z aE;generalize (d.map (·.1)).contains n=c at Y Z;generalize d.map (·.1)=ns at Y Z aE N bd;replace Y:=y' Y;replace Z:=y' Z;cases c
   case' false=>
    go_upto_region 4 with (go_at_call 125;refine Cm Z ?_;rintro e be ⟨rfl,Q,rfl⟩)
    go_upto_region 6 with fail
    refine(YI (w:=(z.drewN Q).alloc (.cells #[Ej n] 3)) (ns:=ns) (N.keep (λg V=>z35 (z.drewN Q) _ g (z14 N g V).2)) (by omega) k n z.heap.size aE (z19 (z.drewN Q) _) (λe=>by have:=(z14 N _ e).2;omega)).mono ?_;rintro e F ⟨nv',rfl,au,av,bf⟩;have ax:=av.blk ((z35 (z.drewN Q) _ a (z12 hb)).trans hb) (λe=>(Ql.Jc N).ne hb (λe=>ah e.symm) e);have bg:=av.blk ((z35 (z.drewN Q) _ _ M).trans I) (λe=>(Ql.Jc N).ne I (by decide) e);have bu:=(D' ax).trans a0;have bw:F.frozen? ⟨a,q,none⟩=false:=(by simp[World.frozen?,ax]);obtain⟨bh,ab⟩:=exq (ns.take k++n::ns.drop k);rw[<-ab]at au;obtain⟨g',bi,rfl⟩:=BS au (by rw[ab];simp only[List.length_append,List.length_cons];omega);replace ab:=y' ab;go_upto_region 6 with fail
   case' true=>
    go_upto_region 4 with (go_at_call 125;refine Cm Z ?_;rintro e be ⟨rfl,Q,rfl⟩)
    go_upto_region 6 with fail
   all_goals
    refine G' (aA G) ?_ ?_
   rw[d' aC];have ac:=d' Y;simp only[if_true]at ac;refine⟨y,?_,I,by rw[ac];exact N,H,(aO.mono (λ_ _ h=>.inl h)).trans (BK _ z Q) Ih,.inr (.inl rfl)⟩;rw[IX h0];exact hb;rotate_left;rw[d' aC];have bj:y.ownBlock≠some G:=N.Ye H;have bk:∀g,(Value.slice (some ⟨g',0,none⟩) bh.length bi).ownBlock=some g->g≠a:=λg V e=>(Ql.Jc au).ne ax (λe=>ah e.symm) (by rw[V,e]);have ac:=d' Y;simp only[Bool.false_eq_true,if_false]at ac;have aP:Far (λ_=>False) z ((z.drewN Q).alloc (.cells #[Ej n] 3)):=(BK (λ_=>False) z Q).trans (I' bna) Ih;have bl:Far (λb=>b=a\/y.ownBlock=some b) p F:=(aO.mono (λ_ _ h=>.inl h)).trans ((aP.mono (λ_ _ h=>h.elim)).trans av Ih) (λ_ _ h=>.inr h);refine⟨_,?_,(AG (by have:=z12 aa;omega)).trans bg,?_,?_,bl.trans (T' F a q _) (λ_ _ h=>.inl h),EG bf (by simp;omega)⟩;rw[set_comm _ _ (show q≠q+1 by omega)];exact AA ax;rw[ac,<-d' ab];exact au.keep (λg V=>AG (bk g V));exact H.keep ((AG (λe=>H.Jy (by rw[e];exact hb))).trans ((av.rest _ (by have:=H.lt;simp;omega) bj).trans (aP.rest _ H.lt id)));all_goals
    intro F M;rw[d' aC]at M;obtain⟨nv',hb,I,bm,H,J,bn⟩:=M;obtain⟨aQ,bo,bp⟩:=d' aU F G H;have bz:=bo F.drew rfl;have c1:F.cell? (Ea a (q+1))=some (.map (some G)):=(D' hb).trans (by simp[aD]);have bq:=Bi 0 I;have br:=Bi 1 I;simp at bq br;go_region;refine z74 (z64 rfl _ _ _) rfl ⟨rfl,?_⟩;exact vS (W:={F.drew with heap:=F.drew.heap.setIfInBounds G aQ}) bc aD hb ah bm H J bn bb bp ((BK _ F 1).trans (JS G aQ) Ih) (d' hs) hl
def Ni (z:Nat) (mt:TypeId):Prop:=(z=118/\mt=105)\/(z=119/\mt=108)\/(z=177/\mt=117)
theorem TV (ab:Ni w j) (S:KP p a q aT l y u d):
  Cp w #[Er a q] p λe w'=>Rr e (.tuple #[])/\EC p w' a q aT l y u []:=by
 obtain⟨I,h0,h1,S,Q⟩:=S;have ac:q < l.size:=(z38.1 h0).1;have ad:q+1 < l.size:=(z38.1 h1).1;obtain⟨J,F⟩:=exq (u);rw[<-F];replace F:=y' F;have c1:p.cell? ⟨a,q+1,none⟩=some u:=(D' I).trans h1;have ak:=S.nums.cases;obtain⟨ah,V⟩:∃ah,prog.underlying j=some (.map 3 ah):=by rcases ab with ⟨_,rfl⟩|⟨_,rfl⟩|⟨_,rfl⟩;exact⟨_,underlying105⟩;exact⟨_,underlying108⟩;exact⟨_,underlying117⟩
 have G:(u=.map none/\∀ty,(Builtin.clear_ #[j] ty #[.map none]).run prog p=.ok (.tuple #[]) p)\/
   ∃b q,u=.map (some b)/\b≠a/\y.ownBlock≠some b/\(∀ty,(Builtin.clear_ #[j] ty #[.map (some b)]).run prog p=.ok (.tuple #[]) {p with heap:=p.heap.setIfInBounds b q})/\Xp {p with heap:=p.heap.setIfInBounds b q} b (λ_=>none):=by
  rcases S.map with ⟨rfl,G⟩|⟨mb,rfl,G⟩
  .exact .inl ⟨rfl,λty=>oH V⟩
  .obtain⟨Y,ao,Z⟩:=oG (P:=prog) (w:=p) (t:=j) V G;exact .inr ⟨mb,Y,rfl,λe=>G.Jy (by rw[e];exact I),S.nums.Ye G,λty=>ao ty p rfl,Z⟩
 clear V;rcases ab with ⟨rfl,rfl⟩|⟨rfl,rfl⟩|⟨rfl,rfl⟩;all_goals
  rcases G with ⟨rfl,aq⟩|⟨mb,Y,rfl,au,av,aq,Z⟩;all_goals
   first
    |go_enter func118,ntmps118
    |go_enter func119,ntmps119
    |go_enter func177,ntmps177
   go_upto_region 1 with fail
   refine G' (λx=>x.heap[a]? =some (.cells l aT (0,0))/\Jt x y (d.map (·.1))/\fJ x J (AV [])/\Far (λk=>k=a\/ShU y J k) p x) ?_ ?_
  exact⟨I,S.nums,by rw[d' F];exact .inl ⟨rfl,YJ⟩,Far.refl _ _⟩;rotate_left;have H:=JS (w:=p) mb Y;refine⟨H.blk I (λe=>au e.symm),S.nums.keep (λg ai=>H.rest g (z14 S.nums g ai).2 (λe=>av (by rw[ai,e]))),by rw[d' F];exact .inr ⟨mb,rfl,by rw[YJ];exact Z⟩,H.mono (λk _ e=>.inr (.inr (by rw[d' F,e];rfl)))⟩;all_goals
   clear S;rintro x ⟨hb,N,M,H⟩;have c0:x.cell? ⟨a,q,none⟩=some y:=(D' hb).trans h0;have f0:x.frozen? ⟨a,q,none⟩=false:=by simp[World.frozen?,hb]
   rcases ak with ⟨rfl,_⟩|⟨g,cap,aB,rfl,aC,hn,ax,aD,aE⟩
   .go_wp2;refine z74 (z64 rfl _ _ _) rfl ⟨rfl,?_⟩;refine⟨⟨_,J,⟨?_,?_,?_,⟨FL _,M.keep (λb z=>AG (λe=>?_)),by simp,by simp⟩,Q⟩,.inr (.inl rfl),.inl rfl⟩,H.trans (T' x a q _) (λ_ _ h=>.inl h)⟩;have:=AA (j:=q) (v:=En) hb;rw[IX (i:=q+1)];exact this;rw[z18 (by omega),h1,d' F];rw[z18 (by omega)];simp[ac];simp[ad];rcases M with ⟨h,_⟩|⟨ay,h,aa⟩;rw[h]at z;cases z;rw[h]at z;cases z;exact aa.Jy (by rw[e];exact hb)
   .go_wp2;refine z74 (z64 rfl _ _ _) rfl ⟨rfl,?_⟩;rcases N.cases with ⟨h,_⟩|⟨g',aF,aG,h,aj,aH,aI,az,aJ⟩;cases h;injection h with h _ h3;injection h with h;injection h with h;subst h h3;have aA:g≠a:=λe=>by subst e;rw[aj]at hb;injection hb with hb;injection hb with _ hb _;exact Q hb.symm
    refine⟨⟨_,J,⟨?_,?_,?_,⟨iE (ns:=[]) ((AG aA).trans aj) (z54 _) ax az rfl,M.keep (λb z=>AG (λe=>?_)),by simp,by simp⟩,Q⟩,.inr (.inl rfl),.inl rfl⟩,H.trans (T' x a q _) (λ_ _ h=>.inl h)⟩;rw[IX (i:=q+1)];exact AA (j:=q) hb;rw[z18 (by omega),h1,d' F];rw[z18 (by omega)];simp[ac];simp[ad];rcases M with ⟨h,_⟩|⟨ay,h,aa⟩;rw[h]at z;cases z;rw[h]at z;cases z;exact aa.Jy (by rw[e];exact hb)
def JD (b:z10) (z:Nat):Value:=.agg #[.string b,Ej z]
def Ij:Value:=.agg #[.string ⟨#[]⟩,Ej 0]
theorem tB (w:World):(zeroValue 140).run prog w=.ok Ij w:=zeroValue140 w
def kM (l:List (Nat×Value)):Prop:=∀x∈l,∃b z,x.2=JD b z
theorem xQ (h:kM d) (k:Int):(∃b z,AV d k=some (JD b z))\/AV d k=none:=by
 cases F:AV d k with
 |none=>exact .inr rfl
 |some v=>obtain⟨x,G,_,rfl⟩:=IW F;obtain⟨b,z,e⟩:=h x G;exact .inl ⟨b,z,by rw[e]⟩
theorem Bq (hb:Eh p w l j) (h1:l[a+1]? =some u) (S:Jl p y u d) (A:kM d) (n:Int):
  Cp 115 #[Er w a,Ej n] p λe w'=>Rr e (.bool (AV d n).isSome)/\El p w':=by
 have c1:p.cell? (Ea w (a+1))=some u:=(D' hb).trans h1;have z:=(CX (P:=prog) (w:=p) (t:=102) underlying102 underlying3 (tB p) S.map n).1;clear S hb h1;rcases xQ A n with ⟨b,F,h⟩|h;all_goals
  rw[h]at z ⊢;simp only[Option.getD_some,Option.getD_none,Option.isSome_some,Option.isSome_none,JD,Ij]at z ⊢;clear h A;go_enter func115,ntmps115;go_wp2;go_ret;refine⟨rfl,?_⟩;exact bna
theorem oK (S:KP p w a j l y u d) (hl:d.length < 1000) (n:Nat) (b:z10) (z:Nat):
  Cp 81 #[Er w a,Ej n,JD b z] p λe w'=>Rr e (.tuple #[])/\EC p w' w a j l y u (CY d n (JD b z)):=kL (.inl ⟨rfl,rfl,rfl,b,z,rfl⟩) S hl n
theorem oL {w:World} {p o:Nat} {arr:Array Value} {t:TypeId} {nv mv:Value} {l:List (Nat×Value)} (hb:Eh w p arr t) (h0:arr[o]? =some nv) (S:Jl w nv mv l):
  Cp 110 #[Er p o] w λe w'=>Rr e (Ej l.length)/\w'=w:=by
 have c0:w.cell? (Ea p o)=some nv:=(D' hb).trans h0;have hl:(l.map (·.1)).length=l.length:=z42 _;rcases S.nums.cases with ⟨rfl,z⟩|⟨g,cap,H,rfl,F,hn,I,z,G⟩
 .obtain rfl:l=[]:=by simpa using z
  go_enter func110,ntmps110;go_wp2;go_ret;exact⟨rfl,rfl⟩
 rw[hl]at c0;clear hb S h0 F hn G hl;generalize l.length=n at *;go_enter func110,ntmps110;go_wp2;go_ret;exact⟨rfl,rfl⟩
theorem Br:(O' ((d++[bW]).map (·.1)))[d.length]? =some (Ej (bW.1:Int)):=by
 simp[O']
theorem iG (hb:Eh p w l j) (h0:l[a]? =some y) (S:Jl p y u d):
  Cp 122 #[Er w a] p λe w'=>Rr e (.tuple #[Ej (match d.getLast? with|none=>0|some x=>x.1:Nat),.bool d.getLast?.isSome])/\∃n,w'=p.drewN n:=by
 have c0:p.cell? (Ea w a)=some y:=(D' hb).trans h0;have hl:(d.map (·.1)).length=d.length:=z42 _;rcases xN d with rfl|⟨z,x,F⟩
 .obtain⟨V,cap,e,_⟩:=(Ql.Jc S.nums).shape;subst e;simp only[List.map_nil,List.length_nil]at c0;clear hb S h0 hl;go_enter func122,ntmps122;go_wp2;go_ret2;exact⟨rfl,0,rfl⟩
 obtain rfl:d=z++[x]:=by rw[F,xM]
 clear F;rcases S.nums.cases with ⟨rfl,G⟩|⟨g,cap,Y,rfl,J,hn,Z,G,M⟩;simp at G;have H:((z++[x]).map (·.1)).length=z.length+1:=by simp
 have aa:p.cell? (Ea g z.length)=some (Ej (x.1:Int)):=by rw[z59 S.nums z.length (by simp)];exact Br
 have Q:=S.len;simp only[List.length_append,List.length_singleton]at Q;rw[H]at c0;have I:(z++[x]).getLast?=some x:=by simp
 rw[I];clear hb S h0 J hn M hl H I;generalize z.length=n at *;have ab:IntKind.i64.wrap ((n:Int)+1 - 1)=n:=by rw[z28];omega
 go_enter func122,ntmps122;go_wp2;go_quiet (fail);go_wp2;go_ret2;exact⟨rfl,_,rfl⟩
