/-
  Part 22 of a proof: CM8, SG6A, CM9, CM10.
-/
import Derived.ProofKit
import Derived.SizedLaws
import Derived.OpenShut
import Derived.ShutString
import Derived.ChangeOld
import Derived.Lib.SmallJoins
import Derived.Deep.Slices
import Derived.Test.YtamafdcnbcoegabGreatRows
import Derived.Deep.CutRange
import Derived.JoinedCond
import Derived.Test.YtamafdcnbcoegabGreatCm21
set_option maxRecDepth 100000
set_option maxHeartbeats 40000000
namespace Go.Proofs.YtamafdcnbcoegabGreat
open Go.RowKit
section
variable {M B K b p qx qy:Nat} {h1:1<=M} {hM:M<=1000000000000} {N:bd'} {w x y z:World} {st:Ph} {L:Nat->Prop}
theorem armA (r:Net B K p z N) (hd:N.da=false):Calls Tryz.prog 11 #[A' N.va, .int .i64 0] z fun D y=>D= .returned (.tuple #[])/\Net B K p y N/\dw' 0 y N.va N.a N.ua/\Far (fun k=>B<=k) z y:=by
 have F:AgE N.da z N.va N.a N.ua:=r.at_ 1;rcases F with ⟨_,n,h⟩|⟨h,_⟩
 ·refine(xd' 0 h (by omega)).mono ?_;rintro D y ⟨rfl,k1,k2⟩;have k3:dw' 0 y N.va N.a N.ua:=k1;have k4:=r.agent (d:=N.da) (a:=N.a) (.inl ⟨hd,0,k3⟩) k2 (fun k h=> .inl h);exact⟨rfl,k4,k3,k2.mono (fun k _ h=>(r.lt 1 k h).1)⟩
 ·rw[hd]at h;cases h
theorem armS (r:Net B K p z N) (F:dw' 0 z N.va N.a N.ua) (hd:N.ds=false):Calls Tryz.prog 12 #[A' N.vs, .int .i64 0] z fun D y=>D= .returned (.tuple #[])/\Net B K p y N/\dw' 0 y N.va N.a N.ua/\CsZ (1000 * (K+1)) y N.vs N.s N.us/\Far (fun k=>B<=k) z y:=by
 have G:SkE K N.ds z N.vs N.s N.us:=r.at_ 2;rcases G with ⟨_,op,ct,n,h1,h2,h⟩|⟨h,_⟩
 ·refine(xe' 0 h (by omega)).mono ?_;rintro D y ⟨rfl,k1,k2⟩;have k3:gb' op ct 0 y N.vs N.s N.us:=k1;have k4:=r.sinkS (K':=K) (d:=N.ds) (s:=N.s) (.inl ⟨hd,op,ct,0,h1,h2,k3⟩) k2 (fun k h=> .inl h);exact⟨rfl,k4,ea' F k2 (fun k h1 h2=>r.ne 1 2 k (by decide) h1 h2),⟨op,ct,k3,by omega⟩,k2.mono (fun k _ h=>(r.lt 2 k h).1)⟩
 ·rw[hd]at h;cases h
theorem sL' (r:Net B K p y N) (G:dw' 0 y N.va N.a N.ua) (hs:CsZ M y N.vs N.s N.us) (ga:aL' b N.a) (H:aw' N.s) (D:Below y.heap.size y z) (I:y.heap.size<=qx/\y.heap.size<=qy/\qx≠qy)
  (rx:nb' z qx st.x) (ry:nb' z qy st.y) (J:B<=y.heap.size) (O:st.a=N.a) (Q:st.s=N.s):cy' M B b p qx qy h1 hM N z st (fun _=>False):=by
 have U:=lt_of_block rx;have V:=lt_of_block ry;have F:Far (fun _=>False) y z:=C' D;have R:gP' B p N y:=⟨r.at_ 0,fun s hs=>by
  obtain rfl|rfl|rfl:s=0\/s=1\/s=2:=by omega
  ·exact r.at_ 5
  ·exact r.at_ 6
  ·exact r.at_ 7⟩
 have X:∀j,GN p N j->j < y.heap.size/\¬N.ua j/\¬N.us j:=fun j hj=>by
  refine⟨R.lt j hj,?_⟩;rcases hj with rfl|⟨s,hs,hj⟩
  ·exact⟨r.ne 0 1 j (by decide) rfl,r.ne 0 2 j (by decide) rfl⟩
  ·obtain rfl|rfl|rfl:s=0\/s=1\/s=2:=by omega
   ·exact⟨r.ne 5 1 j (by decide) hj,r.ne 5 2 j (by decide) hj⟩
   ·exact⟨r.ne 6 1 j (by decide) hj,r.ne 6 2 j (by decide) hj⟩
   ·exact⟨r.ne 7 1 j (by decide) hj,r.ne 7 2 j (by decide) hj⟩
 refine⟨?_,R.far (E:=fun _=>False) F (fun _ _ e=>e),rx,ry,I.2.2,fun h=>by have:=R.lt qx h;omega,fun h=>by have:=R.lt qy h;omega⟩;rw[O,Q];refine⟨⟨N.ua,N.us,ea' G (E:=fun _=>False) F (fun _ _ e=>e),(ro' M h1 hM).far hs (E:=fun _=>False) F (fun _ _ e=>e),fun j hj Y=>r.ne 1 2 j (by decide) hj Y,fun j hj=>(r.lt 1 j hj).1,fun j hj=>(r.lt 2 j hj).1,fun j hj=>?_⟩,ga,H,Nat.le_trans J D.size⟩;rcases hj with hj|rfl|rfl|hj
 ·have Z:=X j hj;have:=D.size;exact⟨by omega,Z.2⟩
 ·exact⟨U,fun h=>by have:=(r.lt 1 _ h).2;omega,fun h=>by have:=(r.lt 2 _ h).2;omega⟩
 ·exact⟨V,fun h=>by have:=(r.lt 1 _ h).2;omega,fun h=>by have:=(r.lt 2 _ h).2;omega⟩
 ·exact hj.elim
theorem kl' {r:Nat} {lv:Value} {fs:List Value} {G:List ByteArray} {H:Nat->Prop} (D:Q' r w lv fs G H) (I:cU' B p qx qy N L w y) (J:∀j,eE' lv fs j->L j) (O:qx < r/\qy < r):Q' r y lv fs G H:=
 D.keep (fun k F=>I.rest k (D.lt k F).2 (by
  rintro(⟨_,h⟩|h|h)
  ·exact h (.inr (.inr (.inr (J k F))))
  ·have:=(D.lt k F).1;omega
  ·have:=(D.lt k F).1;omega))
theorem rp' {V:Nat} {J:Option Addr} {n cap:Nat} {fs:List Value} {r:List ByteArray} {X:Nat->Prop} (H:Q' V w (.slice J n cap) fs r X) (Y:n=r.length) {i:Nat} (hi:i < n):
  ∃g,J=some ⟨g,0,none⟩/\g < w.heap.size/\n<=cap/\∃F G,w.cell? ⟨g,i,none⟩=some (.slice F (r.getD i ⟨#[]⟩).data.toList.length G)/\ab' w (.slice F (r.getD i ⟨#[]⟩).data.toList.length G) (r.getD i ⟨#[]⟩).data.toList:=by
 have hl:=H.len;obtain⟨v,Z,O⟩:=H.get i (by omega);have D:=H.row;rw[hl,<-Y]at D;obtain⟨g,c2,I⟩:=rw' D (by omega);injection I with I _ aa;subst I;subst aa;have Q:=World.ownsRow.cellAt D i (by omega);rw[Z]at Q;obtain⟨F,G,U,_⟩:=(aq' O).shape;have e:r.getD i ⟨#[]⟩=r[i]:=by rw[List.getD_eq_getElem?_getD,List.getElem?_eq_getElem (by omega)];rfl
 rw[e];refine⟨g,rfl,(World.ownsRow.lt D g rfl).2,?_,F,G,by rw[Q,U],?_⟩
 ·rcases D.2 with ⟨h,_⟩|⟨g',ab,ac,h,_,_,h2,_⟩
  ·cases h
  ·injection h with _ _ h3;omega
 ·have:=ax'.at O;rw[U]at this;exact this
theorem mj' {L':Nat->Prop} (h:cU' B p qx qy N L x y) (r:∀j,L' j->L j):cU' B p qx qy N L' x y:=
 Far.mono h (fun j _ e=>e.imp (fun e=>⟨e.1,fun h=>e.2 (h.imp id (Or.imp id (Or.imp id (r j))))⟩) id)
theorem cU'.trans {L':Nat->Prop} (h:cU' B p qx qy N L x y) (r:cU' B p qx qy N L' y z) (D:∀j,L j->L' j):cU' B p qx qy N L x z:=
 Far.trans h (mj' r D) (fun _ _ e=>e)
theorem cU'.below {n:Nat} (h:cU' B p qx qy N L x y) (r:n<=x.heap.size) (D:n<=B) (F:n<=qx/\n<=qy):Below n x y:=
 Far.below h r (fun k G e=>by rcases e with ⟨e,_⟩|e|e <;> omega)
end
theorem sM' {r B K b p up dn:Nat} (h1:1<=r) (F:r<=1000000000000) {N:bd'} {y:World} (G:Net B K p y N) (H:dw' 0 y N.va N.a N.ua) (hs:CsZ r y N.vs N.s N.us) (ga:aL' b N.a) (I:aw' N.s) (J:B<=y.heap.size):
  cy' r B b p y.heap.size (y.heap.size+1) h1 F N ((y.alloc (.cells #[.int .u64 up, .int .i64 0, .bool false] 42)).alloc (.cells #[.int .u64 dn, .int .i64 0, .bool false] 42)) ⟨N.a,N.s,⟨up,0,false⟩,⟨dn,0,false⟩⟩ (fun _=>False)/\
   Below y.heap.size y ((y.alloc (.cells #[.int .u64 up, .int .i64 0, .bool false] 42)).alloc (.cells #[.int .u64 dn, .int .i64 0, .bool false] 42)):=by
 have z:Below y.heap.size y ((y.alloc (.cells #[.int .u64 up, .int .i64 0, .bool false] 42)).alloc (.cells #[.int .u64 dn, .int .i64 0, .bool false] 42)):=((Below.refl _ _).alloc (Nat.le_refl _) _).alloc (by simp) _;have M:=heap_alloc_new y (.cells #[.int .u64 up, .int .i64 0, .bool false] 42);have D:=heap_alloc_new (y.alloc (.cells #[.int .u64 up, .int .i64 0, .bool false] 42)) (.cells #[.int .u64 dn, .int .i64 0, .bool false] 42);have O:(y.alloc (.cells #[.int .u64 up, .int .i64 0, .bool false] 42)).heap.size=y.heap.size+1:=by simp
 rw[O]at D;refine⟨sL' G H hs ga I z ⟨Nat.le_refl _,by omega,by omega⟩ ?_ D J rfl rfl,z⟩;have Q:y.heap.size < (y.alloc (.cells #[.int .u64 up, .int .i64 0, .bool false] 42)).heap.size:=by omega
 exact(hao _ _ Q).trans M
theorem gP'.tvAt {B p:Nat} {N:bd'} {w:World} (R:gP' B p N w) {s:Nat} (hs:s < 3):∃r cap,w.cell? ⟨p,4+s,none⟩=some (.slice r (N.T s).length cap)/\ha' w (.slice r (N.T s).length cap) (aV' (N.T s)):=by
 have z:=R.row s hs;obtain⟨r,cap,e,_⟩:=(aq' z).shape;refine⟨r,cap,?_,by have:=kY' z;rw[e]at this;exact this⟩;rw[<-e];obtain rfl|rfl|rfl:s=0\/s=1\/s=2:=by omega
 ·exact t' (i:=4) R.blk
 ·exact t' (i:=5) R.blk
 ·exact t' (i:=6) R.blk
def RB (r z m:Nat) (st:Ph):Prop:=st.x.lost=r/\st.y.lost=z/\st.x.sent<=m/\st.y.sent<=m
theorem RB.mono {r z m D:Nat} {st:Ph} (h:RB r z m st) (F:m<=D):RB r z D st:=⟨h.1,h.2.1,Nat.le_trans h.2.2.1 F,Nat.le_trans h.2.2.2 F⟩
theorem wk' (st:Ph) (f:List UInt8):(by' st f).x=st.x/\(by' st f).y=thr st.y:=by
 unfold by';split <;> exact⟨rfl,rfl⟩
theorem pa':∀ (r:List (List UInt8)) (st:Ph),(r.foldl by' st).x=st.x/\(r.foldl by' st).y.lost=st.y.lost/\(r.foldl by' st).y.sent=st.y.sent+r.length
 |[],st=>⟨rfl,rfl,rfl⟩
 |f::r,st=>by obtain⟨h1,h2⟩:=wk' st f;obtain⟨g1,g2,z⟩:=pa' r (by' st f);refine⟨g1.trans h1,g2.trans (by rw[h2];rfl),?_⟩;rw[List.foldl_cons,z,h2,List.length_cons];show st.y.sent+1+r.length= _;omega
theorem wl' {r z m:Nat} {st:Ph} (h:RB r z m st) (l:List UInt8):RB r z (m+1) (aX' st l):=by
 obtain⟨h1,h2,h3,h4⟩:=h;unfold aX';split
 ·exact⟨h1,h2,by show st.x.sent+1<= _;omega,by show st.y.sent<= _;omega⟩
 ·obtain⟨g1,g2,D⟩:=pa' ((am' st.s l).2.2.map (·.data.toList)) {st with x:=thr st.x,s:=(am' st.s l).2.1};have hl:=(fh' st.s l).1;refine⟨by rw[g1];exact h1,by rw[g2];exact h2,by rw[g1];show st.x.sent+1<= _;omega,?_⟩;rw[D,List.length_map];show st.y.sent+ _<= _;omega
theorem pb' {r z:Nat}:∀ (L:List (List UInt8)) {m:Nat} {st:Ph},RB r z m st->RB r z (m+L.length) (L.foldl aX' st)
 |[],m,st,h=>h
 |l::L,m,st,h=>by have:=pb' L (wl' h l);rw[List.length_cons,show m+(L.length+1)=m+1+L.length by omega];exact this
theorem wm' {r z m:Nat} {st:Ph} (h:RB r z m st) (hl:st.a.tick.2.length<=12):RB r z (m+12) (aY' st):=by
 have D:RB r z m {st with a:=st.a.tick.1}:=h;exact(pb' st.a.tick.2 D).mono (by omega)
theorem nP' {b r z m:Nat} {T:Nat->List ByteArray} {st:Ph} (D:PhI b T st) (h:RB r z m st):∀n,b+n+2<=2147483647->RB r z (m+12 * n) (cG' st n)
 |0,_=>h
 |n+1,F=>by have G:b+n+1+2<=2147483647:=F;have k1:=nP' D h n (by omega);have k2:=(gz' D n (by omega)).1;have k3:=wm' k1 (hG' k2.ag.good).1;rw[show m+12 * (n+1)=m+12 * n+12 by omega];exact k3
theorem nQ' {r z:Type} (f:z->r->z) (s:z) (L:List r) (d:r) {i:Nat} (hi:i < L.length):(L.take (i+1)).foldl f s=f ((L.take i).foldl f s) (L.getD i d):=by
 rw[List.take_add_one,List.getElem?_eq_getElem hi,List.foldl_append,List.getD_eq_getElem?_getD,List.getElem?_eq_getElem hi];rfl
theorem sN' {st:Ph} {l:List UInt8} (h:(thr st.x).before=true):aX' st l={st with x:=thr st.x}:=by
 unfold aX';rw[if_pos h]
theorem sO' {st:Ph} {l:List UInt8} (h:(thr st.x).before=false):aX' st l=((am' st.s l).2.2.map (·.data.toList)).foldl by' {st with x:=thr st.x,s:=(am' st.s l).2.1}:=by
 unfold aX';rw[if_neg (by rw[h];decide)]
theorem sP' {st:Ph} {f:List UInt8} (h:(thr st.y).before=true):by' st f={st with y:=thr st.y}:=by
 unfold by';rw[if_pos h]
theorem sQ' {st:Ph} {f:List UInt8} (h:(thr st.y).before=false):by' st f={st with y:=thr st.y,a:=(aB' st.a f).2}:=by
 unfold by';rw[if_neg (by rw[h];decide)]
end Go.Proofs.YtamafdcnbcoegabGreat
namespace Go.Proofs.YtamafdcnbcoegabGreat
open Go.ChangeShapes Go.WideShapes Go.ChangeAt Go.RowKit
def xk' (w:World) (z o:Nat):Prop:=
 ∃ (r n kp:Int) (s:ByteArray),(-9223372036854775808<=r/\r<=9223372036854775807)/\(-9223372036854775808<=n/\n<=9223372036854775807)/\s.size<=1048576/\
  ∀j,j < 4->w.cell? ⟨z,o+j,none⟩= #[.int .i64 r, .int .i64 n, .int .u64 kp, .string s][j]?
theorem pc' {r:Type} {d:DataW r}:∀ {l:List (DataW r)},d∈l->Rows.uptoBulk d<=Rows.uptoBulkAll l
 |[],h=>by cases h
 |x::z,h=>by
  rw[Rows.uptoBulkAll];rw[List.mem_cons]at h;rcases h with rfl|h
  ·omega
  ·have:=pc' h;omega
theorem wV' {r:Type} (d:DataW r):1<=Rows.uptoBulk d:=by
 cases d with
 |lit x=>cases x <;> simp[Rows.uptoBulk]
 | _=>simp[Rows.uptoBulk]
theorem tv' {r:Type}:∀ (l:List (DataW r)),l.length<=Rows.uptoBulkAll l
 |[]=>by simp
 |x::z=>by rw[Rows.uptoBulkAll,List.length_cons];have:=tv' z;have:=wV' x;omega
theorem actI:Tryz.prog.cellsOf 3=1:=by kernel_rfl
theorem actU:Tryz.prog.cellsOf 23=1:=by kernel_rfl
theorem actS:Tryz.prog.cellsOf 9=1:=by kernel_rfl
theorem tw' {n:Int} (h:(Lit.int .i64 n).wf=true): -9223372036854775808<=n/\n<=9223372036854775807:=by
 simp only[Lit.wf,Bool.and_eq_true,decide_eq_true_eq]at h;rw[show IntKind.i64.min= -9223372036854775808 from by decide,show IntKind.i64.max=9223372036854775807 from by decide]at h;exact h
theorem tx' (b off k:Nat):(⟨b,off,none⟩:Addr).add k=⟨b,off+k,none⟩:=by
 unfold Addr.add;split
 ·rename_i h;rw[h];rfl
 ·rfl
theorem rq':Tryz.prog.cellsOf 29=4:=by kernel_rfl
theorem wn' {F:Type} {enc:TypeId×Value->F} {w:World} {base:Nat} {M:Nat->Bool} {held:Bool} {O:Nat} {D:List Value} {y:DataW F×List MemPlace}
  (h:DataW.trod enc Tryz.prog w base M held O 29 D=some y) (Q:Rows.uptoBulk y.1<=1048576):
  ∃ (r n kp:Int) (s:ByteArray),D=[.int .i64 r, .int .i64 n, .int .u64 kp, .string s]/\(-9223372036854775808<=r/\r<=9223372036854775807)/\(-9223372036854775808<=n/\n<=9223372036854775807)/\s.size<=1048576:=by
 obtain⟨xs,n,_,rfl,hl,U,z⟩:=DataW.trod_struct Tryz.underlying29 h;rw[rq']at hl;match D,hl,xs,U with
 |[aa,ab,ac,ad],_,[ah,ai,aj,ak],_=>have h0:=z 0 _ rfl;have h1:=z 1 _ rfl;have h2:=z 2 _ rfl;have h3:=z 3 _ rfl;simp[actI,actS,actU]at h0 h1 h2 h3;obtain⟨r,G,_,V⟩:=DataW.trod_int Tryz.underlying3 h0;obtain⟨X,H,_,Y⟩:=DataW.trod_int Tryz.underlying3 h1;obtain⟨kp,I,_,_⟩:=DataW.trod_int Tryz.underlying23 h2;obtain⟨s,J,Z,_⟩:=DataW.trod_string Tryz.underlying9 h3;simp at G H I J;subst G H I J;subst Z;refine⟨r,X,kp,s,rfl,tw' V,tw' Y,?_⟩;simp only[Rows.uptoBulk,Rows.uptoBulkAll,List.map_cons]at Q;have:s.data.toList.length=s.size:=Array.length_toList;omega
theorem ux' {J:Type} {enc:TypeId×Value->J} {w:World} {base:Nat} {V:Nat->Bool} {held:Bool} {v:Value} {d:DataW J} {p:List MemPlace}
  (h:DataW.Trod enc Tryz.prog w base V held 22 v d p) (X:∃a len cap,v= .slice a len cap) (Y:Rows.uptoBulk d<=1048576):
  ∃M len cap,v= .slice M len cap/\len<=1048576/\(0 < len->∃z off,M=some ⟨z,off,none⟩/\z < w.heap.size/\∀i,i < len->xk' w z (off+i * 4)):=by
 obtain⟨a0,r,c0,rfl⟩:=X;obtain⟨av,O⟩:=h;have Z:(Value.slice a0 r c0).cells.toList=[.slice a0 r c0]:=rfl;rw[Z]at O;rcases Deep.open_slice Tryz.underlying22 O with ⟨e,_⟩|⟨a,len,cap,m,n,D,Pl,e,_,hl,_,aa,hd,hi⟩
 ·injection e with e;injection e with F G H;subst F G H;exact⟨none,0,0,rfl,by omega,fun h=>absurd h (by omega)⟩
 ·injection e with e;injection e with F G H;subst F G H;injection hd with hd _;subst hd;have ax:r<=m:=by rw[aa];split <;> omega
  have Q:((List.range r).map D).length<=1048576/\∀x∈ (List.range r).map D,Rows.uptoBulk x<=1048576:=by simp only[Rows.uptoBulk]at Y;have h1:=tv' ((List.range r).map D);refine⟨by omega,fun x ab=>?_⟩;have:=pc' ab;omega
  refine⟨some a,r,c0,rfl,by have:=Q.1;simpa using this,fun h0=>?_⟩;rw[rq']at hi;obtain⟨z,off,U⟩:=a;have ac:U=none/\z < w.heap.size:=by
   obtain⟨ad,h1,h2⟩:=hi 0 (by omega);obtain⟨_,ah,I⟩:=World.cells?_some h1;have:=I 0 (by omega);rw[List.getElem?_eq_getElem (by omega)]at this;simp only[Addr.add,Nat.zero_mul,if_true]at this;unfold World.cell? at this;simp only at this;split at this
   ·rename_i ai;refine⟨?_,lt_of_block ai⟩;cases U with
    |none=>rfl
    |some _=>simp at this
   ·cases this
  obtain⟨rfl,aj⟩:=ac;refine⟨z,off,rfl,aj,fun i ak=>?_⟩;obtain⟨ad,h1,h2⟩:=hi i (by omega);obtain⟨_,ah,I⟩:=World.cells?_some h1;obtain⟨ao,ap,kp,s,rfl,aq,au,z3⟩:=wn' h2 (Q.2 _ (List.mem_map.2 ⟨i,by simpa using ak,rfl⟩));refine⟨ao,ap,kp,s,aq,au,z3,fun j hj=>?_⟩;have:=I j hj;rw[tx',tx']at this;rw[this];simp
end Go.Proofs.YtamafdcnbcoegabGreat
namespace Go.Proofs.YtamafdcnbcoegabGreat
open Go.RowKit
theorem uy' (cB:Option Addr) (len cap:Nat) (up dn:Nat) (w:World) (Z:len<=1048576) (dY:up < 18446744073709551616) (dZ:dn < 18446744073709551616) (h:0 < len->∃au off,cB=some ⟨au,off,none⟩/\au < w.heap.size/\∀i,i < len->xk' w au (off+i * 4)):
  Calls Tryz.prog 3 #[.slice cB len cap, .int .u64 up, .int .u64 dn] w fun I y=>I= .returned (.bool true)/\Below w.heap.size w y:=by
 have bW:=y' h;clear h;go_enter Tryz.func3,Tryz.ntmps3;obtain⟨B,aa⟩:∃B,B=w.heap.size:=⟨_,rfl⟩;have eH:Hid (w.heap.size=B):=y' aa.symm;clear aa;go_upto_region 2 with (go_at_call 6;refine(us' _).mono ?_;rintro I y ⟨p,rfl,eI,k1,k2,k3,k4⟩;have cC:=y' (wj' k1 k2 k3);have aN:=y' k4;clear k1 k2 k3 k4);go_upto_region 5 with (go_at_call 7;refine(i' cC).mono ?_;rintro I cD ⟨v,ea,rfl,⟨rfl,k1,k2⟩,k3,k4⟩;have cE:=y' (And.intro k1 k2);have cF:=y' k3;have ab:=y' ((i' aN).trans (k4.below (i' aN).size (fun k aO h=>by omega)));clear k1 k2 k3 k4);clear cC aN;go_wp2;go_loopw[9] (fun i wr=>∃ (k:Nat) (P:Pl),k<=len/\i= .int .i64 k/\(aK' (k+1) P/\CoX P)/\cx' w.heap.size k p wr P/\Below w.heap.size w wr) (fun i _=>len - (intOf i).toNat)
 case atStart=>exact⟨0,ea,by omega,rfl,i' cE,i' cF,i' ab⟩
 case round=>
  obtain⟨k,P,aO,rfl,ah,bD,J⟩:=hrel;clear cF ab cE;by_cases bb:k < len
  ·obtain⟨au,off,rfl,bc,cG⟩:=(i' bW) (by omega);obtain⟨eb,n,kp,s,cH,bE,hs,be⟩:=cG k bb;have c0:=(J.cell (p:=⟨au,off+k * 4+0,none⟩) bc).trans (be 0 (by omega));have c1:=(J.cell (p:=⟨au,off+k * 4+1,none⟩) bc).trans (be 1 (by omega));have c2:=(J.cell (p:=⟨au,off+k * 4+2,none⟩) bc).trans (be 2 (by omega));have c3:=(J.cell (p:=⟨au,off+k * 4+3,none⟩) bc).trans (be 3 (by omega));simp at c0 c1 c2 c3;have D:=y' ah;have M:=y' J;have aP:=y' (sC' bD ah.1.good ah.1.ok (by omega) eb n kp s cH bE (by omega) (by omega));clear be cG bc ah bD J bW cH bE hs;go_upto_region 7 with (go_at_call 8;refine(i' aP).mono ?_;rintro I aQ ⟨v,cI,rfl,G,r,Q⟩;have av:=y' (And.intro ((i' D).1.act (by omega) G).2 ((i' D).2.act G));have ab:=y' ((i' M).trans (Q.below (i' M).size (fun k aO h=>by omega)));have ax:=y' r;clear G r Q);clear aP D M c0 c1 c2 c3;go_wp2;exact⟨⟨k+1,_,by omega,rfl,i' av,i' ax,i' ab⟩,by simp only[intOf];omega⟩
  ·obtain rfl:k=len:=by omega
   have D:=y' ah;have ao:=y' bD;have M:=y' J;clear ah bD J bW;go_upto_region 9 with fail;go_cut[10] from 42 to 50 (fun v wx=>v= .bool true/\∃ay,(aK' (k+2) ay/\CoX ay/\ay.da=false)/\cx' w.heap.size k p wx ay/\Below w.heap.size w wx)
   case first=>
    have cJ:wr.cell? ⟨p,13,none⟩=some (.bool P.da):=by obtain⟨N,az,rfl⟩:=i' ao;have bF:wr.cell? ⟨p,13,none⟩=some (.bool N.fa):=az.cell rfl;have bX:N.fa=N.da:=(i' D).1.fa;rw[bF,bX];rfl
    have bY:=y' (fq' (i' ao) (i' D).1.good (i' D).1.ok.may 0);cases aA:P.da
    ·rw[aA]at cJ;have ec:=y' aA;clear aA;go_wp2;go_meet;exact⟨rfl,P,⟨(i' D).1.mono (by omega) (by omega),(i' D).2,i' ec⟩,i' ao,i' M⟩
    ·rw[aA]at cJ;clear aA;go_wp2_with (go_at_call 9;refine(i' bY).mono ?_;rintro I aQ ⟨v,cI,rfl,⟨rfl,rfl⟩,r,Q⟩;have av:=y' (And.intro ((i' D).1.reopenA (by omega)) (i' D).2.reopA);have ab:=y' ((i' M).trans (Q.below (i' M).size (fun k aO h=>by omega)));have ax:=y' r;clear r Q);go_meet;exact⟨rfl,_,⟨(i' av).1,(i' av).2,rfl⟩,i' ax,i' ab⟩
   case rest=>
    obtain⟨rfl,ay,cK,cL,cM⟩:=hcut;rename_i eJ a1;refine a1 _ _ ?_;clear a1 D ao M;have D:=y' cK;have ao:=y' cL;have M:=y' cM;clear cK cL cM;go_upto_region 10 with fail;go_cut[11] from 51 to 59 (fun v wx=>v= .bool true/\∃aR,(aK' (k+3) aR/\CoX aR/\aR.da=false/\aR.ds=false)/\cx' w.heap.size (k+1) p wx aR/\Below w.heap.size w wx)
    case first=>
     have cN:wc.cell? ⟨p,14,none⟩=some (.bool ay.ds):=by obtain⟨N,az,rfl⟩:=i' ao;have bF:wc.cell? ⟨p,14,none⟩=some (.bool N.fs):=az.cell rfl;have bX:N.fs=N.ds:=(i' D).1.fs;rw[bF,bX];rfl
     have bY:=y' (gd' (i' ao) (by omega) 0);cases aB:ay.ds
     ·rw[aB]at cN;have bG:=y' aB;clear aB;go_wp2;go_meet;exact⟨rfl,ay,⟨(i' D).1.mono (by omega) (by omega),(i' D).2.1,(i' D).2.2,i' bG⟩,(i' ao).mono (Nat.le_succ _),i' M⟩
     ·rw[aB]at cN;clear aB;go_wp2_with (go_at_call 10;refine(i' bY).mono ?_;rintro I aQ ⟨v,cI,rfl,⟨rfl,rfl⟩,r,Q⟩;have av:=y' (And.intro ((i' D).1.reopenS (by omega)) (And.intro (i' D).2.1.reopS (i' D).2.2));have ab:=y' ((i' M).trans (Q.below (i' M).size (fun k aO h=>by omega)));have ax:=y' r;clear r Q);go_meet;exact⟨rfl,_,⟨(i' av).1,(i' av).2.1,(i' av).2.2,rfl⟩,i' ax,i' ab⟩
    case rest=>
     obtain⟨rfl,aR,aS,ed,cO⟩:=hcut;rename_i eK cP;refine cP _ _ ?_;clear cP D ao M;obtain⟨N,az,rfl⟩:=ed;have aA:N.da=false:=aS.2.2.1;have aB:N.ds=false:=aS.2.2.2;obtain⟨m,bZ⟩:∃m,m=N.made:=⟨_,rfl⟩;have ee:1<=m:=by rw[bZ];exact aS.2.1.made
     have ef:wc.cell? ⟨p,7,none⟩=some (.int .i64 m):=by rw[bZ];exact az.cell rfl
     have cQ:((m:Int) ==0)=false:=beq_false_of_ne (by omega);have c0:wc.cell? ⟨p,0,none⟩=some (A' N.va):=az.cell rfl;have aP:=y' (armA az aA);have D:=y' (And.intro aS.1 aS.2.1);have M:=y' cO;have bG:=y' aB;clear bZ aS cO az aA aB;unfold A' at c0 aP;go_upto_region 14 with (go_at_call 11;refine(i' aP).mono ?_;rintro I aQ ⟨rfl,G,r,Q⟩;have ab:=y' ((i' M).trans (Q.below (i' M).size (fun k aO h=>by omega)));have ap:=y' (And.intro G r);clear G r Q);have c1:aQ.cell? ⟨p,1,none⟩=some (A' N.vs):=(i' ap).1.cell rfl;have ca:=y' (armS (i' ap).1 (i' ap).2 (i' bG));clear aP M c0 ef cQ ee;unfold A' at c1 ca;go_upto_region 15 with (go_at_call 12;refine(i' ca).mono ?_;rintro I eg ⟨rfl,G,r,cR,Q⟩;have bf:=y' ((i' ab).trans (Q.below (i' ab).size (fun k aO h=>by omega)));have bg:=y' (And.intro G (And.intro r cR));clear G r Q cR);clear ca ap ab c1;go_upto_region 17 with fail;obtain⟨H,cb⟩:∃H,H=eg.heap.size:=⟨_,rfl⟩;obtain⟨ad,cS⟩:∃ad,ad=1000 * (k+1+1):=⟨_,rfl⟩;have aC:1<=ad:=by omega
     have aD:ad<=1000000000000:=by omega
     obtain⟨b,J⟩:∃b,b=k+3:=⟨_,rfl⟩;rw[<-J]at D;rw[<-cS]at bg;have aq:=y' (And.intro (Nat.le_trans (i' bf).size (Nat.le_of_eq cb.symm)) (show b<=1048579 by omega));obtain⟨g1,g2⟩:=sM' (up:=up) (dn:=dn) aC aD (i' bg).1 (i' bg).2.1 (i' bg).2.2 (i' D).1.ag.good (i' D).1.sk.good (i' bf).size;rw[<-cb]at g1 ⊢;refine H' (fun x=>cy' ad w.heap.size b p H (H+1) aC aD N x ⟨N.a,N.s,⟨up,0,false⟩,⟨dn,0,false⟩⟩ (fun _=>False)/\Below w.heap.size w x) ⟨g1,(i' bf).trans (g2.mono (i' bf).size)⟩ ?_;clear g1 g2 bg bf cb cS J bG;rintro eL ⟨bh,M⟩;have cc:PhI b N.T ⟨N.a,N.s,⟨up,0,false⟩,⟨dn,0,false⟩⟩:=⟨(i' D).1.ag,(i' D).1.sk,(i' D).2.more,(i' D).2.snt,(i' D).1.tot⟩;have cd:RB up dn 0 ⟨N.a,N.s,⟨up,0,false⟩,⟨dn,0,false⟩⟩:=⟨rfl,rfl,Nat.le_refl _,Nat.le_refl _⟩;obtain⟨aT,cT⟩:∃aT:Ph,aT=⟨N.a,N.s,⟨up,0,false⟩,⟨dn,0,false⟩⟩:=⟨_,rfl⟩;rw[<-cT]at bh cc cd;have aU:=y' (And.intro cc cd);have cU:=y' bh;have cV:=y' M;clear cT cc cd bh M;go_wp2;go_loopw[14,15,16,17,18,19,20] (fun i _ _ _ _ _ _ wr=>∃n:Nat,n<=1000/\i= .int .i64 n/\cy' ad w.heap.size (b+n) p H (H+1) aC aD N wr (cG' aT n) (fun _=>False)/\Below w.heap.size w wr) (fun i _ _ _ _ _ _ _=>1000 - (intOf i).toNat)
     case atStart=>exact⟨0,by omega,rfl,i' cU,i' cV⟩
     case round=>
      obtain⟨n,bE,rfl,U,aa⟩:=hrel;clear cU cV;by_cases ce:n < 1000
      ·obtain⟨st,cf⟩:∃st,st=cG' aT n:=⟨_,rfl⟩;have cW:cG' aT (n+1)=aY' st:=by rw[cf];rfl
       have ah:=(gz' (i' aU).1 n (by have:=(i' aq).2;omega)).1;have bi:=nP' (i' aU).1 (i' aU).2 n (by have:=(i' aq).2;omega);rw[<-cf]at U ah bi;rw[Nat.zero_add]at bi;have cX:=y' cW;have eh:=y' bi;have c0:wr.cell? ⟨p,0,none⟩=some (A' N.va):=t' (i:=0) U.rest.blk;have bH:=y' (U.tick (by have:=(i' aq).2;omega));obtain⟨F,bI⟩:∃F,F=st.a.tick.2:=⟨_,rfl⟩;have eM:F.length<=12:=by rw[bI];exact(hG' ah.ag.good).1
       have cY:aY' st=F.foldl aX' {st with a:=st.a.tick.1}:=by rw[bI];rfl
       obtain⟨aE,bJ⟩:∃aE:Ph,aE={st with a:=st.a.tick.1}:=⟨_,rfl⟩;have cZ:RB up dn (12 * n) aE:=by rw[bJ];exact bi
       rw[<-bI,<-bJ]at bH;rw[cY,<-bJ]at cX;have ei:=y' cZ;have aN:=y' aa;have ej:=y' (show H < wr.heap.size/\H+1 < wr.heap.size from⟨lt_of_block U.rx,lt_of_block U.ry⟩);clear cf cW ah bi bI cY bJ cZ U aa eh;unfold A' at c0 bH;go_upto_region 21 with (go_at_call 13;refine(i' bH).mono ?_;rintro I ek ⟨lv,fs,rfl,G,r,Q⟩;obtain⟨ac,O,e,cg⟩:=(aq' G.row).shape;clear cg;rw[G.len,List.length_map]at e;subst e;have el:=y' G;have db:=y' (r.less (L':=eE' (.slice ac F.length O) fs) (fun j h=> .inr h));have dc:=y' ((i' aN).trans (Q.below (i' aN).size (Nat.le_refl _) ⟨(i' aq).1,Nat.le_succ_of_le (i' aq).1⟩));clear G r Q);clear bH c0;go_wp2;go_loopw[16,17,18,19,20] (fun i _ _ _ _ wr2=>∃j:Nat,j<=F.length/\i= .int .i64 j/\cy' ad w.heap.size (b+n+1) p H (H+1) aC aD N wr2 ((F.take j).foldl aX' aE) (eE' (.slice ac F.length O) fs)/\cU' w.heap.size p H (H+1) N (eE' (.slice ac F.length O) fs) ek wr2) (fun i _ _ _ _ _=>F.length - (intOf i).toNat)
       case atStart=>exact⟨0,by omega,rfl,i' db,Far.refl _ _⟩
       case round=>
        obtain⟨j,hj,rfl,aV,bK⟩:=hrel;clear db;have ch:=(i' dc).trans (bK.below (i' dc).size (Nat.le_refl _) ⟨(i' aq).1,Nat.le_succ_of_le (i' aq).1⟩);by_cases bj:j < F.length
        ·obtain⟨z,ci⟩:∃z,z=(F.take j).foldl aX' aE:=⟨_,rfl⟩;have aH:=nQ' aX' aE F [] bj;have ai:RB up dn (12 * n+F.length) z:=by rw[ci];exact(pb' (F.take j) (i' ei)).mono (by rw[List.length_take];omega)
         rw[<-ci]at aV aH;have cj:=y' (aV.thrX (by rw[ai.1];exact dY) (by have:=ai.2.2.1;omega));have bk:=y' ai;have bl:=y' aH;have dd:=y' bK;have bL:=y' bj;obtain⟨bx,ck⟩:∃bx,bx=(thr z.x).before:=⟨_,rfl⟩;rw[<-ck]at cj;have bM:=y' ck;have eN:(j:Int) < (F.length:Int):=by omega
         clear ci ai aH aV bK ck ch;go_upto_region 25 with (go_at_call 14;refine(i' cj).mono ?_;rintro I aW ⟨rfl,G,r⟩;have aI:=y' G;have bm:=y' ((i' dd).trans r (fun _ h=>h));clear G r);clear cj dd;cases bx
         ·have de:=kl' (i' el) (i' bm) (fun _ h=>h) (i' ej);obtain⟨g,rfl,df,eO,dg,dh,bn,bN⟩:=rp' de (List.length_map _).symm bj;have di:((F.map fun l=>(⟨l.toArray⟩:ByteArray)).getD j ⟨#[]⟩).data.toList=F.getD j []:=by rw[List.getD_eq_getElem?_getD,List.getElem?_map,List.getD_eq_getElem?_getD,List.getElem?_eq_getElem bj];simp
          rw[di]at bn bN;obtain⟨l,hl⟩:∃l,l=F.getD j []:=⟨_,rfl⟩;rw[<-hl]at bn bN bl;have aJ:Hid (∀Z,Below aW.heap.size aW Z->Calls Tryz.prog 15 #[.pointer (some ⟨N.vs,0,none⟩), .slice dg l.length dh] Z fun I y=>∃lv aK,I= .returned (.tuple #[lv, .int .i64 (am' z.s l).1])/\Q' Z.heap.size y lv aK (am' z.s l).2.2 (fun _=>False)/\cy' ad w.heap.size (b+n+1) p H (H+1) aC aD N y {a:=z.a,s:=(am' z.s l).2.1,x:=thr z.x,y:=z.y} (fun j=>eE' (.slice (some ⟨g,0,none⟩) F.length O) fs j\/eE' lv aK j)/\cU' w.heap.size p H (H+1) N (eE' (.slice (some ⟨g,0,none⟩) F.length O) fs) Z y):=y' (fun Z bo=>((i' aI).below bo).take _ l (bN.below bo));have c1:aW.cell? ⟨p,1,none⟩=some (.pointer (some ⟨N.vs,0,none⟩)):=t' (i:=1) (i' aI).rest.blk;have aL:=lt_of_block (i' aI).rest.blk;have cl:=y' (show H < aW.heap.size/\H+1 < aW.heap.size from⟨lt_of_block (i' aI).rx,lt_of_block (i' aI).ry⟩);have aX:Hid ((F.take (j+1)).foldl aX' aE=((am' z.s l).2.2.map (·.data.toList)).foldl by' {a:=z.a,s:=(am' z.s l).2.1,x:=thr z.x,y:=z.y}):=y' (by rw[i' bl,sO' (i' bM).symm]);have em:(am' z.s l).2.2.length<=1:=(fh' z.s l).1;have bO:Hid (RB up dn (12 * n+F.length+1) {a:=z.a,s:=(am' z.s l).2.1,x:=thr z.x,y:=z.y}):=y' ⟨(i' bk).1,(i' bk).2.1,by have:=(i' bk).2.2.1;show z.x.sent+1<= _;omega,by have:=(i' bk).2.2.2;show z.y.sent<= _;omega⟩;obtain⟨cm,dj⟩:∃cm,cm=l.length:=⟨_,rfl⟩;rw[<-dj]at bn aJ;generalize (am' z.s l).2.2=X at aJ aX em;generalize (am' z.s l).1=eP at aJ;generalize (am' z.s l).2.1=en at aJ aX bO;obtain⟨aF,dl⟩:∃aF:Ph,aF={a:=z.a,s:=en,x:=thr z.x,y:=z.y}:=⟨_,rfl⟩;rw[<-dl]at aJ aX bO;clear de bN di hl dj dl bl bM bk aI;go_upto_region 26 with fail;refine dh' (by kernel_rfl)
           [fun v _=>v= .pointer (some ⟨p,0,none⟩),fun v _=>v= .pointer (some ⟨p,0,none⟩),fun v _=>v= .pointer (some ⟨p,1,none⟩),fun v _=>v= .pointer (some ⟨N.vs,0,none⟩),fun v _=>v= .slice (some ⟨g,0,none⟩) F.length O,fun v _=>v= .int .i64 j,fun v _=>v= .pointer (some ⟨g,j,none⟩),fun v _=>v= .slice dg cm dh,fun _ _=>True,fun _ _=>True,fun _ _=>True,fun _ _=>True,fun _ _=>True,fun _ _=>True]
           [[(7,none)],[(113,some 0)],[(114,some 1)],[(115,some 2)],[(15,none)],[(16,none)],[(117,some 4),(118,some 5)],[(119,some 6)],[(116,some 3),(120,some 7)],[(121,some 8)],[(112,some 9)],[(112,some 9)],[(122,some 10)],[(123,some 11)]] [some 113,some 114,some 115,some 116,some 117,some 118,some 119,some 120,some 121,some 112,some 122,some 123,some 18,some 19] [false,false,false,false,false,false,false,false,false,false,false,false,false,false,false,false,false,false,true,true,false,false,false,false,false,false,false,false,false,false,false,false,false,false,false,false,false,false,false,false,false,false,false,false,false,false,false,false,false,false,false,false,false,false,false,false,false,false,false,false,false,false,false,false,false,false,false,false,false,false,false,false,false,false,false,false,false,false,false,false,false,false,false,false,false,false,false,false,false,false,false,false,false,false,false,false,false,false,false,false,false,false,false,false,false,false,false,false,false,false,false,false,true,true,true,true,true,true,true,true,true,true,true,true,false,false,false,false,false,false,false,false,false,false,false,false,false,false,false,false,false,false,false,false,false,false,false,false,false,false,false,false,false,false,false,false,false,false,false,false,false,false,false,false,false,false,false,false,false,false,false,false,false,false,false,false,false,false,false,false]
           8 _ rfl (Nat.le_of_ble_eq_true (n:=9) (by kernel_rfl)) (by kernel_rfl) (by kernel_rfl) (by kernel_rfl) (by kernel_rfl) (by kernel_rfl) (by kernel_rfl) ?_ ?_ ?_ ?_
          ·repeat' (first|exact O' _|exact X'|exact trivial|apply And.intro)
          ·refine⟨?_,?_,?_,?_,?_,?_,?_,?_,trivial⟩;all_goals
            intro eo z9 J bp;have cD:=(J.cell (p:=⟨p,1,none⟩) aL).trans c1;have aQ:=(J.cell (p:=⟨g,j,none⟩) df).trans bn;clear J;simp only[M',List.getD_cons_zero,List.getD_cons_succ,Array.getD_eq_getD_getElem?]at bp;try simp at bp
            try go_simp
            try exact Below.refl _ _
           all_goals first
            |exact⟨rfl,Below.refl _ _⟩
            |skip
          ·intro f Z aj;rfl
          ·intro f Z J aj;simp only[af',List.take]at aj;have bq:=aj.2.2.2.1;have br:=aj.2.2.2.2.2.2.2.1;have ap:=y' J;clear aj J;simp only[Y',bq,br];go_simp;refine((i' aJ) Z (i' ap)).mono ?_;rintro I bt ⟨lv,aK,rfl,G,r,Q⟩;obtain⟨dm,bu,e,cg⟩:=(aq' G.row).shape;clear cg;rw[G.len]at e;subst e;have eq:=y' G;have dq:=y' r;have er:=y' (Far.trans ((i' bm).behind ((i' ap).mono (i' bm).size)) Q (fun _ _ h=>h));have es:=y' (show H < Z.heap.size/\H+1 < Z.heap.size from⟨Nat.lt_of_lt_of_le (i' cl).1 (i' ap).size,Nat.lt_of_lt_of_le (i' cl).2 (i' ap).size⟩);clear G r Q aJ bm cl;intro dr eQ;obtain⟨dt,rfl⟩:∃dt,dr=dt+5:=⟨dr - 5,by omega⟩;apply xT'
           ·intro cn;refine bE' (i:=9) (by kernel_rfl) rfl rfl ?_;go_simp;refine nj' (i:=10) (j:=11) (by kernel_rfl) rfl rfl rfl rfl ?_ ?_
            ·go_simp;refine nj' (i:=11) (j:=12) (by kernel_rfl) rfl rfl rfl rfl ?_ ?_
             ·go_simp;refine bE' (i:=12) (by kernel_rfl) rfl rfl ?_;go_simp;refine bE' (i:=13) (by kernel_rfl) rfl rfl ?_;go_simp;refine dJ' (by kernel_rfl) ?_;exact cn
             ·go_simp;refine bE' (i:=11) (by kernel_rfl) rfl rfl ?_;go_simp;refine bE' (i:=13) (by kernel_rfl) rfl rfl ?_;go_simp;refine dJ' (by kernel_rfl) ?_;exact cn
            ·go_simp;refine bE' (i:=10) (by kernel_rfl) rfl rfl ?_;go_simp;refine bE' (i:=12) (by kernel_rfl) rfl rfl ?_;go_simp;refine bE' (i:=13) (by kernel_rfl) rfl rfl ?_;go_simp;refine dJ' (by kernel_rfl) ?_;exact cn
           ·clear bq br bn c1 aL df;generalize f 113=eR;generalize f 114=eS;generalize f 115=eT;generalize f 117=eU;generalize f 118=eV;generalize f 119=eW;go_upto_region 27 with fail;go_wp2;go_loopw[17,20] (fun _ i2 wr3=>∃V:Nat,V<=X.length/\i2= .int .i64 V/\cy' ad w.heap.size (b+n+1) p H (H+1) aC aD N wr3 (((X.map (·.data.toList)).take V).foldl by' aF) (fun q=>eE' (.slice (some ⟨g,0,none⟩) F.length O) fs q\/eE' (.slice dm X.length bu) aK q)/\cU' w.heap.size p H (H+1) N (fun q=>eE' (.slice (some ⟨g,0,none⟩) F.length O) fs q\/eE' (.slice dm X.length bu) aK q) bt wr3) (fun _ i2 _=>X.length - (intOf i2).toNat)
            case atStart=>exact⟨0,by omega,rfl,i' dq,Far.refl _ _⟩
            case round=>
             obtain⟨V,et,rfl,aY,bP⟩:=hrel;clear dq;by_cases bw:V < X.length
             ·obtain⟨Y,du⟩:∃Y,Y=((X.map (·.data.toList)).take V).foldl by' aF:=⟨_,rfl⟩;have aH:=nQ' by' aF (X.map (·.data.toList)) [] (i:=V) (by rw[List.length_map];exact bw);have ai:=pa' ((X.map (·.data.toList)).take V) aF;rw[List.length_take,List.length_map]at ai;rw[<-du]at aY aH ai;have co:=y' (aY.thrY (by rw[ai.2.1,(i' bO).2.1];exact dZ) (by rw[ai.2.2];have:=(i' bO).2.2.2;omega));obtain⟨cp,cq⟩:∃cp,cp=(thr Y.y).before:=⟨_,rfl⟩;rw[<-cq]at co;have bQ:=y' cq;have aZ:=y' aH;have bR:=y' bP;have bS:=y' bw;have eX:(V:Int) < (X.length:Int):=by omega
              clear du aH ai aY bP cq;go_upto_region 31 with (go_at_call 14;refine(i' co).mono ?_;rintro I cr ⟨rfl,G,r⟩;have bz:=y' G;have bA:=y' (Far.trans (i' bR) r (fun _ _ h=>h));clear G r);clear co bR;cases cp
              ·have dv:=kl' (i' eq) (i' bA) (fun _ h=> .inr h) (i' es);obtain⟨g2,eu,dw,eY,dx,dy,bT,cs⟩:=rp' dv rfl bw;subst eu;have dz:(X.map (·.data.toList)).getD V []=(X.getD V ⟨#[]⟩).data.toList:=by rw[List.getD_eq_getElem?_getD,List.getElem?_map,List.getD_eq_getElem?_getD,List.getElem?_eq_getElem bw];rfl
               rw[dz]at aZ;obtain⟨ak,dA⟩:∃ak,ak=(X.getD V ⟨#[]⟩).data.toList:=⟨_,rfl⟩;rw[<-dA]at bT cs aZ;have bB:Hid (∀Z,Below cr.heap.size cr Z->Calls Tryz.prog 16 #[.pointer (some ⟨N.va,0,none⟩), .slice dx ak.length dy] Z fun I y=>I= .returned (.int .i64 (aB' Y.a ak).1)/\cy' ad w.heap.size (b+n+1) p H (H+1) aC aD N y {a:=(aB' Y.a ak).2,s:=Y.s,x:=Y.x,y:=thr Y.y} (fun q=>eE' (.slice (some ⟨g,0,none⟩) F.length O) fs q\/eE' (.slice (some ⟨g2,0,none⟩) X.length bu) aK q)/\cU' w.heap.size p H (H+1) N (fun q=>eE' (.slice (some ⟨g,0,none⟩) F.length O) fs q\/eE' (.slice (some ⟨g2,0,none⟩) X.length bu) aK q) Z y):=y' (fun Z bo=>((i' bz).below bo).hear (by have:=(i' aq).2;omega) _ ak (cs.below bo));have bU:Hid (((X.map (·.data.toList)).take (V+1)).foldl by' aF={a:=(aB' Y.a ak).2,s:=Y.s,x:=Y.x,y:=thr Y.y}):=y' (by rw[i' aZ,sQ' (i' bQ).symm]);have dB:cr.cell? ⟨p,0,none⟩=some (.pointer (some ⟨N.va,0,none⟩)):=t' (i:=0) (i' bz).rest.blk;have dC:=lt_of_block (i' bz).rest.blk;obtain⟨cu,dD⟩:∃cu,cu=ak.length:=⟨_,rfl⟩;rw[<-dD]at bT bB;generalize (aB' Y.a ak).1=eZ at bB;generalize (aB' Y.a ak).2=a9 at bB bU;clear dv cs dz dA dD aZ bQ bz;go_upto_region 32 with fail;refine ag' (by kernel_rfl)
                [fun v _=>v= .pointer (some ⟨p,0,none⟩),fun v _=>v= .pointer (some ⟨p,0,none⟩),fun v _=>v= .pointer (some ⟨p,0,none⟩),fun v _=>v= .pointer (some ⟨N.va,0,none⟩),fun v _=>v= .slice (some ⟨g2,0,none⟩) X.length bu,fun v _=>v= .int .i64 V,fun v _=>v= .pointer (some ⟨g2,V,none⟩),fun v _=>v= .slice dx cu dy,fun _ _=>True]
                [[(7,none)],[(133,some 0)],[(134,some 1)],[(135,some 2)],[(18,none)],[(20,none)],[(137,some 4),(138,some 5)],[(139,some 6)],[(136,some 3),(140,some 7)]] [some 133,some 134,some 135,some 136,some 137,some 138,some 139,some 140,some 141] [false,false,false,false,false,false,false,false,false,false,false,false,false,false,false,false,false,false,false,false,false,false,false,false,false,false,false,false,false,false,false,false,false,false,false,false,false,false,false,false,false,false,false,false,false,false,false,false,false,false,false,false,false,false,false,false,false,false,false,false,false,false,false,false,false,false,false,false,false,false,false,false,false,false,false,false,false,false,false,false,false,false,false,false,false,false,false,false,false,false,false,false,false,false,false,false,false,false,false,false,false,false,false,false,false,false,false,false,false,false,false,false,false,false,false,false,false,false,false,false,false,false,false,false,false,false,false,false,false,false,false,false,false,true,true,true,true,true,true,true,true,true,false,false,false,false,false,false,false,false,false,false,false,false,false,false,false,false,false,false,false,false,false,false,false,false,false,false,false,false,false,false,false,false,false,false,false,false,false,false]
                8 _ rfl rfl (by kernel_rfl) (by kernel_rfl) (by kernel_rfl) (by kernel_rfl) (by kernel_rfl) (by kernel_rfl) ?_ ?_ ?_
               ·repeat' (first|exact O' _|exact X'|exact trivial|apply And.intro)
               ·refine⟨?_,?_,?_,?_,?_,?_,?_,?_,trivial⟩;all_goals
                 intro eo z9 J bp;have cD:=(J.cell (p:=⟨p,0,none⟩) dC).trans dB;have aQ:=(J.cell (p:=⟨g2,V,none⟩) dw).trans bT;clear J;simp only[M',List.getD_cons_zero,List.getD_cons_succ,Array.getD_eq_getD_getElem?]at bp;try simp at bp
                 try go_simp
                 try exact Below.refl _ _
                all_goals first
                 |exact⟨rfl,Below.refl _ _⟩
                 |skip
               ·intro ba z9 J aj;simp only[af',List.take]at aj;have bq:=aj.2.2.2.1;have br:=aj.2.2.2.2.2.2.2.1;have dE:=y' J;clear aj J;simp only[Y',bq,br];go_simp;refine((i' bB) z9 (i' dE)).mono ?_;rintro I fb ⟨rfl,G,r⟩;have ev:=y' G;have ew:=y' (Far.trans ((i' bA).behind ((i' dE).mono (i' bA).size)) r (fun _ _ h=>h));clear G r bB bA bT dB dC dw bq br;generalize ba 133=fc;generalize ba 134=fd;generalize ba 135=fe;generalize ba 137=ff;generalize ba 138=fg;generalize ba 139=fh;go_wp2;go_roundw
                case rel=>exact⟨V+1,by have:=i' bS;omega,by go_num,by rw[i' bU];exact i' ev,i' ew⟩
                case measure=>have:=i' bS;simp[intOf];omega
              ·have bU:Hid (((X.map (·.data.toList)).take (V+1)).foldl by' aF={a:=Y.a,s:=Y.s,x:=Y.x,y:=thr Y.y}):=y' (by rw[i' aZ,sP' (i' bQ).symm]);clear aZ bQ;go_wp2;go_roundw
               case rel=>exact⟨V+1,by have:=i' bS;omega,by go_num,by rw[i' bU];exact i' bz,i' bA⟩
               case measure=>have:=i' bS;simp[intOf];omega
             ·obtain rfl:V=X.length:=by omega
              rw[List.take_of_length_le (by rw[List.length_map];exact Nat.le_refl _),<-i' aX]at aY;have ey:=y' (aY.less (L':=eE' (.slice (some ⟨g,0,none⟩) F.length O) fs) (fun _ h=> .inl h));have bR:=y' (Far.trans (i' er) (mj' bP (L':=eE' (.slice (some ⟨g,0,none⟩) F.length O) fs) (fun _ h=> .inl h)) (fun _ _ h=>h));clear aY bP et bw;go_wp2;go_roundw
              case rel=>exact⟨j+1,by have:=i' bL;omega,by go_num,i' ey,i' bR⟩
              case measure=>have:=i' bL;simp[intOf];omega
         ·have aX:Hid ((F.take (j+1)).foldl aX' aE={a:=z.a,s:=z.s,x:=thr z.x,y:=z.y}):=y' (by rw[i' bl,sN' (i' bM).symm]);clear bl bM;go_wp2;go_roundw
          case rel=>exact⟨j+1,by have:=i' bL;omega,by go_num,by rw[i' aX];exact i' aI,i' bm⟩
          case measure=>have:=i' bL;simp[intOf];omega
        ·obtain rfl:j=F.length:=by omega
         rw[List.take_length,<-i' cX]at aV;have ez:=y' (aV.less (L':=fun _=>False) (fun _ h=>h.elim));have eA:=y' ch;have ax:=y' ce;clear aV bK ch hj bj ce;go_wp2;go_roundw
         case rel=>exact⟨n+1,by have:=i' ax;omega,by go_num,i' ez,i' eA⟩
         case measure=>have:=i' ax;simp[intOf];omega
      ·obtain rfl:n=1000:=by omega
       have cv:=wh' (i' aU).1 (by have:=(i' aq).2;omega);have dF:0 < (N.T 0).length:=(i' D).2.some;have dG:∀t,t < 3->(N.T t).length<=100:=fun t dH=>by
        have bF:=(i' aU).1.tot;obtain rfl|rfl|rfl:t=0\/t=1\/t=2:=by omega
        all_goals omega
       generalize cG' aT 1000=cw at U cv;have eB:=y' cv;have dI:=y' dF;have eC:=y' dG;have dJ:=y' U;have dK:=y' aa;clear cv dF dG U aa ce bE aU D;go_wp2;go_loopw[6,21,22,23,24] (fun _ i _ _ _ wr=>∃t:Nat,t<=3/\i= .int .i64 t/\cy' ad w.heap.size (b+1000) p H (H+1) aC aD N wr cw (fun _=>False)/\Below w.heap.size w wr) (fun _ i _ _ _ _=>3 - (intOf i).toNat)
       case atStart=>exact⟨0,by omega,rfl,i' dJ,i' dK⟩
       case round=>
        obtain⟨t,dH,rfl,U,aa⟩:=hrel;clear dJ dK;by_cases bC:t < 3
        ·obtain⟨dL,dM⟩:=(i' eB) t bC;have dN:hE' cw.s (t:Int)=N.T t:=by rw[<-dL];unfold hE';simp;omega
         have dO:aG' cw.a (t:Int)=[]:=by unfold aG';simp[dM]
         have cx:Hid (Calls Tryz.prog 17 #[.pointer (some ⟨N.vs,0,none⟩), .int .i64 t] wr fun I y=>∃ac O,I= .returned (.slice ac (N.T t).length O)/\ha' y (.slice ac (N.T t).length O) (aV' (N.T t))/\Below wr.heap.size wr y):=y' (by refine(U.ends.log t).mono ?_;rintro I y ⟨lv,rfl,k1,_,k2⟩;rw[dN]at k1;obtain⟨ac,O,e,_⟩:=(aq' k1).shape;exact⟨ac,O,by rw[e],by have:=kY' k1;rw[e]at this;exact this,k2⟩);have dP:Hid (∀x,Below wr.heap.size wr x->Calls Tryz.prog 18 #[.pointer (some ⟨N.va,0,none⟩), .int .i64 t] x fun I y=>∃dQ dR,I= .returned (.slice dQ 0 dR)/\Below x.heap.size x y):=y' (fun x eD=>by refine((U.below eD).ends.spool t).mono ?_;rintro I y ⟨lv,rfl,k1,_,k2⟩;rw[dO]at k1;obtain⟨ac,O,e,_⟩:=(aq' k1).shape;exact⟨ac,O,by rw[e];rfl,k2⟩);obtain⟨cy,cz,ct,bb⟩:=U.rest.tvAt bC;obtain⟨mt,aG⟩:∃mt,mt=(N.T t).length:=⟨_,rfl⟩;rw[<-aG]at cx ct bb;have eE:=y' aG;have fi:mt<=100:=by rw[aG];exact(i' eC) t bC
         have c0:wr.cell? ⟨p,0,none⟩=some (.pointer (some ⟨N.va,0,none⟩)):=t' (i:=0) U.rest.blk;have c1:wr.cell? ⟨p,1,none⟩=some (.pointer (some ⟨N.vs,0,none⟩)):=t' (i:=1) U.rest.blk;have aL:=lt_of_block U.rest.blk;have dS:=y' bb;have bh:=y' U;have M:=y' aa;have dT:=y' bC;have fj:(t:Int) < 3:=by omega
         have fk:¬ (t:Int) < 0:=by omega
         clear dL dM dN dO aG bb U aa dH bC;go_upto_region 37 with (go_at_call 17;refine(i' cx).mono ?_;rintro I aW ⟨ac,O,rfl,G,r⟩;have dU:=y' G;have aM:=y' r;clear G r);replace c0:=((i' aM).cell (p:=⟨p,0,none⟩) aL).trans c0;replace ct:=((i' aM).cell (p:=⟨p,4+t,none⟩) aL).trans ct;have dV:=Nat.lt_of_lt_of_le aL (i' aM).size;clear cx c1 aL;go_upto_region 38 with (go_at_call 18;refine((i' dP) _ (i' aM)).mono ?_;rintro I bt ⟨dQ,dR,rfl,r⟩;have bV:=y' r;clear r);replace ct:=((i' bV).cell (p:=⟨p,4+t,none⟩) dV).trans ct;have cA:=y' ((i' aM).trans ((i' bV).mono (i' aM).size));have dW:Hid (Calls Tryz.prog 19 #[.slice ac mt O, .slice cy mt cz] bt fun I y=>I= .returned (.bool true)/\∃q,y=bt.drewN q):=y' (by refine(oT' bt _ _ (N.T t) (N.T t) (iK' (i' dU) (i' bV)) (iK' (i' dS) (i' cA)) (by have:=i' eE;omega)).mono ?_;rintro I y ⟨rfl,k⟩;exact⟨by simp,k⟩);clear dP dU aM bV dS c0 dV;go_upto_region 39 with (go_at_call 19;refine(i' dW).mono ?_;rintro I fm ⟨rfl,eF,rfl⟩);have dX:=y' (below_drewN (i' cA) eF);clear dW cA ct;go_wp2;go_roundw
         case rel=>
          iterate 36 (apply Exists.intro)
          refine⟨?rr,rfl⟩;exact⟨t+1,by have:=i' dT;omega,by go_num,(i' bh).below (i' dX),(i' M).trans ((i' dX).mono (i' M).size)⟩
         case measure=>have:=i' dT;simp[intOf];omega
        ·obtain⟨cy,cz,ct,_⟩:=U.rest.tvAt (s:=0) (by omega);have ct:wr.cell? ⟨p,4,none⟩=some (.slice cy (N.T 0).length cz):=ct;obtain⟨mt,aG⟩:∃mt,mt=(N.T 0).length:=⟨_,rfl⟩;rw[<-aG]at ct;have cQ:decide ((0:Int) < (mt:Int))=true:=by rw[aG];have:=i' dI;exact decide_eq_true (by omega)
         have M:=y' aa;clear aG U aa;go_wp2;go_ret;have eG:decide (0 < (N.T 0).length)=true:=decide_eq_true (i' dI);refine⟨?_,i' M⟩;show Ending.returned (.bool (decide (0 < (N.T 0).length)))= _;rw[eG]
end Go.Proofs.YtamafdcnbcoegabGreat
namespace Go.Proofs.YtamafdcnbcoegabGreat
open Go.ChangeShapes Go.WideShapes Go.ChangeAt Go.RowKit
theorem wo':ownKnob Tryz.prog.godebug=none:=by kernel_rfl
theorem jG':laidOutB Tryz.prog=true:=by kernel_rfl
theorem wW' {n:Int} (h:(Lit.int .u64 n).wf=true):0<=n/\n<=18446744073709551615:=by
 simp only[Lit.wf,Bool.and_eq_true,decide_eq_true_eq]at h;rw[show IntKind.u64.min=0 from by decide,show IntKind.u64.max=18446744073709551615 from by decide]at h;exact h
theorem nR' {r:Type} {enc:TypeId×Value->r} {w:World} {base:Nat} {D:Nat->Bool} {held:Bool} {v:Value} {d:DataW r} {p:List MemPlace}
  (h:DataW.Trod enc Tryz.prog w base D held 23 v d p) (F:∃n,v= .int .u64 n):∃n:Nat,v= .int .u64 n/\n < 18446744073709551616:=by
 obtain⟨n,rfl⟩:=F;obtain⟨I,z⟩:=h;have G:(Value.int .u64 n).cells.toList=[.int .u64 n]:=rfl;rw[G]at z;obtain⟨c,e,_,H⟩:=DataW.trod_int Tryz.underlying23 z;simp at e;subst e;have:=wW' H;exact⟨n.toNat,by rw[Int.toNat_of_nonneg this.1],by omega⟩
theorem pd' (os:Os) (Q:os.Started) (U:Type) (enc:TypeId×Value->U) (V:Stop.Interp):
  ReturnsInHanded {} Tryz.checked os 3 .any ((Rows.OpenSpec.upto Rows.comesSpec).pre6 enc Tryz.prog Tryz.f3 Rows.comesUptoRow.domain false) (((Rows.OpenSpec.upto Rows.comesSpec).at V).post enc Tryz.prog Tryz.f3 false true false false):=by
 refine returnsInHanded_of_cond (C:=Tryz.checked) (k:=Rows.uptoSmall) rfl wo' Q (by kernel_rfl) Tryz.func3
  (OpenSpec.witness (enc:=enc) (C:=Tryz.checked) (x:=([.nil, .lit (.int .u64 0), .lit (.int .u64 0)],[],[])) rfl false ⟨#[],#[.slice none 0 0, .int .u64 0, .int .u64 0],[]⟩ 8 (by kernel_rfl) (by kernel_rfl) (by kernel_rfl) (by kernel_rfl) (by kernel_rfl) (by kernel_rfl)) ?_
 intro W base args ds az before F G aA X aB;have z:∀ (j:Nat) t v,Tryz.f3.params[j]? =some t->args[j]? =some v->Value.okWide Tryz.prog W .any base t v:=F;have Y:=G;obtain⟨p,q,hA0,Z,rfl,aC,aD⟩:=G;have H:DataW.TrodAll enc Tryz.prog W 0 (fun _=>true) true Tryz.f3.params.toList args.toList ds p:=hA0;rw[Tryz.params3]at H z;obtain⟨v0,aE,D,aF,aa,aG,aH,rfl,rfl,h0,r0⟩:=trodAll_cons H;obtain⟨I,aI,J,aJ,ab,aK,rfl,rfl,rfl,h1,ac⟩:=trodAll_cons r0;obtain⟨M,aL,O,aM,ad,aN,rfl,rfl,rfl,h2,ah⟩:=trodAll_cons ac;obtain⟨rfl,rfl,rfl⟩:=trodAll_nil ah;obtain rfl:args= #[v0,I,M]:=by cases args;simp_all
 obtain⟨rfl,rfl⟩:=trodVars_none Z;have k0:=h0;have k1:=h1;have k2:=h2;have ai:∀x∈aa,x.block < W.heap.size:=by obtain⟨m,r⟩:=k0;exact DataW.trod_lt m _ _ _ r
 have aj:∀x∈ab,x.block < W.heap.size:=by obtain⟨m,r⟩:=k1;exact DataW.trod_lt m _ _ _ r
 have ak:∀x∈ad,x.block < W.heap.size:=by obtain⟨m,r⟩:=k2;exact DataW.trod_lt m _ _ _ r
 have ao:Rows.uptoBulk D<=1048576:=by have h:Rows.uptoBulkAll ([D,J,O]++[])<=1048576:=of_decide_eq_true X;have:=pc' (d:=D) (l:=[D,J,O]++[]) (by simp);omega
 obtain⟨ap,len,cap,rfl,aq,au⟩:=ux' h0 (okWide_slice Tryz.underlying22 (z 0 22 v0 rfl rfl)) ao;obtain⟨up,rfl,av⟩:=nR' h1 (okWide_int Tryz.underlying23 (z 1 23 I rfl rfl));obtain⟨dn,rfl,ax⟩:=nR' h2 (okWide_int Tryz.underlying23 (z 2 23 M rfl rfl));clear hA0 F;refine(uy' ap len cap up dn W aq av ax au).mono fun e aO ⟨ay,bel⟩=>?_;subst ay;exact⟨_,rfl,_,_,_,[],_,[],Y,trodAll_mk1 (shut_bool Tryz.underlying4 _),(trodAll_cons_mk (Below.trod jG' (by kernel_rfl) (of_decide_eq_true (by kernel_rfl)) k0 bel ai) (trodAll_cons_mk (Below.trod jG' (by kernel_rfl) (of_decide_eq_true (by kernel_rfl)) k1 bel aj) (trodAll_cons_mk (Below.trod jG' (by kernel_rfl) (of_decide_eq_true (by kernel_rfl)) k2 bel ak) trodAll_mk0))),rfl,bel.frame _,fun h=>by cases h⟩
theorem comes_holds:Rows.ComesUptoSaid:=
 OpenClaim.holds_of_cond 3 Tryz.f3 rfl rfl rfl rfl rfl rfl rfl ⟨rfl,rfl,rfl,rfl,rfl⟩ rfl rfl rfl rfl rfl (by kernel_rfl) Tryz.func3 (by kernel_rfl)
  (of_decide_eq_true (by kernel_rfl)) (by unfold Func.isWrapper;rw[if_neg (by decide+kernel)];exact⟨rfl,rfl⟩)
  (fun os r z enc _ D=>by rw[OpenClaim.pre_of_none' rfl];exact pd' os r z enc D)
end Go.Proofs.YtamafdcnbcoegabGreat
