/-
  Part 1 of a proof: Wire, Wire2, D1, Bs, W1, W2, W3, W4, W5, W6, W7.
-/
import Derived.Below
import Derived.Test.YtamafdcnbcoegabGreatRows
import Derived.WalkKit
import Derived.WalkSpells
import Derived.WalkLawsBesides
import Derived.Deep.QuietTactic
import Derived.BigQuiet
import Derived.Lib.EndianBits
import Derived.Lib.AppendStr
import Derived.Deep.Cut
import Derived.Deep.CutRange
import Derived.Deep.CutBlock
import Derived.Deep.RegionHeld3
import Derived.Laws.ResultCell
import Derived.Laws.CopyOwn
import Derived.Laws.IdiomStrings
set_option maxRecDepth 100000
set_option maxHeartbeats 40000000
namespace Go.Proofs.YtamafdcnbcoegabGreat
namespace Wire
def isNum (n:Int):Bool:=decide (0<=n) &&decide (n<=2147483647)
def isStr (n:Int):Bool:=decide (0<=n) &&decide (n < 3)
def sumStep (s:Int) (c:UInt8):Int:=(s * 31+(c.toNat:Int)) % 4294967296
def sum (l:List UInt8):Int:=l.foldl sumStep 7
theorem sumStep_range (s:Int) (c:UInt8):0<=sumStep s c/\sumStep s c < 4294967296:=by
 unfold sumStep;omega
theorem foldl_range (l:List UInt8) (s:Int) (h:0<=s/\s < 4294967296):0<=l.foldl sumStep s/\l.foldl sumStep s < 4294967296:=by
 induction l generalizing s with
 |nil=>exact h
 |cons c l ih=>exact ih _ (sumStep_range s c)
theorem sum_range (l:List UInt8):0<=sum l/\sum l < 4294967296:=foldl_range l 7 (by omega)
theorem sum_snoc (l:List UInt8) (c:UInt8):sum (l++[c])=sumStep (sum l) c:=by simp[sum]
theorem sum_take (l:List UInt8) (k:Nat) (h:k < l.length):sum (l.take (k+1))=sumStep (sum (l.take k)) (l.getD k 0):=by
 rw[List.take_succ_eq_append_getElem h,sum_snoc];simp[List.getD,h]
def num4 (c0 c1 c2 c3:UInt8):Int:=(c0.toNat:Int)+(c1.toNat:Int) * 256+(c2.toNat:Int) * 65536+(c3.toNat:Int) * 16777216
def numAt (l:List UInt8) (i:Nat):Int:=num4 (l.getD i 0) (l.getD (i+1) 0) (l.getD (i+2) 0) (l.getD (i+3) 0)
def le4 (n:Int):List UInt8:=[UInt8.ofNat (n.toNat % 256),UInt8.ofNat (n.toNat / 256 % 256),UInt8.ofNat (n.toNat / 65536 % 256),UInt8.ofNat (n.toNat / 16777216 % 256)]
theorem num4_range (c0 c1 c2 c3:UInt8):0<=num4 c0 c1 c2 c3/\num4 c0 c1 c2 c3 < 4294967296:=by
 have:=c0.toNat_lt;have:=c1.toNat_lt;have:=c2.toNat_lt;have:=c3.toNat_lt;unfold num4;omega
theorem numAt_range (l:List UInt8) (i:Nat):0<=numAt l i/\numAt l i < 4294967296:=num4_range _ _ _ _
theorem length_le4 (n:Int):(le4 n).length=4:=rfl
def welBody (b:ByteArray):Bool:=decide (b.size=12) && (decide (numAt b.data.toList 0<=2147483647) && (decide (numAt b.data.toList 4<=2147483647) &&decide (numAt b.data.toList 8<=2147483647)))
def ackBody (b:ByteArray):Bool:=decide (b.size=1) &&decide ((b.data.toList.getD 0 0).toNat<=7)
def proper (k e s q:Int) (b:ByteArray):Bool:=
 isNum e&& (if k=1\/k=5 then decide (s=0) && (decide (q=0) &&decide (b.size=0))
 else if k=2 then decide (s=0) && (decide (q=0) &&welBody b)
 else if k=3 then isStr s&& (decide (q≠0) && (isNum q&&decide (b.size<=20)))
 else if k=4 then isStr s&& (isNum q&&ackBody b)
 else false)
def front (k e s q:Int) (b:List UInt8):List UInt8:=
 [UInt8.ofNat (k.toNat % 256)]++le4 e++[UInt8.ofNat (s.toNat % 256)]++le4 q++[UInt8.ofNat (b.length % 256)]++b
def bytes (k e s q:Int) (b:List UInt8):List UInt8:=front k e s q b++le4 (sum (front k e s q b))
def whole (l:List UInt8):Bool:=
 decide (15<=l.length) && (decide (l.length=15+(l.getD 10 0).toNat) &&decide (numAt l (l.length - 4)=sum (l.take (l.length - 4))))
def kindOf (l:List UInt8):Int:=(l.getD 0 0).toNat
def epochOf (l:List UInt8):Int:=numAt l 1
def streamOf (l:List UInt8):Int:=(l.getD 5 0).toNat
def seqOf (l:List UInt8):Int:=numAt l 6
def bodyOf (l:List UInt8):ByteArray:=⟨((l.take (l.length - 4)).drop 11).toArray⟩
def reads (l:List UInt8):Bool:=whole l&&proper (kindOf l) (epochOf l) (streamOf l) (seqOf l) (bodyOf l)
end Wire
namespace Wire
theorem num4_le4 {n:Int} (h0:0<=n) (h1:n < 4294967296):
  num4 (UInt8.ofNat (n.toNat % 256)) (UInt8.ofNat (n.toNat / 256 % 256)) (UInt8.ofNat (n.toNat / 65536 % 256)) (UInt8.ofNat (n.toNat / 16777216 % 256))=n:=by
 unfold num4;simp;omega
theorem length_front (k e s q:Int) (b:List UInt8):(front k e s q b).length=11+b.length:=by
 simp[front,length_le4];omega
theorem length_bytes (k e s q:Int) (b:List UInt8):(bytes k e s q b).length=15+b.length:=by
 simp[bytes,length_front,length_le4];omega
theorem at10_bytes (k e s q:Int) (b:List UInt8) (r:b.length < 256):((bytes k e s q b).getD 10 0).toNat=b.length:=by
 simp[bytes,front,le4];omega
theorem parts_bytes {k e s q:Int} {b:ByteArray} (I:0<=k/\k < 256) (r:0<=e/\e < 4294967296) (hs:0<=s/\s < 256) (z:0<=q/\q < 4294967296) (J:b.size < 256):
  whole (bytes k e s q b.data.toList)=true/\kindOf (bytes k e s q b.data.toList)=k/\epochOf (bytes k e s q b.data.toList)=e/\streamOf (bytes k e s q b.data.toList)=s/\
   seqOf (bytes k e s q b.data.toList)=q/\bodyOf (bytes k e s q b.data.toList)=b:=by
 have M:b.data.toList.length=b.size:=by simp
 have hl:=length_bytes k e s q b.data.toList;have O:=length_front k e s q b.data.toList;have D:(bytes k e s q b.data.toList).take ((bytes k e s q b.data.toList).length - 4)=front k e s q b.data.toList:=by rw[hl];unfold bytes;rw[List.take_append_of_le_length (by omega),List.take_of_length_le (by omega)]
 have F:=sum_range (front k e s q b.data.toList);refine⟨?_,?_,?_,?_,?_,?_⟩
 ·unfold whole;have G:numAt (bytes k e s q b.data.toList) ((bytes k e s q b.data.toList).length - 4)=sum (front k e s q b.data.toList):=by
   have H:(bytes k e s q b.data.toList).length - 4=(front k e s q b.data.toList).length:=by omega
   rw[H];unfold numAt bytes;generalize front k e s q b.data.toList=f at *;have g:∀i,(f++le4 (sum f)).getD (f.length+i) 0=(le4 (sum f)).getD i 0:=by intro i;rw[List.getD_eq_getElem?_getD,List.getD_eq_getElem?_getD,List.getElem?_append_right (by omega)];congr 2;omega
   have g0:=g 0;rw[Nat.add_zero]at g0;rw[g0,g 1,g 2,g 3];exact num4_le4 F.1 F.2
  rw[D,G,at10_bytes k e s q _ (by omega)];simp[hl]
 ·simp[kindOf,bytes,front];omega
 ·have:=num4_le4 r.1 r.2;simpa[epochOf,numAt,bytes,front,le4]using this
 ·simp[streamOf,bytes,front,le4];omega
 ·have:=num4_le4 z.1 z.2;simpa[seqOf,numAt,bytes,front,le4]using this
 ·unfold bodyOf;rw[D];apply ByteArray.ext;simp[front,le4]
end Wire
namespace Mod
def stampB (o c:Nat):List UInt8:=Wire.le4 (o:Int)++Wire.le4 ((c % 4294967296:Nat):Int)++Wire.le4 ((c / 4294967296:Nat):Int)
theorem length_stampB (o c:Nat):(stampB o c).length=12:=rfl
def sealB (o c:Nat) (inside:List UInt8):List UInt8:=stampB o c++(inside++List.replicate (40 - inside.length) 0)++stampB o c
theorem length_sealB (o c:Nat) {inside:List UInt8} (h:inside.length<=40):(sealB o c inside).length=64:=by
 simp[sealB,length_stampB];omega
def headIn (a b c:Nat):List UInt8:=Wire.le4 (a:Int)++Wire.le4 (b:Int)++Wire.le4 (c:Int)
theorem length_headIn (a b c:Nat):(headIn a b c).length=12:=rfl
def recIn (st q:Nat) (b:List UInt8):List UInt8:=[UInt8.ofNat (st % 256),UInt8.ofNat (b.length % 256)]++Wire.le4 (q:Int)++b
theorem length_recIn (st q:Nat) (b:List UInt8):(recIn st q b).length=6+b.length:=by simp[recIn,Wire.length_le4];omega
def setSec (l:List UInt8) (k:Nat) (s:List UInt8):List UInt8:=l.take (64 * k)++s++l.drop (64 * k+64)
theorem length_setSec {l s:List UInt8} {k:Nat} (hs:s.length=64) (r:64 * k+64<=l.length):(setSec l k s).length=l.length:=by
 simp[setSec,hs];omega
structure Dk where
 bytes:List UInt8
 armed:Nat
 dead:Bool
def Dk.put (d:Dk) (k:Nat) (s:List UInt8):Int×Dk:=
 if d.dead=true then(3,d)else if d.armed=1 then(4,{d with dead:=true})else(0,{bytes:=setSec d.bytes k s,armed:=d.armed - 1,dead:=false})
structure Stv where
 opening:Nat
 count:Nat
 head:Nat
 dk:Dk
def Stv.next (s:Stv):Nat:=(s.count+1) % 18446744073709551616
def Stv.putNumbers (s:Stv) (a b c:Nat):Int×Stv:=
 ((s.dk.put (1 - s.head) (sealB s.opening s.next (headIn a b c))).1,{s with head:=1 - s.head,count:=s.next,dk:=(s.dk.put (1 - s.head) (sealB s.opening s.next (headIn a b c))).2})
def Stv.putRecord (s:Stv) (r st q:Nat) (b:List UInt8):Int×Stv:=
 ((s.dk.put (2+r) (sealB s.opening s.next (recIn st q b))).1,{s with count:=s.next,dk:=(s.dk.put (2+r) (sealB s.opening s.next (recIn st q b))).2})
end Mod
end Go.Proofs.YtamafdcnbcoegabGreat
namespace Go.Proofs.YtamafdcnbcoegabGreat
open Go.RowKit
theorem y' {p:Prop} (h:p):Hid p:=h
theorem i' {p:Prop} (h:Hid p):p:=h
theorem bF' {a b:Bool} (h:a=b):Ending.returned (.bool a)=Ending.returned (.bool b):=by rw[h]
theorem sR' {k:IntKind} {a b:Int} (h:a=b):Ending.returned (.int k a)=Ending.returned (.int k b):=by rw[h]
theorem pe' {w:World} {a:Addr} {v:Value} (n:Nat) (h:w.cell? a=some v):(w.drewN n).cell? a=some v:=h
def bv (l:List UInt8):List Value:=l.map fun c=> .int .u8 c.toNat
theorem gi' (l m:List UInt8):bv (l++m)=bv l++bv m:=by simp[bv]
theorem ap' (l:List UInt8):(bv l).length=l.length:=by simp[bv]
theorem iW' {l:List UInt8} {i:Nat} (h:i < l.length):(bv l)[i]? =some (.int .u8 (l.getD i 0).toNat):=by
 simp[bv,h]
theorem cA' (l:List UInt8):∀u∈bv l,u.oneCell'=true:=by
 intro u hu;simp only[bv,List.mem_map]at hu;obtain⟨c,_,rfl⟩:=hu;rfl
theorem xl' {n:Int} (h0:0<=n):bv (Wire.le4 n)=[.int .u8 (n % 256), .int .u8 (n / 256 % 256), .int .u8 (n / 65536 % 256), .int .u8 (n / 16777216 % 256)]:=by
 obtain⟨m,rfl⟩:=Int.eq_ofNat_of_zero_le h0;simp[bv,Wire.le4]
theorem wp' {n:Int} (h0:0<=n) (h1:n < 256):bv [UInt8.ofNat (n.toNat % 256)]=[.int .u8 n]:=by
 obtain⟨m,rfl⟩:=Int.eq_ofNat_of_zero_le h0;have:m % 256=m:=by omega
 simp[bv,this]
theorem uz' (s:ByteArray):Lib.strCells s=bv s.data.toList:=rfl
theorem kE':(Tryz.prog.info? 5).map (fun i=>(i.zero,i.size,i.bytes))=some (some (.int .u8 0),1,1):=by kernel_rfl
theorem bX' {w:World} {l:List Value} {e:TypeId}:∀j u,l[j]? =some u->(w.alloc (.cells l.toArray e)).cell? ((⟨w.heap.size,0,none⟩:Addr).add j)=some u:=by
 intro j u h;by_cases hj:j=0
 ·subst hj;simpa[Addr.add]using h
 ·simpa[Addr.add,hj]using h
def ax' (B:Nat) (w:World) (v:Value) (l:List UInt8):Prop:=w.ownsRow B 5 1 v l.length (bv l)
theorem ax'.alloc {B:Nat} {w:World} {v:Value} {l:List UInt8} (h:ax' B w v l) (o:Obj):ax' B (w.alloc o) v l:=World.ownsRow.alloc h o
theorem hJ' (B:Nat) (w:World):ax' B w (.slice none 0 0) []:=World.ownsRow_nil _ _ _ _
theorem ax'.mono {B B':Nat} {w:World} {v:Value} {l:List UInt8} (h:ax' B w v l) (D:B'<=B):ax' B' w v l:=by
 obtain⟨h1,h2⟩:=h;refine⟨h1,?_⟩;rcases h2 with h2|⟨g,cap,r,e,F,z⟩
 ·exact .inl h2
 ·exact .inr ⟨g,cap,r,e,by omega,z⟩
theorem ax'.below {B C:Nat} {w w':World} {v:Value} {l:List UInt8} (h:ax' B w v l) (r:Below C w w') (z:∀g,v.ownBlock=some g->g < C):ax' B w' v l:=by
 obtain⟨h1,h2⟩:=h;refine⟨h1,?_⟩;rcases h2 with h2|⟨g,cap,D,e,F,G,H⟩
 ·exact .inl h2
 ·subst e;exact .inr ⟨g,cap,D,rfl,F,by rw[r.block g (z g rfl)];exact G,H⟩
theorem ax'.lt {B:Nat} {w:World} {v:Value} {l:List UInt8} (h:ax' B w v l):∀g,v.ownBlock=some g->B<=g/\g < w.heap.size:=World.ownsRow.lt h
theorem ax'.addr {B:Nat} {w:World} {v:Value} {l:List UInt8} (h:ax' B w v l) (hl:0 < l.length):
  ∃g cap,v= .slice (some ⟨g,0,none⟩) l.length cap/\B<=g/\g < w.heap.size/\l.length<=cap/\cap<=maxLen/\∀i,i < l.length->w.cell? ⟨g,0+i,none⟩=some (.int .u8 (l.getD i 0).toNat):=by
 have h0:=h;obtain⟨h1,h2⟩:=h;rcases h2 with ⟨_,h2⟩|⟨g,cap,G,e,r,z,D,F,_,H⟩
 ·omega
 ·subst e;refine⟨g,cap,rfl,r,lt_of_block z,D,F,fun i hi=>?_⟩;have:=World.ownsRow.cellAt h0 i (by omega);rw[Nat.zero_add,this,iW' hi]
theorem ax'.shape {B:Nat} {w:World} {v:Value} {l:List UInt8} (h:ax' B w v l):∃r cap,v= .slice r l.length cap/\l.length<=cap:=by
 obtain⟨h1,h2⟩:=h;rcases h2 with ⟨e,h2⟩|⟨g,cap,D,e,F,G,z,H,_,I⟩
 ·exact⟨none,0,by rw[h2];exact e,by omega⟩
 ·exact⟨_,cap,e,z⟩
theorem ac' {B:Nat} {w w':World} {row:Option Nat} (r:w.grownBy w' row) (z:B<=w.heap.size) (D:∀k,row=some k->B<=k):Below B w w':=
 (Below.refl B w).grown r z D
theorem hO' {F:Array Oper} {rest:List Oper} {o:Oper} {a:Act} {G:Exit->Act->World->Prop} {w:World} (H:o.guard=none) (s x:Operand)
  (I:o.op= .call {callee:= .builtin .append,args:= #[s,x],argTypes:= #[48,48]}) (B:Nat) (v:Value) (l:List UInt8) (J:ax' B w v l) (hs:a.eval s=v)
  (D:Addr) (m c:Nat) (r:List UInt8) (M:a.eval x= .slice (some D) m c) (hl:r.length=m) (O:∀j u,(bv r)[j]? =some u->w.cell? (D.add j)=some u)
  (Y:l.length+m<=140737488355328) (Q:B<=w.heap.size)
  (h:∀z w',ax' B w' z (l++r)->w.grownBy w' v.ownBlock->wpList Tryz.prog F G rest (a.put o.dst z) w'):wpList Tryz.prog F G (o::rest) a w:=by
 obtain⟨i0,hi,U,V,X⟩:=info_parts kE';refine wpList_append_own (P:=Tryz.prog) _ H s x 48 I B 5 i0 (.int .u8 0) 1 1 Tryz.underlying48 hi U V X rfl (by decide) v l.length (bv l) hs J D m c (bv r) M
  (by rw[ap',hl];omega) O (cA' r) (by unfold maxLen;omega) (by omega) Q ?_
 intro z w' h1 h2 _;refine h z w' ?_ h2;unfold ax';rw[gi',List.length_append,hl];exact h1
theorem fu' {z:Array Oper} {rest:List Oper} {o:Oper} {a:Act} {D:Exit->Act->World->Prop} {w:World} (F:o.guard=none) (s x:Operand)
  (G:o.op= .call {callee:= .builtin .append,args:= #[s,x],argTypes:= #[48,48]}) (B:Nat) (v:Value) (l:List UInt8) (n:Int) (H:ax' B w v l) (hs:a.eval s=v)
  (I:a.eval x= .slice (some ⟨w.heap.size,0,none⟩) 1 1) (h0:0<=n) (h1:n < 256)
  (J:l.length+1<=140737488355328) (Q:B<=w.heap.size)
  (h:∀r w',ax' B w' r (l++[UInt8.ofNat (n.toNat % 256)])->w.grownBy w' v.ownBlock->wpList Tryz.prog z D rest (a.put o.dst r) w'):
  wpList Tryz.prog z D (o::rest) a (w.alloc (.cells #[.int .u8 n] 5)):=by
 refine hO' (w:=w.alloc (.cells #[.int .u8 n] 5)) F s x G B v l (H.alloc _) hs ⟨w.heap.size,0,none⟩ 1 1 [UInt8.ofNat (n.toNat % 256)] I rfl
  (by rw[wp' h0 h1];exact bX') J (by simp;omega) ?_
 intro r w' h2 h3;refine h r w' h2 ⟨h3.os,h3.tape,h3.output,by have:=h3.size;simp at this;omega,fun k M O=>?_⟩;rw[h3.block k (by simp;omega) O];exact Below.heap_alloc _ _ _ M
theorem rr' {D:Array Oper} {rest:List Oper} {o:Oper} {a:Act} {F:Exit->Act->World->Prop} {w:World} (G:o.guard=none) (s x:Operand)
  (H:o.op= .call {callee:= .builtin .append,args:= #[s,x],argTypes:= #[48,9]}) (B:Nat) (v:Value) (l:List UInt8) (I:ax' B w v l) (hs:a.eval s=v)
  (r:ByteArray) (J:a.eval x= .string r) (M:l.length+r.size<=140737488355328) (O:B<=w.heap.size)
  (h:∀z w',ax' B w' z (l++r.data.toList)->w.grownBy w' v.ownBlock->wpList Tryz.prog D F rest (a.put o.dst z) w'):wpList Tryz.prog D F (o::rest) a w:=by
 obtain⟨i0,hi,Q,U,V⟩:=info_parts kE';obtain⟨z,w',X,h1,h2,_⟩:=Lib.run_append_own_string (P:=Tryz.prog) w B 48 9 o.type 5 i0 Tryz.underlying48 Tryz.underlying9 hi Q U V v l.length (bv l) I r
  (by unfold maxLen;omega) M O
 refine wpList_plain G fun K Y=>?_;unfold Oper.wp execOp;simp only[H,resolve,invoke,builtin,Sem.run_bind,Sem.run_pure,Result.andThen_ok,List.map_toArray,List.map_cons,List.map_nil,hs,J,X];refine Y _ _ (h z w' ?_ h2);unfold ax';rw[gi',List.length_append,<-uz'];have:r.data.toList.length=r.size:=by simp
 rw[this];exact h1
theorem mk' {r:Array Oper} {rest:List Oper} {o:Oper} {a:Act} {z:Exit->Act->World->Prop} {w:World} (G:o.guard=none) (l c:Operand)
  (H:o.op=Op.makeSlice 48 l c) (B:Nat) (D F:IntKind) (C:Int) (n:Nat) (hl:a.eval l= .int D 0) (I:a.eval c= .int F C) (J:C=(n:Int)) (V:n<=140737488355328) (M:B<=w.heap.size)
  (h:∀w',ax' B w' (.slice (some ⟨w.heap.size,0,none⟩) 0 n) []->w.grownBy w' none->wpList Tryz.prog r z rest (a.put o.dst (.slice (some ⟨w.heap.size,0,none⟩) 0 n)) w'):
  wpList Tryz.prog r z (o::rest) a w:=by
 obtain⟨i0,hi,O,Q,U⟩:=info_parts kE';exact wpList_make_own (P:=Tryz.prog) w G l c 48 H B 5 i0 (.int .u8 0) 1 Tryz.underlying48 hi O Q D F C n hl I J (by rw[U];omega) (by unfold maxLen;omega) M h
theorem H' {P:Program} {c:Code} {r:Exit->Act->World->Prop} {a:Act} {w:World} (R:World->Prop) (h:R w) (k:∀w,R w->c.wp P r a w):c.wp P r a w:=k w h
theorem fv' {w:World} {b off n cap:Nat} {l:List UInt8} (hl:l.length=n) (r:∀i,i < n->w.cell? ⟨b,off+i,none⟩=some (.int .u8 (l.getD i 0).toNat)):
  (convert 48 9 (.slice (some ⟨b,off,none⟩) n cap)).run Tryz.prog w= .ok (.string ⟨l.toArray⟩) w:=by
 have h:=run_convert_bytes_arg (P:=Tryz.prog) w 48 5 Tryz.underlying48 Tryz.underlying5 b off n cap (l.map fun c=>(c.toNat:Int)) (by simp[hl])
  (fun i hi=>by rw[r i hi];simp[List.getD_eq_getElem?_getD,List.getElem?_map];cases h:l[i]? <;> simp) 9 Tryz.underlying9
 have e:strOfNums (l.map fun c=>(c.toNat:Int))=⟨l.toArray⟩:=by
  unfold strOfNums;rw[List.map_map];have:(fun n:Int=>UInt8.ofNat n.toNat) ∘ (fun c:UInt8=>(c.toNat:Int))=id:=by funext c;simp
  rw[this,List.map_id]
 rw[e]at h;exact h
theorem cV' {n:Int} (h0:0<=n):Wire.isNum n=decide (n<=2147483647):=by simp[Wire.isNum,h0]
theorem uA' {n:Int} (h0:n < 0):Wire.isNum n=false:=by simp[Wire.isNum];omega
theorem ty' {n:Int} (h0:0<=n):Wire.isStr n=decide (n < 3):=by simp[Wire.isStr,h0]
theorem uB' {n:Int} (h0:n < 0):Wire.isStr n=false:=by simp[Wire.isStr];omega
theorem aP' (n:Int) (w:World):
  Calls Tryz.prog 138 #[.int .i64 n] w fun e w'=>e= .returned (.bool (Wire.isNum n))/\w'=w:=by
 by_cases h:n < 0;all_goals
  go_enter Tryz.func138,Tryz.ntmps138;go_wp2;go_ret
 ·exact⟨bF' (uA' h).symm,rfl⟩
 ·exact⟨bF' (cV' (by omega)).symm,rfl⟩
theorem bj' (n:Int) (w:World):
  Calls Tryz.prog 71 #[.int .i64 n] w fun e w'=>e= .returned (.bool (Wire.isStr n))/\w'=w:=by
 by_cases h:n < 0;all_goals
  go_enter Tryz.func71,Tryz.ntmps71;go_wp2;go_ret
 ·exact⟨bF' (uB' h).symm,rfl⟩
 ·exact⟨bF' (ty' (by omega)).symm,rfl⟩
theorem pf' {s:ByteArray} (h:(s.size:Int)=1) (r:0 < s.size):Wire.ackBody s=decide ((s[0].toNat:Int)<=7):=by
 have h1:s.size=1:=by omega
 have h2:s.data.toList.getD 0 0=s[0]:=by
  have:(0:Nat) < s.data.toList.length:=by simpa using r
  rw[List.getD_eq_getElem?_getD,List.getElem?_eq_getElem this];rfl
 rw[Wire.ackBody,h2,decide_eq_true h1,Bool.true_and];by_cases h3:s[0].toNat<=7
 ·rw[decide_eq_true h3,decide_eq_true (by omega)]
 ·rw[decide_eq_false h3,decide_eq_false (by omega)]
theorem rt' {s:ByteArray} (h:¬ (s.size:Int)=1):Wire.ackBody s=false:=by
 have h1:¬s.size=1:=by omega
 simp[Wire.ackBody,h1]
theorem ml' (s:ByteArray) (w:World):
  Calls Tryz.prog 140 #[.string s] w fun e w'=>e= .returned (.bool (Wire.ackBody s))/\w'=w:=by
 by_cases h:(s.size:Int)=1
 ·have r:0 < s.size:=by omega
  go_enter Tryz.func140,Tryz.ntmps140;go_wp2;go_ret;exact⟨bF' (pf' h r).symm,rfl⟩
 ·go_enter Tryz.func140,Tryz.ntmps140;go_wp2;go_ret;exact⟨bF' (rt' h).symm,rfl⟩
theorem or4 (c0 c1 c2 c3:UInt8):
  bits BinOp.or IntKind.u32 (bits BinOp.or IntKind.u32 (bits BinOp.or IntKind.u32 ((c0.toNat:Int) % 4294967296) ((c1.toNat:Int) % 4294967296 * 256 % 4294967296))
   ((c2.toNat:Int) % 4294967296 * 65536 % 4294967296)) ((c3.toNat:Int) % 4294967296 * 16777216 % 4294967296)=Wire.num4 c0 c1 c2 c3:=by
 have h0:=c0.toNat_lt;have h1:=c1.toNat_lt;have h2:=c2.toNat_lt;have h3:=c3.toNat_lt;have r:(c0.toNat:Int) % 4294967296=c0.toNat:=by omega
 have z:(c1.toNat:Int) % 4294967296 * 256 % 4294967296=c1.toNat * 256:=by omega
 have D:(c2.toNat:Int) % 4294967296 * 65536 % 4294967296=c2.toNat * 65536:=by omega
 have F:(c3.toNat:Int) % 4294967296 * 16777216 % 4294967296=c3.toNat * 16777216:=by omega
 rw[r,z,D,F,u32_or8 (c0.toNat:Int) ((c1.toNat:Int) * 256) (by omega) (by omega) (by omega) (by omega) (by omega),
  u32_or16 ((c0.toNat:Int)+(c1.toNat:Int) * 256) ((c2.toNat:Int) * 65536) (by omega) (by omega) (by omega) (by omega) (by omega),
  u32_or24 ((c0.toNat:Int)+(c1.toNat:Int) * 256+(c2.toNat:Int) * 65536) ((c3.toNat:Int) * 16777216) (by omega) (by omega) (by omega) (by omega) (by omega)]
 unfold Wire.num4;omega
theorem dA' (b off len cap:Nat) (c0 c1 c2 c3:UInt8) (w:World) (hl:4<=len)
  (h0:w.cell? ⟨b,off,none⟩=some (.int .u8 c0.toNat)) (h1:w.cell? ⟨b,off+1,none⟩=some (.int .u8 c1.toNat))
  (h2:w.cell? ⟨b,off+2,none⟩=some (.int .u8 c2.toNat)) (h3:w.cell? ⟨b,off+3,none⟩=some (.int .u8 c3.toNat)):
  Calls Tryz.prog 109 #[.slice (some ⟨b,off,none⟩) len cap] w fun e w'=>e= .returned (.int .u32 (Wire.num4 c0 c1 c2 c3))/\∃n,w'=w.drewN n:=by
 go_enter Tryz.func109,Tryz.ntmps109;go_wp2;go_quiet (fail);go_wp2;go_ret;exact⟨sR' (or4 _ _ _ _),_,rfl⟩
theorem mm' (s:ByteArray) (w:World) (h0:0 < s.size) (h1:1 < s.size) (h2:2 < s.size) (h3:3 < s.size):
  Calls Tryz.prog 165 #[.string s] w fun e w'=>e= .returned (.int .u32 (Wire.num4 s[0] s[1] s[2] s[3]))/\∃n,w'=w.drewN n:=by
 have i0:(0:Int) < (s.size:Int):=by omega
 have r:(1:Int) < (s.size:Int):=by omega
 have i2:(2:Int) < (s.size:Int):=by omega
 have i3:(3:Int) < (s.size:Int):=by omega
 go_enter Tryz.func165,Tryz.ntmps165;go_wp2;go_quiet (fail);go_wp2;go_ret;exact⟨sR' (or4 _ _ _ _),_,rfl⟩
theorem uC' {l:List UInt8} {k len:Nat} (r:l.length=len) (z:k<=len) (h:¬k < len):l.take k=l:=List.take_of_length_le (by omega)
theorem tz' {l:List UInt8} {k:Nat} (r:k < l.length):
  (Wire.sum (l.take k) * 31 % 4294967296+(l[k].toNat:Int) % 4294967296) % 4294967296=Wire.sum (l.take (k+1)):=by
 rw[Wire.sum_take l k r,Wire.sumStep,List.getD_eq_getElem?_getD,List.getElem?_eq_getElem r];simp
theorem nc' (b off len cap:Nat) (l:List UInt8) (w:World) (r:l.length=len) (z:len<=maxLen)
  (D:∀i,i < len->w.cell? ⟨b,off+i,none⟩=some (.int .u8 (l.getD i 0).toNat)):
  Calls Tryz.prog 104 #[.slice (some ⟨b,off,none⟩) len cap] w fun e w'=>e= .returned (.int .u32 (Wire.sum l))/\w'=w:=by
 unfold maxLen at z;go_enter Tryz.func104,Tryz.ntmps104;go_wp2;go_loop [3,8] (fun s i=>∃k:Nat,k<=len/\i= .int .i64 k/\s= .int .u32 (Wire.sum (l.take k))) (fun _ i=>len - (intOf i).toNat)
 case atStart=>exact⟨0,Nat.zero_le _,rfl,rfl⟩
 case round=>
  obtain⟨k,F,rfl,rfl⟩:=hrel;have I:k < len->w.cell? ⟨b,off+k,none⟩=some (.int .u8 (l.getD k 0).toNat):=fun _=>D k (by omega);by_cases G:k < len
  ·go_wp2;go_round
   case rel=>exact⟨k+1,by omega,by go_num,congrArg (Value.int .u32) (tz' (by omega))⟩
   case measure=>simp[intOf];omega
  ·have H:Hid (l.take k=l):=uC' r F G;go_wp2;go_ret;exact⟨congrArg (fun l=>Ending.returned (.int .u32 (Wire.sum l))) H.out,rfl⟩
theorem ru' (x:ByteArray) (h:4<=x.size):Wire.num4 (x[0]'(by omega)) (x[1]'(by omega)) (x[2]'(by omega)) (x[3]'(by omega))=Wire.numAt x.data.toList 0:=by
 have g:∀i (hi:i < x.size),x.data.toList.getD i 0=x[i]:=by
  intro i hi;have hl:i < x.data.toList.length:=by simpa using hi
  rw[List.getD_eq_getElem?_getD,List.getElem?_eq_getElem hl];rfl
 unfold Wire.numAt;rw[g 0 (by omega),g (0+1) (by omega),g (0+2) (by omega),g (0+3) (by omega)]
theorem mn' (s:ByteArray) (a:Nat) (h:a+4<=s.size):Wire.numAt (s.extract a s.size).data.toList 0=Wire.numAt s.data.toList a:=by
 have g:∀i,i < 4->(s.extract a s.size).data.toList.getD i 0=s.data.toList.getD (a+i) 0:=by intro i hi;have r:s.data.size=s.size:=rfl;simp only[ByteArray.data_extract,Array.toList_extract,List.getD_eq_getElem?_getD,List.extract_eq_take_drop,List.getElem?_take,List.getElem?_drop];rw[if_pos (by omega)]
 unfold Wire.numAt;rw[g 0 (by omega),g (0+1) (by omega),g (0+2) (by omega),g (0+3) (by omega)];simp only[Nat.zero_add,Nat.add_zero]
theorem kF' (x:ByteArray) (w:World) (h:4<=x.size):
  Calls Tryz.prog 165 #[.string x] w fun e w'=>e= .returned (.int .u32 (Wire.numAt x.data.toList 0))/\∃n,w'=w.drewN n:=by
 have:=mm' x w (by omega) (by omega) (by omega) (by omega);rw[ru' x h]at this;exact this
def xm' (s:ByteArray) (k:Nat):Prop:=∀j,j < k->Wire.numAt s.data.toList (4 * j)<=2147483647
theorem wX' {s:ByteArray} (h:(s.size:Int)=12) (r:xm' s 3):Wire.welBody s=true:=by
 have a0:=r 0 (by omega);have a1:=r 1 (by omega);have z:=r 2 (by omega);simp at a0 a1 z;unfold Wire.welBody;simp[a0,a1,z];omega
theorem pg' (a:Array Obj) (o:Obj) (f:Obj->Obj):(a.push o).modify a.size f=a.push (f o):=by
 apply Array.ext
 ·simp
 ·intro j h1 h2;simp only[Array.getElem_modify,Array.getElem_push];simp at h1;by_cases hj:a.size=j
  ·subst hj;simp
  ·have:j < a.size:=by omega
   simp[hj,this]
theorem kG' {w:World} {C:Array Value} {T:TypeId} {b:Nat} (i:Nat) (v:Value) (n:Nat) (r:b=w.heap.size):((w.alloc (.cells C T)).drewN n).setCell ⟨b,i,none⟩ v=(w.alloc (.cells (C.setIfInBounds i v) T)).drewN n:=by
 subst r;unfold World.setCell World.alloc World.drewN;simp only[pg'];rfl
def xn' (r z D:Int):Nat->Array Value
 |0=> #[.int .i64 0, .int .i64 0, .int .i64 0]
 |1=> #[.int .i64 r, .int .i64 0, .int .i64 0]
 |2=> #[.int .i64 r, .int .i64 z, .int .i64 0]
 | _=> #[.int .i64 r, .int .i64 z, .int .i64 D]
theorem ch' (l:List UInt8) (i:Nat):0<=Wire.numAt l i/\Wire.numAt l i < 4294967296:=by
 unfold Wire.numAt Wire.num4;have h0:=(l.getD i 0).toNat_lt;have h1:=(l.getD (i+1) 0).toNat_lt;have h2:=(l.getD (i+2) 0).toNat_lt;have h3:=(l.getD (i+3) 0).toNat_lt;omega
theorem et' (s:ByteArray) (w:World) (h:s.size=12):
  Calls Tryz.prog 116 #[.string s] w fun e w'=>e= .returned (.agg #[.int .i64 (Wire.numAt s.data.toList 0), .int .i64 (Wire.numAt s.data.toList 4), .int .i64 (Wire.numAt s.data.toList 8)])/\Below w.heap.size w w':=by
 have g:∀k,0 < k->k < 3->∀w,Calls Tryz.prog 165 #[.string (s.extract (4 * k) s.size)] w fun e w'=>e= .returned (.int .u32 (Wire.numAt s.data.toList (4 * k)))/\∃n,w'=w.drewN n:=by
  intro k _ J w;have M:=mn' s (4 * k) (by omega);have O:(s.extract (4 * k) s.size).size=s.size - 4 * k:=by simp
  rw[<-M];exact kF' _ w (by omega)
 have g0:=y' (fun w=>kF' s w (by omega));have g1:=y' (g 1 (by omega) (by omega));have g2:=y' (g 2 (by omega) (by omega));clear g;have i4:(4:Int)<=(s.size:Int):=by omega
 have Q:(8:Int)<=(s.size:Int):=by omega
 have U:4<=s.size:=by omega
 have V:8<=s.size:=by omega
 clear h;simp only[Nat.mul_one,Nat.reduceMul]at g0 g1 g2;have G:=ch' s.data.toList 0;have H:=ch' s.data.toList 4;have I:=ch' s.data.toList 8;generalize Wire.numAt s.data.toList 0=z at g0 G ⊢;generalize Wire.numAt s.data.toList 4=D at g1 H ⊢;generalize Wire.numAt s.data.toList 8=F at g2 I ⊢;obtain⟨X,Y⟩:=G;obtain⟨Z,aa⟩:=H;obtain⟨ab,ac⟩:=I;go_enter Tryz.func116,Tryz.ntmps116;go_wp2;go_loopw[5] (fun i wr=>∃k:Nat,k<=3/\i= .int .i64 k/\∃n,wr=((w.alloc (.cells (xn' z D F 0) 35)).alloc (.cells (xn' z D F k) 35)).drewN n) (fun i _=>3 - (intOf i).toNat)
 case atStart=>exact⟨0,by omega,rfl,0,rfl⟩
 case round=>
  obtain⟨k,J,rfl,n,rfl⟩:=hrel;obtain rfl|rfl|rfl|rfl:k=0\/k=1\/k=2\/k=3:=by omega
  all_goals simp only[xn']
  ·go_wp2_with (go_at_call 165;refine((i' g0) _).mono ?_;rintro e w' ⟨rfl,r,rfl⟩)
   go_roundw
   case rel=>exact⟨1,by omega,rfl,n+r,kG' (w:=w.alloc _) 0 (.int .i64 z) (n+r) (by simp)⟩
   case measure=>simp[intOf]
  ·go_wp2_with (go_at_call 165;refine((i' g1) _).mono ?_;rintro e w' ⟨rfl,r,rfl⟩)
   go_roundw
   case rel=>exact⟨2,by omega,rfl,n+r,kG' (w:=w.alloc _) 1 (.int .i64 D) (n+r) (by simp)⟩
   case measure=>simp[intOf]
  ·go_wp2_with (go_at_call 165;refine((i' g2) _).mono ?_;rintro e w' ⟨rfl,r,rfl⟩)
   go_roundw
   case rel=>exact⟨3,by omega,rfl,n+r,kG' (w:=w.alloc _) 2 (.int .i64 F) (n+r) (by simp)⟩
   case measure=>simp[intOf]
  ·go_wp2;exact bodyPost_ret (v:= .agg #[.int .i64 z, .int .i64 D, .int .i64 F]) (by simp[results,Tryz.results116,go_sem]) rfl ⟨rfl,(((below_drewN (((Below.refl _ _).alloc (Nat.le_refl _) _).alloc (by simp) _) _).setCell (Nat.le_refl _) _).setCell (Nat.le_refl _) _).setCell (Nat.le_refl _) _⟩
theorem hP' (s:ByteArray) (w:World):
  Calls Tryz.prog 139 #[.string s] w fun e w'=>e= .returned (.bool (Wire.welBody s))/\Below w.heap.size w w':=by
 by_cases h:(s.size:Int)=12
 ·have H:=y' (et' s w (by omega));have J:=ch' s.data.toList 0;have M:=ch' s.data.toList 4;have O:=ch' s.data.toList 8;have z:Hid (Wire.welBody s=(decide (Wire.numAt s.data.toList 0<=2147483647) && (decide (Wire.numAt s.data.toList 4<=2147483647) &&decide (Wire.numAt s.data.toList 8<=2147483647)))):=by
   have:s.size=12:=by omega
   show _= _;simp[Wire.welBody,this]
  generalize Wire.numAt s.data.toList 0=D at H J z;generalize Wire.numAt s.data.toList 4=F at H M z;generalize Wire.numAt s.data.toList 8=G at H O z;obtain⟨Q,Y⟩:=J;obtain⟨U,Z⟩:=M;obtain⟨V,aa⟩:=O;have i0:∀w:World,(Instr.index 35 (.agg #[.int .i64 D, .int .i64 F, .int .i64 G]) (.int .i64 0)).run Tryz.prog w= .ok (.int .i64 D) w:=fun _=>by kernel_rfl
  have ab:∀w:World,(Instr.index 35 (.agg #[.int .i64 D, .int .i64 F, .int .i64 G]) (.int .i64 1)).run Tryz.prog w= .ok (.int .i64 F) w:=fun _=>by kernel_rfl
  have i2:∀w:World,(Instr.index 35 (.agg #[.int .i64 D, .int .i64 F, .int .i64 G]) (.int .i64 2)).run Tryz.prog w= .ok (.int .i64 G) w:=fun _=>by kernel_rfl
  go_enter Tryz.func139,Tryz.ntmps139;go_upto_region 4 with (go_at_call 116;refine(i' H).mono ?_;rintro e ac ⟨rfl,X⟩;have I:=y' X;clear X);clear h;go_loop [10] (fun i=>∃k:Nat,k<=3/\i= .int .i64 k/\(0 < k->D<=2147483647)/\(1 < k->F<=2147483647)/\(2 < k->G<=2147483647)) (fun i=>3 - (intOf i).toNat)
  case atStart=>exact⟨0,by omega,rfl,by omega,by omega,by omega⟩
  case round=>
   obtain⟨k,ad,rfl,k0,k1,k2⟩:=hrel;obtain rfl|rfl|rfl|rfl:k=0\/k=1\/k=2\/k=3:=by omega
   ·by_cases r:D<=2147483647
    ·go_wp2_with (go_at_call 138;refine(aP' _ _).mono ?_;rw[cV' Q,decide_eq_true r];rintro e w' ⟨rfl,rfl⟩)
     go_round
     case rel=>exact⟨1,by omega,rfl,by omega,by omega,by omega⟩
     case measure=>simp[intOf]
    ·go_wp2_with (go_at_call 138;refine(aP' _ _).mono ?_;rw[cV' Q,decide_eq_false r];rintro e w' ⟨rfl,rfl⟩)
     go_ret;exact⟨bF' (by rw[i' z,decide_eq_false (Int.not_le.mpr (show 2147483647 < D by assumption))];rfl),i' I⟩
   ·by_cases r:F<=2147483647
    ·go_wp2_with (go_at_call 138;refine(aP' _ _).mono ?_;rw[cV' U,decide_eq_true r];rintro e w' ⟨rfl,rfl⟩)
     go_round
     case rel=>exact⟨2,by omega,rfl,by omega,by omega,by omega⟩
     case measure=>simp[intOf]
    ·go_wp2_with (go_at_call 138;refine(aP' _ _).mono ?_;rw[cV' U,decide_eq_false r];rintro e w' ⟨rfl,rfl⟩)
     go_ret;exact⟨bF' (by rw[i' z,decide_eq_false (Int.not_le.mpr (show 2147483647 < F by assumption))];simp),i' I⟩
   ·by_cases r:G<=2147483647
    ·go_wp2_with (go_at_call 138;refine(aP' _ _).mono ?_;rw[cV' V,decide_eq_true r];rintro e w' ⟨rfl,rfl⟩)
     go_round
     case rel=>exact⟨3,by omega,rfl,by omega,by omega,by omega⟩
     case measure=>simp[intOf]
    ·go_wp2_with (go_at_call 138;refine(aP' _ _).mono ?_;rw[cV' V,decide_eq_false r];rintro e w' ⟨rfl,rfl⟩)
     go_ret;exact⟨bF' (by rw[i' z,decide_eq_false (Int.not_le.mpr (show 2147483647 < G by assumption))];simp),i' I⟩
   ·go_wp2;go_ret;exact⟨bF' (by rw[i' z,decide_eq_true (k0 (by omega)),decide_eq_true (k1 (by omega)),decide_eq_true (k2 (by omega))];rfl),i' I⟩
 ·go_enter Tryz.func139,Tryz.ntmps139;go_wp2;go_ret;exact⟨bF' (by simp[Wire.welBody];omega),Below.refl _ _⟩
theorem one4 {k:IntKind} {a b c d:Int}:∀u∈ [Value.int k a, .int k b, .int k c, .int k d],u.oneCell'=true:=by
 intro u hu;simp at hu;rcases hu with rfl|rfl|rfl|rfl <;> rfl
theorem hQ' {w r:World} {o:Obj} {row:Option Nat} (h:(w.alloc o).grownBy r row):w.grownBy r row:=by
 refine⟨h.os,h.tape,h.output,by have:=h.size;simp at this;omega,fun k z D=>?_⟩;rw[h.block k (by simp;omega) D];exact Below.heap_alloc _ _ _ z
theorem aF' (B:Nat) (n:Int) (v:Value) (l:List UInt8) (w:World) (hl:l.length<=1000) (U:B<=w.heap.size) (F:0<=n)
  (z:ax' B w v l):
  Calls Tryz.prog 103 #[v, .int .u32 n] w fun e w'=>∃r,e= .returned r/\ax' B w' r (l++Wire.le4 n)/\w.grownBy w' v.ownBlock:=by
 have D:=xl' F;obtain⟨i0,hi,G,H,I⟩:=info_parts kE';have J:=y' z;have M:=y' D;clear D z;go_enter Tryz.func103,Tryz.ntmps103;go_wp2_with (at_builtin;refine wpList_append_own _ rfl _ _ 48 rfl B 5 i0 (.int .u8 0) 1 1 Tryz.underlying48 hi G H I rfl (by decide) v l.length (bv l) rfl ((i' J).alloc _) ⟨w.heap.size,0,none⟩ 4 4 [.int .u8 (n % 256), .int .u8 (n / 256 % 256), .int .u8 (n / 65536 % 256), .int .u8 (n / 16777216 % 256)] rfl rfl bX' one4 ?c3 ?c4 ?c5 ?_)
 case c3=>unfold maxLen;omega
 case c4=>omega
 case c5=>simp;omega
 intro r V O Q _;go_wp2;go_ret;refine⟨r,rfl,?_,?_⟩
 ·unfold ax';rw[gi',i' M];simpa[Wire.length_le4]using O
 ·exact hQ' Q
theorem nS' (b:ByteArray):b.toList.isEmpty=decide (b.size=0):=by
 rcases Nat.eq_zero_or_pos b.size with h|h
 ·have:b=ByteArray.empty:=by apply ByteArray.ext;apply Array.eq_empty_of_size_eq_zero;exact h
  subst this;simp[ByteArray.toList_eq]
 ·have r:b.toList≠ []:=by
   intro e;have h1:b.toList.length=b.size:=by simp[ByteArray.toList_eq]
   rw[e]at h1;simp at h1;omega
  rw[decide_eq_false (by omega)];cases hl:b.toList with
  |nil=>exact absurd hl r
  |cons _ _=>rfl
theorem tA' (k e s q:Int) (b:ByteArray) (w:World) (H:Wire.isNum e=true) (r:k=1\/k=5):
  Calls Tryz.prog 89 #[.agg #[.int .i64 k, .int .i64 e, .int .i64 s, .int .i64 q, .string b]] w fun D w'=>D= .returned (.bool (Wire.proper k e s q b))/\Below w.heap.size w w':=by
 have z:(k==1)=true\/((k==1)=false/\(k==5)=true):=by rcases r with rfl|rfl <;> simp
 have F:Hid (Wire.proper k e s q b=(decide (s=0) && (decide (q=0) &&decide (b.size=0)))):=by show _= _;simp[Wire.proper,H,r]
 have G:Hid (b.toList.isEmpty=decide (b.size=0)):=nS' b;clear r;rcases z with z|⟨z,I⟩;all_goals
  go_enter Tryz.func89,Tryz.ntmps89;go_wp2_with (go_at_call 138;refine(aP' _ _).mono ?_;rintro D w' ⟨rfl,rfl⟩);all_goals
   go_ret;refine⟨bF' ?_,(Below.refl _ _).alloc (Nat.le_refl _) _⟩;have F:=i' F;have G:=i' G;simp_all
theorem tB' (k e s q:Int) (b:ByteArray) (w:World) (D:Wire.isNum e=true) (h2:k=2):
  Calls Tryz.prog 89 #[.agg #[.int .i64 k, .int .i64 e, .int .i64 s, .int .i64 q, .string b]] w fun r w'=>r= .returned (.bool (Wire.proper k e s q b))/\Below w.heap.size w w':=by
 subst h2;have z:Hid (Wire.proper 2 e s q b=(decide (s=0) && (decide (q=0) &&Wire.welBody b))):=by show _= _;simp[Wire.proper,D]
 go_enter Tryz.func89,Tryz.ntmps89;go_wp2_with (first|(go_at_call 138;refine(aP' _ _).mono ?_;rintro r w' ⟨rfl,rfl⟩)|(go_at_call 139;refine(hP' _ _).mono ?_;rintro r w' ⟨rfl,F⟩));all_goals
  go_ret;refine⟨bF' ?_,by first|exact(Below.refl _ _).alloc (Nat.le_refl _) _|exact((Below.refl _ _).alloc (Nat.le_refl _) _).trans (F.mono (by simp))⟩;have z:=i' z;simp_all
theorem tC' (k e s q:Int) (b:ByteArray) (w:World) (F:Wire.isNum e=true) (h3:k=3):
  Calls Tryz.prog 89 #[.agg #[.int .i64 k, .int .i64 e, .int .i64 s, .int .i64 q, .string b]] w fun r w'=>r= .returned (.bool (Wire.proper k e s q b))/\Below w.heap.size w w':=by
 subst h3;have z:Hid (Wire.proper 3 e s q b=(Wire.isStr s&& (decide (q≠0) && (Wire.isNum q&&decide (b.size<=20))))):=by show _= _;simp[Wire.proper,F]
 cases hs:Wire.isStr s;all_goals
  cases G:Wire.isNum q;all_goals
   go_enter Tryz.func89,Tryz.ntmps89;go_wp2_with (first|(go_at_call 138;refine(aP' _ _).mono ?_;rintro r w' ⟨rfl,rfl⟩)|(go_at_call 71;refine(bj' _ _).mono ?_;rintro r w' ⟨rfl,rfl⟩));all_goals
    go_ret;refine⟨bF' ?_,(Below.refl _ _).alloc (Nat.le_refl _) _⟩;have z:=i' z;have hd:decide ((b.size:Int)<=20)=decide (b.size<=20):=by rw[decide_eq_decide];omega
    have D:(q !=0)=decide (q≠0):=by by_cases h:q=0 <;> simp[h]
    try simp only[hd,D]
    clear hd D;simp_all
theorem tD' (k e s q:Int) (b:ByteArray) (w:World) (D:Wire.isNum e=true) (h4:k=4):
  Calls Tryz.prog 89 #[.agg #[.int .i64 k, .int .i64 e, .int .i64 s, .int .i64 q, .string b]] w fun r w'=>r= .returned (.bool (Wire.proper k e s q b))/\Below w.heap.size w w':=by
 subst h4;have z:Hid (Wire.proper 4 e s q b=(Wire.isStr s&& (Wire.isNum q&&Wire.ackBody b))):=by show _= _;simp[Wire.proper,D]
 cases hs:Wire.isStr s;all_goals
  cases F:Wire.isNum q;all_goals
   go_enter Tryz.func89,Tryz.ntmps89;go_wp2_with (first|(go_at_call 138;refine(aP' _ _).mono ?_;rintro r w' ⟨rfl,rfl⟩)|(go_at_call 71;refine(bj' _ _).mono ?_;rintro r w' ⟨rfl,rfl⟩)|(go_at_call 140;refine(ml' _ _).mono ?_;rintro r w' ⟨rfl,rfl⟩));all_goals
    go_ret;refine⟨bF' ?_,(Below.refl _ _).alloc (Nat.le_refl _) _⟩;have z:=i' z;simp_all
theorem ph' (k e s q:Int) (b:ByteArray) (w:World):
  Calls Tryz.prog 89 #[.agg #[.int .i64 k, .int .i64 e, .int .i64 s, .int .i64 q, .string b]] w fun z w'=>z= .returned (.bool (Wire.proper k e s q b))/\Below w.heap.size w w':=by
 cases r:Wire.isNum e
 ·go_enter Tryz.func89,Tryz.ntmps89;go_wp2_with (go_at_call 138;refine(aP' _ _).mono ?_;rintro z w' ⟨rfl,rfl⟩);go_ret;exact⟨bF' (by simp[Wire.proper,r]),(Below.refl _ _).alloc (Nat.le_refl _) _⟩
 by_cases D:k=1\/k=5
 ·exact tA' k e s q b w r D
 by_cases h2:k=2
 ·exact tB' k e s q b w r h2
 by_cases h3:k=3
 ·exact tC' k e s q b w r h3
 by_cases h4:k=4
 ·exact tD' k e s q b w r h4
 have F:Hid (Wire.proper k e s q b=false):=by show _= _;simp[Wire.proper,D,h2,h3,h4]
 have G:(k==1)=false:=by simp;omega
 have H:(k==2)=false:=by simp;omega
 have I:(k==3)=false:=by simp;omega
 have J:(k==4)=false:=by simp;omega
 have M:(k==5)=false:=by simp;omega
 clear D h2 h3 h4;go_enter Tryz.func89,Tryz.ntmps89;go_wp2_with (go_at_call 138;refine(aP' _ _).mono ?_;rintro z w' ⟨rfl,rfl⟩);go_ret;exact⟨bF' (i' F).symm,(Below.refl _ _).alloc (Nat.le_refl _) _⟩
end Go.Proofs.YtamafdcnbcoegabGreat
namespace Go.Proofs.YtamafdcnbcoegabGreat
open Go.RowKit
open Wire (whole)
theorem mo' (r:Option Addr) (len cap:Nat) (w:World) (h:(len:Int) < 15):
  Calls Tryz.prog 108 #[.slice r len cap] w fun z w'=>z= .returned (.bool false)/\w'=w:=by
 go_enter Tryz.func108,Tryz.ntmps108;go_wp2;go_ret;exact⟨rfl,rfl⟩
theorem uD' {l:List UInt8} {m g:Nat} (z:l.length=m+4) (r:(l.getD 10 0).toNat=g) (h:¬m+4=15+g):whole l=false:=by
 unfold whole;rw[r,decide_eq_false (p:=l.length=15+g) (by omega)];simp
theorem tE' {l:List UInt8} {m g:Nat} (z:l.length=m+4) (_:11<=m) (r:(l.getD 10 0).toNat=g) (h:m+4=15+g):
  whole l=(Wire.num4 (l.getD m 0) (l.getD (m+1) 0) (l.getD (m+2) 0) (l.getD (m+3) 0) ==Wire.sum (l.take m)):=by
 unfold whole;have e:l.length - 4=m:=by omega
 rw[r,e,decide_eq_true (p:=15<=l.length) (by omega),decide_eq_true (p:=l.length=15+g) (by omega),Bool.true_and,Bool.true_and];by_cases hs:Wire.numAt l m=Wire.sum (l.take m)
 ·rw[decide_eq_true hs];exact(beq_iff_eq.2 hs).symm
 ·rw[decide_eq_false hs];exact(beq_eq_false_iff_ne.2 hs).symm
theorem hR' (b off m cap:Nat) (l:List UInt8) (w:World) (z:l.length=m+4) (G:m+4<=maxLen) (V:m+4<=cap) (H:11<=m)
  (r:∀i,i < m+4->w.cell? ⟨b,off+i,none⟩=some (.int .u8 (l.getD i 0).toNat)):
  Calls Tryz.prog 108 #[.slice (some ⟨b,off,none⟩) (m+4) cap] w fun I w'=>I= .returned (.bool (whole l))/\∃n,w'=w.drewN n:=by
 have J:=r 10 (by omega);have M:=(l.getD 10 0).toNat_lt;have O:=G;unfold maxLen at G;generalize D:(l.getD 10 0).toNat=g at J M;have h1:(15:Int)<=(m:Int)+4:=by omega
 by_cases h:m+4=15+g
 ·have h2:((m:Int)+4!=11+(g:Int)+4)=false:=by simp;omega
  have F:=y' (tE' z H D h);have Q:=fun n=>y' (dA' b (off+m) 4 (cap - m) (l.getD m 0) (l.getD (m+1) 0) (l.getD (m+2) 0) (l.getD (m+3) 0) (w.drewN n) (Nat.le_refl _)
   (pe' n (r m (by omega))) (pe' n (r (m+1) (by omega))) (pe' n (r (m+2) (by omega))) (pe' n (r (m+3) (by omega))))
  have U:=fun n=>y' (nc' b off m cap (l.take m) (w.drewN n) (by simp;omega) (by omega) (fun i hi=>by rw[pe' n (r i (by omega)),List.getD_eq_getElem?_getD,List.getD_eq_getElem?_getD,List.getElem?_take,if_pos hi]));clear h D r z O;generalize l.take m=lt at *;go_enter Tryz.func108,Tryz.ntmps108;go_wp2_with fail;go_quiet (first|(go_at_call 109;exact Calls.quiet_of (i' (Q _)))|(go_at_call 104;exact Calls.quiet_of_same (i' (U _))));go_wp2;go_ret;exact⟨bF' (i' F).symm,_,rfl⟩
 ·have h2:((m:Int)+4!=11+(g:Int)+4)=true:=by simp;omega
  have F:=y' (uD' z D h);clear h D r z;go_enter Tryz.func108,Tryz.ntmps108;go_wp2_with fail;go_ret;exact⟨bF' (i' F).symm,0,rfl⟩
end Go.Proofs.YtamafdcnbcoegabGreat
namespace Go.Proofs.YtamafdcnbcoegabGreat
open Go.RowKit
structure jH' (w:World) (b:Nat) (k e s q:Int) (body:ByteArray):Prop where
 c0:w.cell? ⟨b,0,none⟩=some (.int .i64 k)
 c1:w.cell? ⟨b,1,none⟩=some (.int .i64 e)
 c2:w.cell? ⟨b,2,none⟩=some (.int .i64 s)
 c3:w.cell? ⟨b,3,none⟩=some (.int .i64 q)
 c4:w.cell? ⟨b,4,none⟩=some (.string body)
theorem nd' (w:World) (k e s q:Int) (body:ByteArray) (t:TypeId):jH' (w.alloc (.cells #[.int .i64 k, .int .i64 e, .int .i64 s, .int .i64 q, .string body] t)) w.heap.size k e s q body:=by
 constructor <;> simp
theorem jH'.below {w w':World} {b C:Nat} {k e s q:Int} {body:ByteArray} (h:jH' w b k e s q body) (r:Below C w w') (z:b < C):jH' w' b k e s q body:=
 ⟨(r.cell (p:=⟨b,0,none⟩) z).trans h.c0,(r.cell (p:=⟨b,1,none⟩) z).trans h.c1,(r.cell (p:=⟨b,2,none⟩) z).trans h.c2,(r.cell (p:=⟨b,3,none⟩) z).trans h.c3,(r.cell (p:=⟨b,4,none⟩) z).trans h.c4⟩
theorem eH' {W w w':World} {b C:Nat} {k e s q:Int} {body:ByteArray} {v:Value} {l:List UInt8} (z:jH' w b k e s q body) (B:Below b W w) (D:ax' C w v l) (F:b < C) (G:C<=w.heap.size)
  (r:w.grownBy w' v.ownBlock):jH' w' b k e s q body/\Below b W w'/\C<=w'.heap.size:=by
 have h1:Below C w w':=ac' r G (fun g r=>(D.lt g r).1);exact⟨z.below h1 F,B.trans (h1.mono (by omega)),by have:=h1.size;omega⟩
theorem uE' (k e s q:Int) (b:ByteArray):
  ([]++[UInt8.ofNat (k.toNat % 256)]++Wire.le4 e++[UInt8.ofNat (s.toNat % 256)]++Wire.le4 q++[UInt8.ofNat ((b.size:Int).toNat % 256)]++b.data.toList)=Wire.front k e s q b.data.toList:=by
 simp[Wire.front]
theorem eI' (k e s q:Int) (b:ByteArray) (w:World) (bj:0<=k/\k < 256) (bk:0<=e/\e < 4294967296) (hs:0<=s/\s < 256) (bl:0<=q/\q < 4294967296) (bm:b.size < 256):
  Calls Tryz.prog 67 #[.agg #[.int .i64 k, .int .i64 e, .int .i64 s, .int .i64 q, .string b]] w fun H w'=>
   ∃v,H= .returned v/\ax' (w.heap.size+1) w' v (Wire.bytes k e s q b.data.toList)/\Below w.heap.size w w':=by
 go_enter Tryz.func67,Tryz.ntmps67;go_upto_region 1 with fail;have M:=nd' w k e s q b 63;have ai:=(Below.refl w.heap.size w).alloc (Nat.le_refl _) (.cells #[.int .i64 k, .int .i64 e, .int .i64 s, .int .i64 q, .string b] 63);have aO:w.heap.size+1<=(w.alloc (.cells #[.int .i64 k, .int .i64 e, .int .i64 s, .int .i64 q, .string b] 63)).heap.size:=by simp
 generalize w.alloc (.cells #[.int .i64 k, .int .i64 e, .int .i64 s, .int .i64 q, .string b] 63)=bn at *;obtain⟨r,z,D,F,G⟩:=id M;go_upto_region 2 with (at_make;refine mk' rfl _ _ rfl (w.heap.size+1) _ _ _ (15+b.size) rfl rfl (by omega) (by omega) (by omega) ?_;intro aP aj ak);have I:=ac' (B:=w.heap.size+1) ak (by omega) (by simp);have ao:w.heap.size+1<=aP.heap.size:=by have:=I.size;omega
 have O:=M.below I (by omega);have ap:=ai.trans (I.mono (by omega));have Q:=y' aj;clear ak I M ai r z D F G aO aj;obtain⟨r,z,D,F,G⟩:=id O;go_upto_region 3 with (at_builtin;refine fu' rfl _ _ rfl (w.heap.size+1) _ [] k (i' Q) rfl rfl (by omega) (by omega) (by simp) (by omega) ?_;intro v3 aQ aq au);obtain⟨U,av,z3⟩:=eH' O ap (i' Q) (by omega) ao au;have V:=y' aq;clear aq au O ap Q ao r z D F G;obtain⟨r,z,D,F,G⟩:=id U;go_upto_region 4 with (go_at_call 103;refine(aF' (w.heap.size+1) e v3 _ aQ (by simp) (by omega) (by omega) (i' V)).mono ?_;rintro H bo ⟨v4,rfl,ax,ay⟩);obtain⟨X,az,z4⟩:=eH' U av (i' V) (by omega) z3 ay;have Y:=y' ax;clear ax ay U av V z3 r z D F G;obtain⟨r,z,D,F,G⟩:=id X;go_upto_region 5 with (at_builtin;refine fu' rfl _ _ rfl (w.heap.size+1) _ _ s (i' Y) rfl rfl (by omega) (by omega) (by simp[Wire.length_le4]) (by omega) ?_;intro v5 aR aA aB);obtain⟨Z,aC,z5⟩:=eH' X az (i' Y) (by omega) z4 aB;have aa:=y' aA;clear aA aB X az Y z4 r z D F G;obtain⟨r,z,D,F,G⟩:=id Z;go_upto_region 6 with (go_at_call 103;refine(aF' (w.heap.size+1) q v5 _ aR (by simp[Wire.length_le4]) (by omega) (by omega) (i' aa)).mono ?_;rintro H bp ⟨v6,rfl,aD,aE⟩);obtain⟨ab,aF,aG⟩:=eH' Z aC (i' aa) (by omega) z5 aE;have ac:=y' aD;clear aD aE Z aC aa z5 r z D F G;obtain⟨r,z,D,F,G⟩:=id ab;go_upto_region 7 with (at_builtin;refine fu' rfl _ _ rfl (w.heap.size+1) _ _ (b.size:Int) (i' ac) rfl rfl (by omega) (by omega) (by simp[Wire.length_le4]) (by omega) ?_;intro bq br aH aI);obtain⟨ad,aJ,aK⟩:=eH' ab aF (i' ac) (by omega) aG aI;have ah:=y' aH;clear aH aI ab aF ac aG r z D F G;obtain⟨r,z,D,F,G⟩:=id ad;go_upto_region 8 with (at_builtin;refine rr' rfl _ _ rfl (w.heap.size+1) _ _ (i' ah) rfl b rfl (by simp[Wire.length_le4];omega) (by omega) ?_;intro v8 aS J aL);obtain⟨aT,aU,aV⟩:=eH' ad aJ (i' ah) (by omega) aK aL;rw[uE']at J;clear aL ad aJ ah aK r z D F G aT;have aW:(Wire.front k e s q b.data.toList).length=11+b.size:=by simp[Wire.front,Wire.length_le4];omega
 obtain⟨g,cap,rfl,bt,bu,bw,bz,aM⟩:=J.addr (by omega);have aN:=y' J;have aX:=y' aM;clear J aM;have aY:(Wire.front k e s q b.data.toList).length<=1000:=by omega
 have aZ:Hid (Wire.bytes k e s q b.data.toList=Wire.front k e s q b.data.toList++Wire.le4 (Wire.sum (Wire.front k e s q b.data.toList))):=rfl;have ba:=Wire.sum_range (Wire.front k e s q b.data.toList);clear aW;generalize Wire.front k e s q b.data.toList=fr at *;go_wp2_with (first
  |(go_at_call 104;refine(nc' g 0 fr.length cap fr aS rfl (by unfold maxLen;omega) (i' aX)).mono ?_;rintro H bb ⟨rfl,rfl⟩)
  |(go_at_call 103;refine(aF' (w.heap.size+1) _ _ fr _ aY (by omega) ba.1 (i' aN)).mono ?_;rintro H bc ⟨be,rfl,bf,bg⟩))
 have bh:Below (w.heap.size+1) bb bc:=ac' bg aV (fun g bi=>((i' aN).lt g bi).1);go_ret;exact⟨be,rfl,by rw[i' aZ];exact bf,aU.trans (bh.mono (by omega))⟩
theorem ci' {k e s q:Int} {b:ByteArray} (h:Wire.proper k e s q b=true):
  (1<=k/\k<=5)/\(0<=e/\e<=2147483647)/\(0<=s/\s < 3)/\(0<=q/\q<=2147483647)/\b.size<=20:=by
 unfold Wire.proper at h;rw[Bool.and_eq_true]at h;obtain⟨r,h⟩:=h;have z:0<=e/\e<=2147483647:=by simpa[Wire.isNum]using r
 split at h
 ·simp only[Bool.and_eq_true,decide_eq_true_eq]at h;omega
 split at h
 ·simp only[Wire.welBody,Bool.and_eq_true,decide_eq_true_eq]at h;omega
 split at h
 ·simp[Wire.isStr,Wire.isNum]at h;omega
 split at h
 ·simp[Wire.isStr,Wire.isNum,Wire.ackBody]at h;omega
 ·cases h
theorem dM' (k e s q:Int) (b:ByteArray) (w:World) (r:Wire.proper k e s q b=true):
  Calls Tryz.prog 67 #[.agg #[.int .i64 k, .int .i64 e, .int .i64 s, .int .i64 q, .string b]] w fun z w'=>
   ∃v,z= .returned v/\ax' (w.heap.size+1) w' v (Wire.bytes k e s q b.data.toList)/\Below w.heap.size w w':=by
 obtain⟨h1,h2,h3,h4,h5⟩:=ci' r;exact eI' k e s q b w (by omega) (by omega) (by omega) (by omega) (by omega)
end Go.Proofs.YtamafdcnbcoegabGreat
namespace Go.Proofs.YtamafdcnbcoegabGreat
open Go.RowKit
open Wire (whole)
def cN':Value:= .agg #[.int .i64 0, .int .i64 0, .int .i64 0, .int .i64 0, .string ⟨#[]⟩]
theorem dN' {w r:World} {B:Nat} (h:Below B w r) (a b c d e:Value):
  Below B w (((((r.setCell ⟨B,0,none⟩ a).setCell ⟨B,1,none⟩ b).setCell ⟨B,2,none⟩ c).setCell ⟨B,3,none⟩ d).setCell ⟨B,4,none⟩ e):=
 ((((h.setCell (p:=⟨B,0,none⟩) (Nat.le_refl _) a).setCell (p:=⟨B,1,none⟩) (Nat.le_refl _) b).setCell (p:=⟨B,2,none⟩) (Nat.le_refl _) c).setCell (p:=⟨B,3,none⟩) (Nat.le_refl _) d).setCell (p:=⟨B,4,none⟩) (Nat.le_refl _) e
theorem nT' (z:Option Addr) (len cap:Nat) (w:World) (h:(len:Int) < 15):
  Calls Tryz.prog 69 #[.slice z len cap] w fun r w'=>r= .returned (.tuple #[cN', .int .i64 1])/\Below w.heap.size w w':=by
 go_enter Tryz.func69,Tryz.ntmps69;go_wp2_with (go_at_call 108;refine(mo' _ _ _ _ h).mono ?_;rintro r D ⟨rfl,rfl⟩);refine bodyPost_ret (v:= .tuple #[cN', .int .i64 1]) (by simp[results,Tryz.results69,go_sem,cN']) rfl ⟨rfl,?_⟩;exact(Below.refl _ _).alloc (Nat.le_refl _) _
theorem rv' (b off m cap:Nat) (l:List UInt8) (w:World) (F:l.length=m+4) (G:m+4<=maxLen) (H:m+4<=cap) (I:11<=m) (J:whole l=false)
  (r:∀i,i < m+4->w.cell? ⟨b,off+i,none⟩=some (.int .u8 (l.getD i 0).toNat)):
  Calls Tryz.prog 69 #[.slice (some ⟨b,off,none⟩) (m+4) cap] w fun z w'=>z= .returned (.tuple #[cN', .int .i64 1])/\Below w.heap.size w w':=by
 have D:=fun o=>y' (hR' b off m cap l (w.alloc o) F G H I (fun i hi=>by have:=r i hi;rw[<-this];exact World.cell?_alloc_lt _ _ _ (World.block_lt_of_cell? _ _ this)));rw[J]at D;clear r;go_enter Tryz.func69,Tryz.ntmps69;go_wp2_with (go_at_call 108;refine(i' (D _)).mono ?_;rintro z M ⟨rfl,O,rfl⟩);refine bodyPost_ret (v:= .tuple #[cN', .int .i64 1]) (by simp[results,Tryz.results69,go_sem,cN']) rfl ⟨rfl,?_⟩;exact dN' (below_drewN ((Below.refl _ _).alloc (Nat.le_refl _) _) _) _ _ _ _ _
def kH' (l:List UInt8):Value:= .agg #[.int .i64 (Wire.kindOf l), .int .i64 (Wire.epochOf l), .int .i64 (Wire.streamOf l), .int .i64 (Wire.seqOf l), .string (Wire.bodyOf l)]
theorem nU' (l:List UInt8):0<=Wire.kindOf l/\Wire.kindOf l < 256:=by
 have:=(l.getD 0 0).toNat_lt;unfold Wire.kindOf;omega
theorem kI' (l:List UInt8):0<=Wire.streamOf l/\Wire.streamOf l < 256:=by
 have:=(l.getD 5 0).toNat_lt;unfold Wire.streamOf;omega
theorem eS' {n:Int} (h:0<=n/\n < 4294967296):IntKind.i64.wrap n=n:=by rw[IntKind.wrap_i64];omega
theorem pi' (b off k cap:Nat) (w:World) (r D z F:Int) (bd:ByteArray) (aM:k+15<=9223372036854775807) (aN:k+15<=cap)
  (ai:0<=r/\r < 4294967296) (aj:0<=D/\D < 4294967296) (ak:0<=z/\z < 4294967296) (ao:0<=F/\F < 4294967296) (p:Bool) (V:Wire.proper r D z F bd=p)
  (X:∀o,Hid (Calls Tryz.prog 108 #[.slice (some ⟨b,off,none⟩) (k+15) cap] (w.alloc o) fun G w'=>G= .returned (.bool true)/\∃n,w'=(w.alloc o).drewN n))
  (Y:Hid (∀w',Below w.heap.size w w'->Below w.heap.size w w'/\w'.cell? ⟨b,off,none⟩=some (.int .u8 r)/\w'.cell? ⟨b,off+5,none⟩=some (.int .u8 z)/\
   (convert 48 9 (.slice (some ⟨b,off+11,none⟩) k (cap - 11))).run Tryz.prog w'= .ok (.string bd) w'))
  (Z:Hid (∀w',Below w.heap.size w w'->Calls Tryz.prog 109 #[.slice (some ⟨b,off+1,none⟩) (k+14) (cap - 1)] w' fun e O=>e= .returned (.int .u32 D)/\∃n,O=w'.drewN n))
  (aa:Hid (∀w',Below w.heap.size w w'->Calls Tryz.prog 109 #[.slice (some ⟨b,off+6,none⟩) (k+9) (cap - 6)] w' fun e O=>e= .returned (.int .u32 F)/\∃n,O=w'.drewN n)):
  Calls Tryz.prog 69 #[.slice (some ⟨b,off,none⟩) (k+15) cap] w fun G w'=>
   G= .returned (if p=true then .tuple #[.agg #[.int .i64 r, .int .i64 D, .int .i64 z, .int .i64 F, .string bd], .int .i64 0]else .tuple #[cN', .int .i64 1])/\Below w.heap.size w w':=by
 have Q:=fun w'=>y' (ph' r D z F bd w');rw[V]at Q;clear V;have i0:(0:Int) < (k:Int)+15:=by omega
 have i5:(5:Int) < (k:Int)+15:=by omega
 have s1:(1:Int)<=(k:Int)+15:=by omega
 have ap:(6:Int)<=(k:Int)+15:=by omega
 have aq:(11:Int)<=(k:Int)+11:=by omega
 have au:(k:Int)+11<=(cap:Int):=by omega
 have av:(4:Int)<=(k:Int)+15:=by omega
 have ax:(k:Int)+15 - 4<=(cap:Int):=by omega
 have ay:((k:Int)+11).toNat - 11=k:=by omega
 have az:((k:Int)+15 - 4).toNat - 11=k:=by omega
 have t3:(11:Int)<=max ((k:Int)+15 - 4) 0:=by omega
 have g1:IntKind.i64.wrap ((k:Int)+15 - 4)=(k:Int)+11:=by rw[IntKind.wrap_i64];omega
 have g2:IntKind.i64.wrap (((k+15:Nat):Int) - 4)=(k:Int)+11:=by rw[IntKind.wrap_i64];omega
 have ab:True:=trivial;have k1:¬cap=1:=by omega
 have k6:¬cap=6:=by omega
 have k11:¬cap=11:=by omega
 have aA:=eS' ai;have aB:=eS' aj;have aC:=eS' ak;have aD:=eS' ao;go_enter Tryz.func69,Tryz.ntmps69;go_upto_region 3 with (go_at_call 108;refine(i' (X _)).mono ?_;rintro G ac ⟨rfl,aO,rfl⟩);go_region_held3 (fun w'=>Below w.heap.size w w'/\w'.cell? ⟨b,off,none⟩=some (.int .u8 r)/\w'.cell? ⟨b,off+5,none⟩=some (.int .u8 z)/\
  (convert 48 9 (.slice (some ⟨b,off+11,none⟩) k (cap - 11))).run Tryz.prog w'= .ok (.string bd) w')
  ((refine i' Y _ ?_;repeat (first|with_reducible exact Below.refl _ _|with_reducible refine below_drewN ?_ _|with_reducible refine Below.drew ?_|with_reducible refine Below.alloc ?_ (by simp) _|with_reducible refine Below.setCell ?_ (by simp) _)))
  (first
   |(go_at_call 109;have _:=ab;refine(i' Z _ ?_).mono ?_;(focus (repeat (first|with_reducible exact Below.refl _ _|with_reducible refine below_drewN ?_ _|with_reducible refine Below.drew ?_|with_reducible refine Below.alloc ?_ (by simp) _|with_reducible refine Below.setCell ?_ (by simp) _)));clear ab;rintro G ac ⟨rfl,aE,rfl⟩)
   |(go_at_call 109;refine(i' aa _ ?_).mono ?_;(focus (repeat (first|with_reducible exact Below.refl _ _|with_reducible refine below_drewN ?_ _|with_reducible refine Below.drew ?_|with_reducible refine Below.alloc ?_ (by simp) _|with_reducible refine Below.setCell ?_ (by simp) _)));rintro G ac ⟨rfl,aE,rfl⟩))
 all_goals
  clear Y Z aa X i0 i5 s1 ap aq au av ax ay az t3 g1 g2 k1 k6 k11 aA aB aC aD;rename Below _ _ _/\ _=>hH;have J:=hH.1;clear hH
 all_goals
  go_upto_region 4 with fail
  refine H' (fun H=>jH' H w.heap.size 0 0 0 0 ⟨#[]⟩/\jH' H (w.heap.size+1) r D z F bd/\(∀i,H.frozen? ⟨w.heap.size,i,none⟩=false)/\Below w.heap.size w H/\w.heap.size+2<=H.heap.size) ⟨by constructor <;> go_simp,by constructor <;> go_simp,by intro i;go_simp,J,by simp⟩ ?_;clear J;rintro H ⟨z0,U,ad,J,aF⟩
 all_goals
  obtain⟨aG,aH,aI,aJ,aK⟩:=id U;cases p;all_goals
   go_upto_if 34 with (go_at_call 89;refine(i' (Q _)).mono ?_;rintro G aL ⟨rfl,M⟩)
   obtain⟨aP,aQ,aR,aS,aT⟩:=z0.below M (by omega);obtain⟨aU,f31,f32,aV,aW⟩:=U.below M (by omega);have I:∀i,aL.frozen? ⟨w.heap.size,i,none⟩=false:=fun i=>(M.frozen (p:=⟨w.heap.size,i,none⟩) (by simp;omega)).trans (ad i);have aX:=I 0;have aY:=I 1;have aZ:=I 2;have ba:=I 3;have bb:=I 4;have ah:=J.trans (M.mono (by omega));clear I M z0 U ad aG aH aI aJ aK Q J aF;go_wp2
  ·refine bodyPost_ret (v:= .tuple #[cN', .int .i64 1]) (by simp[results,Tryz.results69,go_sem,cN', *]) rfl ⟨rfl,?_⟩;exact dN' ah _ _ _ _ _
  ·refine bodyPost_ret (v:= .tuple #[.agg #[.int .i64 r, .int .i64 D, .int .i64 z, .int .i64 F, .string bd], .int .i64 0]) (by simp[results,Tryz.results69,go_sem, *]) rfl ⟨rfl,?_⟩;exact dN' ah _ _ _ _ _
def ab' (w:World) (v:Value) (l:List UInt8):Prop:=
 ∃r cap,v= .slice r l.length cap/\l.length<=cap/\l.length<=9223372036854775807/\
  (0 < l.length->∃b off,r=some ⟨b,off,none⟩/\∀i,i < l.length->w.cell? ⟨b,off+i,none⟩=some (.int .u8 (l.getD i 0).toNat))
theorem ax'.at {B:Nat} {w:World} {v:Value} {l:List UInt8} (h:ax' B w v l):ab' w v l:=by
 by_cases h0:0 < l.length
 ·obtain⟨g,cap,rfl,_,_,h1,h2,h3⟩:=h.addr h0;exact⟨_,cap,rfl,h1,by unfold maxLen at h2;omega,fun _=>⟨g,0,rfl,h3⟩⟩
 ·obtain⟨r,cap,rfl,h1⟩:=h.shape;exact⟨r,cap,rfl,h1,by omega,fun h=>absurd h h0⟩
theorem ab'.below {w w':World} {v:Value} {l:List UInt8} (h:ab' w v l) (z:Below w.heap.size w w'):ab' w' v l:=by
 obtain⟨D,cap,rfl,h1,h2,h3⟩:=h;refine⟨D,cap,rfl,h1,h2,fun h0=>?_⟩;obtain⟨b,off,rfl,r⟩:=h3 h0;exact⟨b,off,rfl,fun i hi=>(z.cell (p:=⟨b,off+i,none⟩) (World.block_lt_of_cell? _ ⟨b,off+i,none⟩ (r i hi))).trans (r i hi)⟩
theorem cB' (v:Value) (l:List UInt8) (w:World) (h:ab' w v l):
  Calls Tryz.prog 69 #[v] w fun J w'=>J= .returned (if Wire.reads l=true then .tuple #[kH' l, .int .i64 0]else .tuple #[cN', .int .i64 1])/\Below w.heap.size w w':=by
 obtain⟨M,cap,rfl,D,H,z⟩:=h;by_cases U:l.length < 15
 ·have:Wire.reads l=false:=by unfold Wire.reads whole;rw[decide_eq_false (by omega)];simp
  rw[this];exact nT' M l.length cap w (by omega)
 ·obtain⟨b,off,rfl,I⟩:=z (by omega);clear z;have z:=I;clear I;obtain⟨k,F⟩:∃k,l.length=k+15:=⟨l.length - 15,by omega⟩;rw[F]at D H z;rw[F];cases G:whole l
  ·have:Wire.reads l=false:=by unfold Wire.reads;rw[G];simp
   rw[this];exact rv' b off (k+11) cap l w F (by unfold maxLen;omega) D (by omega) G z
  ·have O:Wire.reads l=Wire.proper (Wire.kindOf l) (Wire.epochOf l) (Wire.streamOf l) (Wire.seqOf l) (Wire.bodyOf l):=by unfold Wire.reads;rw[G];simp
   rw[O];have Q:b < w.heap.size:=World.block_lt_of_cell? _ _ (z 0 (by omega));have r:∀w',Below w.heap.size w w'->∀i,i < k+15->w'.cell? ⟨b,off+i,none⟩=some (.int .u8 (l.getD i 0).toNat):=fun w' h i hi=>(h.cell (p:=⟨b,off+i,none⟩) Q).trans (z i hi);have k1:=nU' l;have k3:=kI' l;refine pi' b off k cap w (Wire.kindOf l) (Wire.epochOf l) (Wire.streamOf l) (Wire.seqOf l) (Wire.bodyOf l) H D ⟨k1.1,by omega⟩ (Wire.numAt_range l 1) ⟨k3.1,by omega⟩ (Wire.numAt_range l 6) _ rfl ?_ ?_ ?_ ?_
   ·intro o;have:=hR' b off (k+11) cap l (w.alloc o) F (by unfold maxLen;omega) D (by omega) (fun i hi=>by have:=z i hi;rw[<-this];exact World.cell?_alloc_lt _ _ _ (World.block_lt_of_cell? _ _ this));rw[G]at this;exact this
   ·intro w' h;refine⟨h,r w' h 0 (by omega),r w' h 5 (by omega),fv' (l:=(l.take (l.length - 4)).drop 11) (by simp;omega) (fun i hi=>?_)⟩;rw[Nat.add_assoc,r w' h (11+i) (by omega)];simp only[List.getD_eq_getElem?_getD,List.getElem?_drop,List.getElem?_take];rw[if_pos (by omega)]
   ·intro w' h;exact dA' b (off+1) (k+14) (cap - 1) _ _ _ _ w' (by omega) (r w' h 1 (by omega)) (r w' h 2 (by omega)) (r w' h 3 (by omega)) (r w' h 4 (by omega))
   ·intro w' h;exact dA' b (off+6) (k+9) (cap - 6) _ _ _ _ w' (by omega) (r w' h 6 (by omega)) (r w' h 7 (by omega)) (r w' h 8 (by omega)) (r w' h 9 (by omega))
theorem gQ' (v:Value) (a b c d e:Int) (s:ByteArray) (w:World)
  (F:∀o,Hid (Calls Tryz.prog 69 #[v] (w.alloc o) fun z w'=>z= .returned (.tuple #[.agg #[.int .i64 a, .int .i64 b, .int .i64 c, .int .i64 d, .string s], .int .i64 e])/\Below (w.alloc o).heap.size (w.alloc o) w')):
  Calls Tryz.prog 64 #[v] w fun z w'=>z= .returned (.tuple #[.agg #[.int .i64 a, .int .i64 b, .int .i64 c, .int .i64 d, .string s], .int .i64 e])/\Below w.heap.size w w':=by
 go_enter Tryz.func64,Tryz.ntmps64;go_upto_region 1 with fail;go_wp2_with (go_at_call 69;refine(i' (F _)).mono ?_;rintro z G ⟨rfl,D⟩;obtain⟨z0,I,J,z3,z4⟩:=(nd' w 0 0 0 0 ⟨#[]⟩ 63).below D (by simp);have r:∀i,G.frozen? ⟨w.heap.size,i,none⟩=false:=fun i=>(D.frozen (p:=⟨w.heap.size,i,none⟩) (by simp)).trans (by simp);have M:=r 0;have O:=r 1;have Q:=r 2;have U:=r 3;have V:=r 4;have H:=((Below.refl w.heap.size w).alloc (Nat.le_refl _) (.cells #[.int .i64 0, .int .i64 0, .int .i64 0, .int .i64 0, .string ⟨#[]⟩] 63)).trans (D.mono (by simp));clear r D);refine bodyPost_ret (v:= .tuple #[.agg #[.int .i64 a, .int .i64 b, .int .i64 c, .int .i64 d, .string s], .int .i64 e]) (by simp[results,Tryz.results64,go_sem, *]) rfl ⟨rfl,?_⟩;exact dN' H _ _ _ _ _
theorem gR' (v:Value) (l:List UInt8) (w:World) (h:ab' w v l):
  Calls Tryz.prog 64 #[v] w fun z w'=>z= .returned (if Wire.reads l=true then .tuple #[kH' l, .int .i64 0]else .tuple #[cN', .int .i64 1])/\Below w.heap.size w w':=by
 have r:=fun o=>y' (cB' v l (w.alloc o) (h.below ((Below.refl _ _).alloc (Nat.le_refl _) _)));clear h;cases D:Wire.reads l;all_goals
  simp only[D,if_true,if_false,Bool.false_eq_true]at r ⊢;exact gQ' v _ _ _ _ _ _ w r
end Go.Proofs.YtamafdcnbcoegabGreat
namespace Go.Proofs.YtamafdcnbcoegabGreat
open Go.RowKit
theorem mp' {F:Array Oper} {rest:List Oper} {o:Oper} {a:Act} {G:Exit->Act->World->Prop} {w:World} (M:o.guard=none) (d s:Operand)
  (O:o.op= .call {callee:= .builtin .copy,args:= #[d,s],argTypes:= #[48,48]}) (B g cap:Nat) (Q l:List UInt8) (v:Value)
  (U:ax' B w (.slice (some ⟨g,0,none⟩) l.length cap) Q) (hd:a.eval d= .slice (some ⟨g,0,none⟩) l.length cap) (V:ab' w v l) (hl:0 < l.length) (hs:a.eval s=v)
  (h:∀w',ax' B w' (.slice (some ⟨g,0,none⟩) l.length cap) l->w.grownBy w' (some g)->wpList Tryz.prog F G rest (a.put o.dst (.int .i64 l.length)) w'):
  wpList Tryz.prog F G (o::rest) a w:=by
 obtain⟨ai,X,rfl,aj,ak,Y⟩:=V;obtain⟨b,off,rfl,H⟩:=Y hl;obtain⟨h1,h2⟩:=U;rcases h2 with ⟨h2,_⟩|⟨g',ao,z,e,Z,I,ap,aa,ab,aq⟩
 ·cases h2
 injection e with r au ac;injection r with r;injection r with r;subst r ac;obtain⟨i0,hi,av,ad,ax⟩:=info_parts kE';have ay:z.size=cap:=by simpa using ab
 refine wpList_copy_own M d s 48 48 O 5 Tryz.underlying48 (by rw[hi];simp[ad]) g 0 l.length cap ⟨b,off,none⟩ l.length X hd hs z 5 I (bv l) (by rw[ap'];simp) ?_ ?_ (cA' l) ?_
 ·intro j u hj;have D:j < l.length:=by have:=(List.getElem?_eq_some_iff.1 hj).1;rw[ap']at this;exact this
  rw[iW' D]at hj;cases hj;by_cases J:j=0
  ·subst J;simpa[Addr.add]using H 0 D
  ·simpa[Addr.add,J]using H j D
 ·rw[ap'];omega
 ·rw[ap'];refine h _ ⟨by rw[ap'];omega, .inr ⟨g,cap,_,rfl,Z,setRow_heap w g z _ 5 _ I,by omega,aa,?_,?_⟩⟩ ⟨rfl,rfl,rfl,by simp[World.setRow],fun k _ ah=>setRow_other w g k _ (fun e=>ah (by rw[e]))⟩
  ·simp[ap'];omega
  ·simp[ap']
theorem eT' {r:Array Oper} {rest:List Oper} {o:Oper} {a:Act} {z:Exit->Act->World->Prop} {w:World} (G:o.guard=none) (l c:Operand)
  (H:o.op=Op.makeSlice 48 l c) (B:Nat) (D F:IntKind) (L C:Int) (n:Nat) (hl:a.eval l= .int D L) (I:a.eval c= .int F C) (J:L=(n:Int)) (M:C=(n:Int)) (X:n<=281474976710656) (O:B<=w.heap.size)
  (h:∀w',ax' B w' (.slice (some ⟨w.heap.size,0,none⟩) n n) (List.replicate n 0)->w.grownBy w' none->wpList Tryz.prog r z rest (a.put o.dst (.slice (some ⟨w.heap.size,0,none⟩) n n)) w'):
  wpList Tryz.prog r z (o::rest) a w:=by
 obtain⟨i0,hi,Q,U,V⟩:=info_parts kE';refine wpList_make_full (P:=Tryz.prog) w G l c 48 H B 5 i0 (.int .u8 0) 1 Tryz.underlying48 hi Q U D F L C n hl I J M (by rw[V];omega) (by unfold maxLen;omega) O ?_;intro w' h1 h2;refine h w' ?_ h2;unfold ax';have e:bv (List.replicate n 0)=(madeCells (Value.int .u8 0).cells (n * 1)).toList:=by show _=(madeCells #[Value.int .u8 0] (n * 1)).toList;rw[toList_madeCells_one,Nat.mul_one];simp[bv]
 rw[e,List.length_replicate];exact h1
theorem gS' (w:World) (s:ByteArray) (hs:s.size<=140737488355328):
  ∃v w',(convert 9 48 (.string s)).run Tryz.prog w= .ok v w'/\ab' w' v s.data.toList/\Below w.heap.size w w':=by
 refine⟨_,_,run_bytes_of_string w 9 48 5 s Tryz.underlying9 Tryz.underlying48 Tryz.underlying5,?_,?_⟩
 ·have hl:s.data.toList.length=s.size:=by simp
  refine⟨_,_,by rw[hl],by rw[hl];exact grownCap_ge w s.size 0 5,by omega,fun _=>⟨w.heap.size,0,rfl,fun i hi=>?_⟩⟩;rw[hl]at hi;generalize z:bytesRow s (grownCap w s.size 0 5)=C;have D:(w.drew.alloc (.cells C 5 (C.size,C.size+1))).cell? ⟨w.heap.size,0+i,none⟩=C[0+i]? :=by
   unfold World.cell?;have:(w.drew.alloc (.cells C 5 (C.size,C.size+1))).heap[w.heap.size]? =some (.cells C 5 (C.size,C.size+1)):=by show(w.heap.push _)[w.heap.size]? = _;simp
   rw[this];rfl
  rw[D,<-z,Nat.zero_add];have r:i < s.data.size:=hi;unfold bytesRow;rw[Array.getElem?_append_left (by simpa using r)];have F:s.data[i]? =some s.data[i]:=Array.getElem?_eq_getElem r;simp[F]
 ·exact((Below.refl _ _).drew).alloc (Nat.le_refl _) _
end Go.Proofs.YtamafdcnbcoegabGreat
