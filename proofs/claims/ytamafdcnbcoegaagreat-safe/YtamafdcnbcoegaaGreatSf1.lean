/-
  Part 1 of a proof: Wire, Wire2, D1, Bs, W1, W2, W3, W4, W5, W6, W7.
-/
import Derived.Below
import Derived.Test.YtamafdcnbcoegaaGreatRows
import Derived.WalkKit
import Derived.WalkSpells
import Derived.WalkLawsBesides
import Derived.Deep.QuietTactic
import Derived.BigQuiet
import Derived.Lib.EndianBits
import Derived.Lib.AppendStr
import Derived.Deep.Cut
import Derived.Deep.CutRange
import Derived.Deep.CutBlock
import Derived.Deep.RegionHeld3
import Derived.Laws.ResultCell
import Derived.Laws.CopyOwn
import Derived.Laws.IdiomStrings
set_option maxRecDepth 100000
set_option maxHeartbeats 40000000
namespace Go.Proofs.YtamafdcnbcoegaaGreat
namespace Wire
def isNum (n:Int):Bool:=decide (0<=n) &&decide (n<=2147483647)
def isStr (n:Int):Bool:=decide (0<=n) &&decide (n < 3)
def sumStep (s:Int) (c:UInt8):Int:=(s * 31+(c.toNat:Int)) % 4294967296
def sum (l:List UInt8):Int:=l.foldl sumStep 7
theorem sumStep_range (s:Int) (c:UInt8):0<=sumStep s c/\sumStep s c < 4294967296:=by
 unfold sumStep;omega
theorem foldl_range (l:List UInt8) (s:Int) (h:0<=s/\s < 4294967296):0<=l.foldl sumStep s/\l.foldl sumStep s < 4294967296:=by
 induction l generalizing s with
 |nil=>exact h
 |cons c l ih=>exact ih _ (sumStep_range s c)
theorem sum_range (l:List UInt8):0<=sum l/\sum l < 4294967296:=foldl_range l 7 (by omega)
theorem sum_snoc (l:List UInt8) (c:UInt8):sum (l++[c])=sumStep (sum l) c:=by simp[sum]
theorem sum_take (l:List UInt8) (k:Nat) (h:k < l.length):sum (l.take (k+1))=sumStep (sum (l.take k)) (l.getD k 0):=by
 rw[List.take_succ_eq_append_getElem h,sum_snoc];simp[List.getD,h]
def num4 (c0 c1 c2 c3:UInt8):Int:=(c0.toNat:Int)+(c1.toNat:Int) * 256+(c2.toNat:Int) * 65536+(c3.toNat:Int) * 16777216
def numAt (l:List UInt8) (i:Nat):Int:=num4 (l.getD i 0) (l.getD (i+1) 0) (l.getD (i+2) 0) (l.getD (i+3) 0)
def le4 (n:Int):List UInt8:=[UInt8.ofNat (n.toNat % 256),UInt8.ofNat (n.toNat / 256 % 256),UInt8.ofNat (n.toNat / 65536 % 256),UInt8.ofNat (n.toNat / 16777216 % 256)]
theorem num4_range (c0 c1 c2 c3:UInt8):0<=num4 c0 c1 c2 c3/\num4 c0 c1 c2 c3 < 4294967296:=by
 have:=c0.toNat_lt;have:=c1.toNat_lt;have:=c2.toNat_lt;have:=c3.toNat_lt;unfold num4;omega
theorem numAt_range (l:List UInt8) (i:Nat):0<=numAt l i/\numAt l i < 4294967296:=num4_range _ _ _ _
theorem length_le4 (n:Int):(le4 n).length=4:=rfl
def welBody (b:ByteArray):Bool:=decide (b.size=12) && (decide (numAt b.data.toList 0<=2147483647) && (decide (numAt b.data.toList 4<=2147483647) &&decide (numAt b.data.toList 8<=2147483647)))
def ackBody (b:ByteArray):Bool:=decide (b.size=1) &&decide ((b.data.toList.getD 0 0).toNat<=7)
def proper (k e s q:Int) (b:ByteArray):Bool:=
 isNum e&& (if k=1\/k=5 then decide (s=0) && (decide (q=0) &&decide (b.size=0))
 else if k=2 then decide (s=0) && (decide (q=0) &&welBody b)
 else if k=3 then isStr s&& (decide (q≠0) && (isNum q&&decide (b.size<=20)))
 else if k=4 then isStr s&& (isNum q&&ackBody b)
 else false)
def front (k e s q:Int) (b:List UInt8):List UInt8:=
 [UInt8.ofNat (k.toNat % 256)]++le4 e++[UInt8.ofNat (s.toNat % 256)]++le4 q++[UInt8.ofNat (b.length % 256)]++b
def bytes (k e s q:Int) (b:List UInt8):List UInt8:=front k e s q b++le4 (sum (front k e s q b))
def whole (l:List UInt8):Bool:=
 decide (15<=l.length) && (decide (l.length=15+(l.getD 10 0).toNat) &&decide (numAt l (l.length - 4)=sum (l.take (l.length - 4))))
def kindOf (l:List UInt8):Int:=(l.getD 0 0).toNat
def epochOf (l:List UInt8):Int:=numAt l 1
def streamOf (l:List UInt8):Int:=(l.getD 5 0).toNat
def seqOf (l:List UInt8):Int:=numAt l 6
def bodyOf (l:List UInt8):ByteArray:=⟨((l.take (l.length - 4)).drop 11).toArray⟩
def reads (l:List UInt8):Bool:=whole l&&proper (kindOf l) (epochOf l) (streamOf l) (seqOf l) (bodyOf l)
end Wire
namespace Wire
theorem num4_le4 {n:Int} (h0:0<=n) (h1:n < 4294967296):
  num4 (UInt8.ofNat (n.toNat % 256)) (UInt8.ofNat (n.toNat / 256 % 256)) (UInt8.ofNat (n.toNat / 65536 % 256)) (UInt8.ofNat (n.toNat / 16777216 % 256))=n:=by
 unfold num4;simp;omega
theorem length_front (k e s q:Int) (b:List UInt8):(front k e s q b).length=11+b.length:=by
 simp[front,length_le4];omega
theorem length_bytes (k e s q:Int) (b:List UInt8):(bytes k e s q b).length=15+b.length:=by
 simp[bytes,length_front,length_le4];omega
theorem at10_bytes (k e s q:Int) (b:List UInt8) (f:b.length < 256):((bytes k e s q b).getD 10 0).toNat=b.length:=by
 simp[bytes,front,le4];omega
theorem parts_bytes {k e s q:Int} {b:ByteArray} (H:0<=k/\k < 256) (r:0<=e/\e < 4294967296) (hs:0<=s/\s < 256) (u:0<=q/\q < 4294967296) (I:b.size < 256):
  whole (bytes k e s q b.data.toList)=true/\kindOf (bytes k e s q b.data.toList)=k/\epochOf (bytes k e s q b.data.toList)=e/\streamOf (bytes k e s q b.data.toList)=s/\
   seqOf (bytes k e s q b.data.toList)=q/\bodyOf (bytes k e s q b.data.toList)=b:=by
 have J:b.data.toList.length=b.size:=by simp
 have hl:=length_bytes k e s q b.data.toList;have M:=length_front k e s q b.data.toList;have z:(bytes k e s q b.data.toList).take ((bytes k e s q b.data.toList).length - 4)=front k e s q b.data.toList:=by rw[hl];unfold bytes;rw[List.take_append_of_le_length (by omega),List.take_of_length_le (by omega)]
 have D:=sum_range (front k e s q b.data.toList);refine⟨?_,?_,?_,?_,?_,?_⟩
 ·unfold whole;have F:numAt (bytes k e s q b.data.toList) ((bytes k e s q b.data.toList).length - 4)=sum (front k e s q b.data.toList):=by
   have G:(bytes k e s q b.data.toList).length - 4=(front k e s q b.data.toList).length:=by omega
   rw[G];unfold numAt bytes;generalize front k e s q b.data.toList=f at *;have g:∀i,(f++le4 (sum f)).getD (f.length+i) 0=(le4 (sum f)).getD i 0:=by intro i;rw[List.getD_eq_getElem?_getD,List.getD_eq_getElem?_getD,List.getElem?_append_right (by omega)];congr 2;omega
   have g0:=g 0;rw[Nat.add_zero]at g0;rw[g0,g 1,g 2,g 3];exact num4_le4 D.1 D.2
  rw[z,F,at10_bytes k e s q _ (by omega)];simp[hl]
 ·simp[kindOf,bytes,front];omega
 ·have:=num4_le4 r.1 r.2;simpa[epochOf,numAt,bytes,front,le4]using this
 ·simp[streamOf,bytes,front,le4];omega
 ·have:=num4_le4 u.1 u.2;simpa[seqOf,numAt,bytes,front,le4]using this
 ·unfold bodyOf;rw[z];apply ByteArray.ext;simp[front,le4]
end Wire
namespace Mod
def stampB (o c:Nat):List UInt8:=Wire.le4 (o:Int)++Wire.le4 ((c % 4294967296:Nat):Int)++Wire.le4 ((c / 4294967296:Nat):Int)
theorem length_stampB (o c:Nat):(stampB o c).length=12:=rfl
def sealB (o c:Nat) (inside:List UInt8):List UInt8:=stampB o c++(inside++List.replicate (40 - inside.length) 0)++stampB o c
theorem length_sealB (o c:Nat) {inside:List UInt8} (h:inside.length<=40):(sealB o c inside).length=64:=by
 simp[sealB,length_stampB];omega
def headIn (a b c:Nat):List UInt8:=Wire.le4 (a:Int)++Wire.le4 (b:Int)++Wire.le4 (c:Int)
theorem length_headIn (a b c:Nat):(headIn a b c).length=12:=rfl
def recIn (st q:Nat) (b:List UInt8):List UInt8:=[UInt8.ofNat (st % 256),UInt8.ofNat (b.length % 256)]++Wire.le4 (q:Int)++b
theorem length_recIn (st q:Nat) (b:List UInt8):(recIn st q b).length=6+b.length:=by simp[recIn,Wire.length_le4];omega
def setSec (l:List UInt8) (k:Nat) (s:List UInt8):List UInt8:=l.take (64 * k)++s++l.drop (64 * k+64)
theorem length_setSec {l s:List UInt8} {k:Nat} (hs:s.length=64) (f:64 * k+64<=l.length):(setSec l k s).length=l.length:=by
 simp[setSec,hs];omega
structure Dk where
 bytes:List UInt8
 armed:Nat
 dead:Bool
def Dk.put (d:Dk) (k:Nat) (s:List UInt8):Int×Dk:=
 if d.dead=true then(3,d)else if d.armed=1 then(4,{d with dead:=true})else(0,{bytes:=setSec d.bytes k s,armed:=d.armed - 1,dead:=false})
structure Stv where
 opening:Nat
 count:Nat
 head:Nat
 dk:Dk
def Stv.next (s:Stv):Nat:=(s.count+1) % 18446744073709551616
def Stv.putNumbers (s:Stv) (a b c:Nat):Int×Stv:=
 ((s.dk.put (1 - s.head) (sealB s.opening s.next (headIn a b c))).1,{s with head:=1 - s.head,count:=s.next,dk:=(s.dk.put (1 - s.head) (sealB s.opening s.next (headIn a b c))).2})
def Stv.putRecord (s:Stv) (f st q:Nat) (b:List UInt8):Int×Stv:=
 ((s.dk.put (2+f) (sealB s.opening s.next (recIn st q b))).1,{s with count:=s.next,dk:=(s.dk.put (2+f) (sealB s.opening s.next (recIn st q b))).2})
end Mod
end Go.Proofs.YtamafdcnbcoegaaGreat
namespace Go.Proofs.YtamafdcnbcoegaaGreat
open Go.RowKit
theorem t' {p:Prop} (h:p):Hid p:=h
theorem i' {p:Prop} (h:Hid p):p:=h
theorem bt' {a b:Bool} (h:a=b):Ending.returned (.bool a)=Ending.returned (.bool b):=by rw[h]
theorem ry' {k:IntKind} {a b:Int} (h:a=b):Ending.returned (.int k a)=Ending.returned (.int k b):=by rw[h]
theorem ob' {w:World} {a:Addr} {v:Value} (n:Nat) (h:w.cell? a=some v):(w.drewN n).cell? a=some v:=h
def bv (l:List UInt8):List Value:=l.map fun c=> .int .u8 c.toNat
theorem fN' (l m:List UInt8):bv (l++m)=bv l++bv m:=by simp[bv]
theorem am' (l:List UInt8):(bv l).length=l.length:=by simp[bv]
theorem iq' {l:List UInt8} {i:Nat} (h:i < l.length):(bv l)[i]? =some (.int .u8 (l.getD i 0).toNat):=by
 simp[bv,h]
theorem cq' (l:List UInt8):∀f∈bv l,f.oneCell'=true:=by
 intro f hu;simp only[bv,List.mem_map]at hu;obtain⟨c,_,rfl⟩:=hu;rfl
theorem vD' {n:Int} (h0:0<=n):bv (Wire.le4 n)=[.int .u8 (n % 256), .int .u8 (n / 256 % 256), .int .u8 (n / 65536 % 256), .int .u8 (n / 16777216 % 256)]:=by
 obtain⟨m,rfl⟩:=Int.eq_ofNat_of_zero_le h0;simp[bv,Wire.le4]
theorem uE' {n:Int} (h0:0<=n) (h1:n < 256):bv [UInt8.ofNat (n.toNat % 256)]=[.int .u8 n]:=by
 obtain⟨m,rfl⟩:=Int.eq_ofNat_of_zero_le h0;have:m % 256=m:=by omega
 simp[bv,this]
theorem sZ' (s:ByteArray):Lib.strCells s=bv s.data.toList:=rfl
theorem jS':(Tryz.prog.info? 5).map (fun i=>(i.zero,i.size,i.bytes))=some (some (.int .u8 0),1,1):=by kernel_rfl
theorem bP' {w:World} {l:List Value} {e:TypeId}:∀j f,l[j]? =some f->(w.alloc (.cells l.toArray e)).cell? ((⟨w.heap.size,0,none⟩:Addr).add j)=some f:=by
 intro j f h;by_cases hj:j=0
 ·subst hj;simpa[Addr.add]using h
 ·simpa[Addr.add,hj]using h
def as' (B:Nat) (w:World) (v:Value) (l:List UInt8):Prop:=w.ownsRow B 5 1 v l.length (bv l)
theorem as'.alloc {B:Nat} {w:World} {v:Value} {l:List UInt8} (h:as' B w v l) (o:Obj):as' B (w.alloc o) v l:=World.ownsRow.alloc h o
theorem gL' (B:Nat) (w:World):as' B w (.slice none 0 0) []:=World.ownsRow_nil _ _ _ _
theorem as'.mono {B B':Nat} {w:World} {v:Value} {l:List UInt8} (h:as' B w v l) (u:B'<=B):as' B' w v l:=by
 obtain⟨h1,h2⟩:=h;refine⟨h1,?_⟩;rcases h2 with h2|⟨g,cap,f,e,z,r⟩
 ·exact .inl h2
 ·exact .inr ⟨g,cap,f,e,by omega,r⟩
theorem as'.below {B C:Nat} {w w':World} {v:Value} {l:List UInt8} (h:as' B w v l) (f:Below C w w') (r:∀g,v.ownBlock=some g->g < C):as' B w' v l:=by
 obtain⟨h1,h2⟩:=h;refine⟨h1,?_⟩;rcases h2 with h2|⟨g,cap,u,e,z,D,F⟩
 ·exact .inl h2
 ·subst e;exact .inr ⟨g,cap,u,rfl,z,by rw[f.block g (r g rfl)];exact D,F⟩
theorem as'.lt {B:Nat} {w:World} {v:Value} {l:List UInt8} (h:as' B w v l):∀g,v.ownBlock=some g->B<=g/\g < w.heap.size:=World.ownsRow.lt h
theorem as'.addr {B:Nat} {w:World} {v:Value} {l:List UInt8} (h:as' B w v l) (hl:0 < l.length):
  ∃g cap,v= .slice (some ⟨g,0,none⟩) l.length cap/\B<=g/\g < w.heap.size/\l.length<=cap/\cap<=maxLen/\∀i,i < l.length->w.cell? ⟨g,0+i,none⟩=some (.int .u8 (l.getD i 0).toNat):=by
 have h0:=h;obtain⟨h1,h2⟩:=h;rcases h2 with ⟨_,h2⟩|⟨g,cap,D,e,f,r,u,z,_,F⟩
 ·omega
 ·subst e;refine⟨g,cap,rfl,f,lt_of_block r,u,z,fun i hi=>?_⟩;have:=World.ownsRow.cellAt h0 i (by omega);rw[Nat.zero_add,this,iq' hi]
theorem as'.shape {B:Nat} {w:World} {v:Value} {l:List UInt8} (h:as' B w v l):∃f cap,v= .slice f l.length cap/\l.length<=cap:=by
 obtain⟨h1,h2⟩:=h;rcases h2 with ⟨e,h2⟩|⟨g,cap,u,e,z,D,r,F,_,G⟩
 ·exact⟨none,0,by rw[h2];exact e,by omega⟩
 ·exact⟨_,cap,e,r⟩
theorem X' {B:Nat} {w w':World} {row:Option Nat} (f:w.grownBy w' row) (r:B<=w.heap.size) (u:∀k,row=some k->B<=k):Below B w w':=
 (Below.refl B w).grown f r u
theorem gM' {z:Array Oper} {rest:List Oper} {o:Oper} {a:Act} {D:Exit->Act->World->Prop} {w:World} (G:o.guard=none) (s x:Operand)
  (H:o.op= .call {callee:= .builtin .append,args:= #[s,x],argTypes:= #[44,44]}) (B:Nat) (v:Value) (l:List UInt8) (I:as' B w v l) (hs:a.eval s=v)
  (u:Addr) (m c:Nat) (f:List UInt8) (J:a.eval x= .slice (some u) m c) (hl:f.length=m) (M:∀j F,(bv f)[j]? =some F->w.cell? (u.add j)=some F)
  (X:l.length+m<=140737488355328) (O:B<=w.heap.size)
  (h:∀r w',as' B w' r (l++f)->w.grownBy w' v.ownBlock->wpList Tryz.prog z D rest (a.put o.dst r) w'):wpList Tryz.prog z D (o::rest) a w:=by
 obtain⟨i0,hi,Q,U,V⟩:=info_parts jS';refine wpList_append_own (P:=Tryz.prog) _ G s x 44 H B 5 i0 (.int .u8 0) 1 1 Tryz.underlying44 hi Q U V rfl (by decide) v l.length (bv l) hs I u m c (bv f) J
  (by rw[am',hl];omega) M (cq' f) (by unfold maxLen;omega) (by omega) O ?_
 intro r w' h1 h2 _;refine h r w' ?_ h2;unfold as';rw[fN',List.length_append,hl];exact h1
theorem ff' {r:Array Oper} {rest:List Oper} {o:Oper} {a:Act} {u:Exit->Act->World->Prop} {w:World} (z:o.guard=none) (s x:Operand)
  (D:o.op= .call {callee:= .builtin .append,args:= #[s,x],argTypes:= #[44,44]}) (B:Nat) (v:Value) (l:List UInt8) (n:Int) (F:as' B w v l) (hs:a.eval s=v)
  (G:a.eval x= .slice (some ⟨w.heap.size,0,none⟩) 1 1) (h0:0<=n) (h1:n < 256)
  (H:l.length+1<=140737488355328) (M:B<=w.heap.size)
  (h:∀f w',as' B w' f (l++[UInt8.ofNat (n.toNat % 256)])->w.grownBy w' v.ownBlock->wpList Tryz.prog r u rest (a.put o.dst f) w'):
  wpList Tryz.prog r u (o::rest) a (w.alloc (.cells #[.int .u8 n] 5)):=by
 refine gM' (w:=w.alloc (.cells #[.int .u8 n] 5)) z s x D B v l (F.alloc _) hs ⟨w.heap.size,0,none⟩ 1 1 [UInt8.ofNat (n.toNat % 256)] G rfl
  (by rw[uE' h0 h1];exact bP') H (by simp;omega) ?_
 intro f w' h2 h3;refine h f w' h2 ⟨h3.os,h3.tape,h3.output,by have:=h3.size;simp at this;omega,fun k I J=>?_⟩;rw[h3.block k (by simp;omega) J];exact Below.heap_alloc _ _ _ I
theorem ql' {u:Array Oper} {rest:List Oper} {o:Oper} {a:Act} {z:Exit->Act->World->Prop} {w:World} (D:o.guard=none) (s x:Operand)
  (F:o.op= .call {callee:= .builtin .append,args:= #[s,x],argTypes:= #[44,9]}) (B:Nat) (v:Value) (l:List UInt8) (G:as' B w v l) (hs:a.eval s=v)
  (f:ByteArray) (H:a.eval x= .string f) (I:l.length+f.size<=140737488355328) (J:B<=w.heap.size)
  (h:∀r w',as' B w' r (l++f.data.toList)->w.grownBy w' v.ownBlock->wpList Tryz.prog u z rest (a.put o.dst r) w'):wpList Tryz.prog u z (o::rest) a w:=by
 obtain⟨i0,hi,M,O,Q⟩:=info_parts jS';obtain⟨r,w',U,h1,h2,_⟩:=Lib.run_append_own_string (P:=Tryz.prog) w B 44 9 o.type 5 i0 Tryz.underlying44 Tryz.underlying9 hi M O Q v l.length (bv l) G f
  (by unfold maxLen;omega) I J
 refine wpList_plain D fun K V=>?_;unfold Oper.wp execOp;simp only[F,resolve,invoke,builtin,Sem.run_bind,Sem.run_pure,Result.andThen_ok,List.map_toArray,List.map_cons,List.map_nil,hs,H,U];refine V _ _ (h r w' ?_ h2);unfold as';rw[fN',List.length_append,<-sZ'];have:f.data.toList.length=f.size:=by simp
 rw[this];exact h1
theorem ly' {f:Array Oper} {rest:List Oper} {o:Oper} {a:Act} {r:Exit->Act->World->Prop} {w:World} (D:o.guard=none) (l c:Operand)
  (F:o.op=Op.makeSlice 44 l c) (B:Nat) (u z:IntKind) (C:Int) (n:Nat) (hl:a.eval l= .int u 0) (G:a.eval c= .int z C) (H:C=(n:Int)) (Q:n<=140737488355328) (I:B<=w.heap.size)
  (h:∀w',as' B w' (.slice (some ⟨w.heap.size,0,none⟩) 0 n) []->w.grownBy w' none->wpList Tryz.prog f r rest (a.put o.dst (.slice (some ⟨w.heap.size,0,none⟩) 0 n)) w'):
  wpList Tryz.prog f r (o::rest) a w:=by
 obtain⟨i0,hi,J,M,O⟩:=info_parts jS';exact wpList_make_own (P:=Tryz.prog) w D l c 44 F B 5 i0 (.int .u8 0) 1 Tryz.underlying44 hi J M u z C n hl G H (by rw[O];omega) (by unfold maxLen;omega) I h
theorem C' {P:Program} {c:Code} {f:Exit->Act->World->Prop} {a:Act} {w:World} (R:World->Prop) (h:R w) (k:∀w,R w->c.wp P f a w):c.wp P f a w:=k w h
theorem fg' {w:World} {b off n cap:Nat} {l:List UInt8} (hl:l.length=n) (f:∀i,i < n->w.cell? ⟨b,off+i,none⟩=some (.int .u8 (l.getD i 0).toNat)):
  (convert 44 9 (.slice (some ⟨b,off,none⟩) n cap)).run Tryz.prog w= .ok (.string ⟨l.toArray⟩) w:=by
 have h:=run_convert_bytes_arg (P:=Tryz.prog) w 44 5 Tryz.underlying44 Tryz.underlying5 b off n cap (l.map fun c=>(c.toNat:Int)) (by simp[hl])
  (fun i hi=>by rw[f i hi];simp[List.getD_eq_getElem?_getD,List.getElem?_map];cases h:l[i]? <;> simp) 9 Tryz.underlying9
 have e:strOfNums (l.map fun c=>(c.toNat:Int))=⟨l.toArray⟩:=by
  unfold strOfNums;rw[List.map_map];have:(fun n:Int=>UInt8.ofNat n.toNat) ∘ (fun c:UInt8=>(c.toNat:Int))=id:=by funext c;simp
  rw[this,List.map_id]
 rw[e]at h;exact h
theorem cK' {n:Int} (h0:0<=n):Wire.isNum n=decide (n<=2147483647):=by simp[Wire.isNum,h0]
theorem ta' {n:Int} (h0:n < 0):Wire.isNum n=false:=by simp[Wire.isNum];omega
theorem rY' {n:Int} (h0:0<=n):Wire.isStr n=decide (n < 3):=by simp[Wire.isStr,h0]
theorem tb' {n:Int} (h0:n < 0):Wire.isStr n=false:=by simp[Wire.isStr];omega
theorem aN' (n:Int) (w:World):
  Calls Tryz.prog 140 #[.int .i64 n] w fun e w'=>e= .returned (.bool (Wire.isNum n))/\w'=w:=by
 by_cases h:n < 0;all_goals
  go_enter Tryz.func140,Tryz.ntmps140;go_wp2;go_ret
 ·exact⟨bt' (ta' h).symm,rfl⟩
 ·exact⟨bt' (cK' (by omega)).symm,rfl⟩
theorem bc' (n:Int) (w:World):
  Calls Tryz.prog 87 #[.int .i64 n] w fun e w'=>e= .returned (.bool (Wire.isStr n))/\w'=w:=by
 by_cases h:n < 0;all_goals
  go_enter Tryz.func87,Tryz.ntmps87;go_wp2;go_ret
 ·exact⟨bt' (tb' h).symm,rfl⟩
 ·exact⟨bt' (rY' (by omega)).symm,rfl⟩
theorem oc' {s:ByteArray} (h:(s.size:Int)=1) (f:0 < s.size):Wire.ackBody s=decide ((s[0].toNat:Int)<=7):=by
 have h1:s.size=1:=by omega
 have h2:s.data.toList.getD 0 0=s[0]:=by
  have:(0:Nat) < s.data.toList.length:=by simpa using f
  rw[List.getD_eq_getElem?_getD,List.getElem?_eq_getElem this];rfl
 rw[Wire.ackBody,h2,decide_eq_true h1,Bool.true_and];by_cases h3:s[0].toNat<=7
 ·rw[decide_eq_true h3,decide_eq_true (by omega)]
 ·rw[decide_eq_false h3,decide_eq_false (by omega)]
theorem qm' {s:ByteArray} (h:¬ (s.size:Int)=1):Wire.ackBody s=false:=by
 have h1:¬s.size=1:=by omega
 simp[Wire.ackBody,h1]
theorem lz' (s:ByteArray) (w:World):
  Calls Tryz.prog 142 #[.string s] w fun e w'=>e= .returned (.bool (Wire.ackBody s))/\w'=w:=by
 by_cases h:(s.size:Int)=1
 ·have f:0 < s.size:=by omega
  go_enter Tryz.func142,Tryz.ntmps142;go_wp2;go_ret;exact⟨bt' (oc' h f).symm,rfl⟩
 ·go_enter Tryz.func142,Tryz.ntmps142;go_wp2;go_ret;exact⟨bt' (qm' h).symm,rfl⟩
theorem or4 (c0 c1 c2 c3:UInt8):
  bits BinOp.or IntKind.u32 (bits BinOp.or IntKind.u32 (bits BinOp.or IntKind.u32 ((c0.toNat:Int) % 4294967296) ((c1.toNat:Int) % 4294967296 * 256 % 4294967296))
   ((c2.toNat:Int) % 4294967296 * 65536 % 4294967296)) ((c3.toNat:Int) % 4294967296 * 16777216 % 4294967296)=Wire.num4 c0 c1 c2 c3:=by
 have h0:=c0.toNat_lt;have h1:=c1.toNat_lt;have h2:=c2.toNat_lt;have h3:=c3.toNat_lt;have f:(c0.toNat:Int) % 4294967296=c0.toNat:=by omega
 have r:(c1.toNat:Int) % 4294967296 * 256 % 4294967296=c1.toNat * 256:=by omega
 have u:(c2.toNat:Int) % 4294967296 * 65536 % 4294967296=c2.toNat * 65536:=by omega
 have z:(c3.toNat:Int) % 4294967296 * 16777216 % 4294967296=c3.toNat * 16777216:=by omega
 rw[f,r,u,z,u32_or8 (c0.toNat:Int) ((c1.toNat:Int) * 256) (by omega) (by omega) (by omega) (by omega) (by omega),
  u32_or16 ((c0.toNat:Int)+(c1.toNat:Int) * 256) ((c2.toNat:Int) * 65536) (by omega) (by omega) (by omega) (by omega) (by omega),
  u32_or24 ((c0.toNat:Int)+(c1.toNat:Int) * 256+(c2.toNat:Int) * 65536) ((c3.toNat:Int) * 16777216) (by omega) (by omega) (by omega) (by omega) (by omega)]
 unfold Wire.num4;omega
theorem dh' (b off len cap:Nat) (c0 c1 c2 c3:UInt8) (w:World) (hl:4<=len)
  (h0:w.cell? ⟨b,off,none⟩=some (.int .u8 c0.toNat)) (h1:w.cell? ⟨b,off+1,none⟩=some (.int .u8 c1.toNat))
  (h2:w.cell? ⟨b,off+2,none⟩=some (.int .u8 c2.toNat)) (h3:w.cell? ⟨b,off+3,none⟩=some (.int .u8 c3.toNat)):
  Calls Tryz.prog 95 #[.slice (some ⟨b,off,none⟩) len cap] w fun e w'=>e= .returned (.int .u32 (Wire.num4 c0 c1 c2 c3))/\∃n,w'=w.drewN n:=by
 go_enter Tryz.func95,Tryz.ntmps95;go_wp2;go_quiet (fail);go_wp2;go_ret;exact⟨ry' (or4 _ _ _ _),_,rfl⟩
theorem lA' (s:ByteArray) (w:World) (h0:0 < s.size) (h1:1 < s.size) (h2:2 < s.size) (h3:3 < s.size):
  Calls Tryz.prog 199 #[.string s] w fun e w'=>e= .returned (.int .u32 (Wire.num4 s[0] s[1] s[2] s[3]))/\∃n,w'=w.drewN n:=by
 have i0:(0:Int) < (s.size:Int):=by omega
 have f:(1:Int) < (s.size:Int):=by omega
 have i2:(2:Int) < (s.size:Int):=by omega
 have i3:(3:Int) < (s.size:Int):=by omega
 go_enter Tryz.func199,Tryz.ntmps199;go_wp2;go_quiet (fail);go_wp2;go_ret;exact⟨ry' (or4 _ _ _ _),_,rfl⟩
theorem tc' {l:List UInt8} {k len:Nat} (f:l.length=len) (r:k<=len) (h:¬k < len):l.take k=l:=List.take_of_length_le (by omega)
theorem rZ' {l:List UInt8} {k:Nat} (f:k < l.length):
  (Wire.sum (l.take k) * 31 % 4294967296+(l[k].toNat:Int) % 4294967296) % 4294967296=Wire.sum (l.take (k+1)):=by
 rw[Wire.sum_take l k f,Wire.sumStep,List.getD_eq_getElem?_getD,List.getElem?_eq_getElem f];simp
theorem mk' (b off len cap:Nat) (l:List UInt8) (w:World) (f:l.length=len) (r:len<=maxLen)
  (u:∀i,i < len->w.cell? ⟨b,off+i,none⟩=some (.int .u8 (l.getD i 0).toNat)):
  Calls Tryz.prog 136 #[.slice (some ⟨b,off,none⟩) len cap] w fun e w'=>e= .returned (.int .u32 (Wire.sum l))/\w'=w:=by
 unfold maxLen at r;go_enter Tryz.func136,Tryz.ntmps136;go_wp2;go_loop [3,8] (fun s i=>∃k:Nat,k<=len/\i= .int .i64 k/\s= .int .u32 (Wire.sum (l.take k))) (fun _ i=>len - (intOf i).toNat)
 case atStart=>exact⟨0,Nat.zero_le _,rfl,rfl⟩
 case round=>
  obtain⟨k,z,rfl,rfl⟩:=hrel;have G:k < len->w.cell? ⟨b,off+k,none⟩=some (.int .u8 (l.getD k 0).toNat):=fun _=>u k (by omega);by_cases D:k < len
  ·go_wp2;go_round
   case rel=>exact⟨k+1,by omega,by go_num,congrArg (Value.int .u32) (rZ' (by omega))⟩
   case measure=>simp[intOf];omega
  ·have F:Hid (l.take k=l):=tc' f z D;go_wp2;go_ret;exact⟨congrArg (fun l=>Ending.returned (.int .u32 (Wire.sum l))) F.out,rfl⟩
theorem qn' (x:ByteArray) (h:4<=x.size):Wire.num4 (x[0]'(by omega)) (x[1]'(by omega)) (x[2]'(by omega)) (x[3]'(by omega))=Wire.numAt x.data.toList 0:=by
 have g:∀i (hi:i < x.size),x.data.toList.getD i 0=x[i]:=by
  intro i hi;have hl:i < x.data.toList.length:=by simpa using hi
  rw[List.getD_eq_getElem?_getD,List.getElem?_eq_getElem hl];rfl
 unfold Wire.numAt;rw[g 0 (by omega),g (0+1) (by omega),g (0+2) (by omega),g (0+3) (by omega)]
theorem lB' (s:ByteArray) (a:Nat) (h:a+4<=s.size):Wire.numAt (s.extract a s.size).data.toList 0=Wire.numAt s.data.toList a:=by
 have g:∀i,i < 4->(s.extract a s.size).data.toList.getD i 0=s.data.toList.getD (a+i) 0:=by intro i hi;have f:s.data.size=s.size:=rfl;simp only[ByteArray.data_extract,Array.toList_extract,List.getD_eq_getElem?_getD,List.extract_eq_take_drop,List.getElem?_take,List.getElem?_drop];rw[if_pos (by omega)]
 unfold Wire.numAt;rw[g 0 (by omega),g (0+1) (by omega),g (0+2) (by omega),g (0+3) (by omega)];simp only[Nat.zero_add,Nat.add_zero]
theorem jT' (x:ByteArray) (w:World) (h:4<=x.size):
  Calls Tryz.prog 199 #[.string x] w fun e w'=>e= .returned (.int .u32 (Wire.numAt x.data.toList 0))/\∃n,w'=w.drewN n:=by
 have:=lA' x w (by omega) (by omega) (by omega) (by omega);rw[qn' x h]at this;exact this
def vE' (s:ByteArray) (k:Nat):Prop:=∀j,j < k->Wire.numAt s.data.toList (4 * j)<=2147483647
theorem vq' {s:ByteArray} (h:(s.size:Int)=12) (f:vE' s 3):Wire.welBody s=true:=by
 have a0:=f 0 (by omega);have a1:=f 1 (by omega);have r:=f 2 (by omega);simp at a0 a1 r;unfold Wire.welBody;simp[a0,a1,r];omega
theorem od' (a:Array Obj) (o:Obj) (f:Obj->Obj):(a.push o).modify a.size f=a.push (f o):=by
 apply Array.ext
 ·simp
 ·intro j h1 h2;simp only[Array.getElem_modify,Array.getElem_push];simp at h1;by_cases hj:a.size=j
  ·subst hj;simp
  ·have:j < a.size:=by omega
   simp[hj,this]
theorem jU' {w:World} {C:Array Value} {T:TypeId} {b:Nat} (i:Nat) (v:Value) (n:Nat) (f:b=w.heap.size):((w.alloc (.cells C T)).drewN n).setCell ⟨b,i,none⟩ v=(w.alloc (.cells (C.setIfInBounds i v) T)).drewN n:=by
 subst f;unfold World.setCell World.alloc World.drewN;simp only[od'];rfl
def vF' (f r u:Int):Nat->Array Value
 |0=> #[.int .i64 0, .int .i64 0, .int .i64 0]
 |1=> #[.int .i64 f, .int .i64 0, .int .i64 0]
 |2=> #[.int .i64 f, .int .i64 r, .int .i64 0]
 | _=> #[.int .i64 f, .int .i64 r, .int .i64 u]
theorem cc' (l:List UInt8) (i:Nat):0<=Wire.numAt l i/\Wire.numAt l i < 4294967296:=by
 unfold Wire.numAt Wire.num4;have h0:=(l.getD i 0).toNat_lt;have h1:=(l.getD (i+1) 0).toNat_lt;have h2:=(l.getD (i+2) 0).toNat_lt;have h3:=(l.getD (i+3) 0).toNat_lt;omega
theorem eh' (s:ByteArray) (w:World) (h:s.size=12):
  Calls Tryz.prog 151 #[.string s] w fun e w'=>e= .returned (.agg #[.int .i64 (Wire.numAt s.data.toList 0), .int .i64 (Wire.numAt s.data.toList 4), .int .i64 (Wire.numAt s.data.toList 8)])/\Below w.heap.size w w':=by
 have g:∀k,0 < k->k < 3->∀w,Calls Tryz.prog 199 #[.string (s.extract (4 * k) s.size)] w fun e w'=>e= .returned (.int .u32 (Wire.numAt s.data.toList (4 * k)))/\∃n,w'=w.drewN n:=by
  intro k _ H w;have I:=lB' s (4 * k) (by omega);have J:(s.extract (4 * k) s.size).size=s.size - 4 * k:=by simp
  rw[<-I];exact jT' _ w (by omega)
 have g0:=t' (fun w=>jT' s w (by omega));have g1:=t' (g 1 (by omega) (by omega));have g2:=t' (g 2 (by omega) (by omega));clear g;have i4:(4:Int)<=(s.size:Int):=by omega
 have M:(8:Int)<=(s.size:Int):=by omega
 have O:4<=s.size:=by omega
 have Q:8<=s.size:=by omega
 clear h;simp only[Nat.mul_one,Nat.reduceMul]at g0 g1 g2;have D:=cc' s.data.toList 0;have F:=cc' s.data.toList 4;have G:=cc' s.data.toList 8;generalize Wire.numAt s.data.toList 0=r at g0 D ⊢;generalize Wire.numAt s.data.toList 4=u at g1 F ⊢;generalize Wire.numAt s.data.toList 8=z at g2 G ⊢;obtain⟨U,V⟩:=D;obtain⟨X,Y⟩:=F;obtain⟨Z,aa⟩:=G;go_enter Tryz.func151,Tryz.ntmps151;go_wp2;go_loopw[5] (fun i wr=>∃k:Nat,k<=3/\i= .int .i64 k/\∃n,wr=((w.alloc (.cells (vF' r u z 0) 98)).alloc (.cells (vF' r u z k) 98)).drewN n) (fun i _=>3 - (intOf i).toNat)
 case atStart=>exact⟨0,by omega,rfl,0,rfl⟩
 case round=>
  obtain⟨k,H,rfl,n,rfl⟩:=hrel;obtain rfl|rfl|rfl|rfl:k=0\/k=1\/k=2\/k=3:=by omega
  all_goals simp only[vF']
  ·go_wp2_with (go_at_call 199;refine((i' g0) _).mono ?_;rintro e w' ⟨rfl,f,rfl⟩)
   go_roundw
   case rel=>exact⟨1,by omega,rfl,n+f,jU' (w:=w.alloc _) 0 (.int .i64 r) (n+f) (by simp)⟩
   case measure=>simp[intOf]
  ·go_wp2_with (go_at_call 199;refine((i' g1) _).mono ?_;rintro e w' ⟨rfl,f,rfl⟩)
   go_roundw
   case rel=>exact⟨2,by omega,rfl,n+f,jU' (w:=w.alloc _) 1 (.int .i64 u) (n+f) (by simp)⟩
   case measure=>simp[intOf]
  ·go_wp2_with (go_at_call 199;refine((i' g2) _).mono ?_;rintro e w' ⟨rfl,f,rfl⟩)
   go_roundw
   case rel=>exact⟨3,by omega,rfl,n+f,jU' (w:=w.alloc _) 2 (.int .i64 z) (n+f) (by simp)⟩
   case measure=>simp[intOf]
  ·go_wp2;exact bodyPost_ret (v:= .agg #[.int .i64 r, .int .i64 u, .int .i64 z]) (by simp[results,Tryz.results151,go_sem]) rfl ⟨rfl,(((below_drewN (((Below.refl _ _).alloc (Nat.le_refl _) _).alloc (by simp) _) _).setCell (Nat.le_refl _) _).setCell (Nat.le_refl _) _).setCell (Nat.le_refl _) _⟩
theorem gN' (s:ByteArray) (w:World):
  Calls Tryz.prog 141 #[.string s] w fun e w'=>e= .returned (.bool (Wire.welBody s))/\Below w.heap.size w w':=by
 by_cases h:(s.size:Int)=12
 ·have F:=t' (eh' s w (by omega));have H:=cc' s.data.toList 0;have I:=cc' s.data.toList 4;have J:=cc' s.data.toList 8;have r:Hid (Wire.welBody s=(decide (Wire.numAt s.data.toList 0<=2147483647) && (decide (Wire.numAt s.data.toList 4<=2147483647) &&decide (Wire.numAt s.data.toList 8<=2147483647)))):=by
   have:s.size=12:=by omega
   show _= _;simp[Wire.welBody,this]
  generalize Wire.numAt s.data.toList 0=u at F H r;generalize Wire.numAt s.data.toList 4=z at F I r;generalize Wire.numAt s.data.toList 8=D at F J r;obtain⟨M,V⟩:=H;obtain⟨O,X⟩:=I;obtain⟨Q,Y⟩:=J;have i0:∀w:World,(Instr.index 98 (.agg #[.int .i64 u, .int .i64 z, .int .i64 D]) (.int .i64 0)).run Tryz.prog w= .ok (.int .i64 u) w:=fun _=>by kernel_rfl
  have Z:∀w:World,(Instr.index 98 (.agg #[.int .i64 u, .int .i64 z, .int .i64 D]) (.int .i64 1)).run Tryz.prog w= .ok (.int .i64 z) w:=fun _=>by kernel_rfl
  have i2:∀w:World,(Instr.index 98 (.agg #[.int .i64 u, .int .i64 z, .int .i64 D]) (.int .i64 2)).run Tryz.prog w= .ok (.int .i64 D) w:=fun _=>by kernel_rfl
  go_enter Tryz.func141,Tryz.ntmps141;go_upto_region 4 with (go_at_call 151;refine(i' F).mono ?_;rintro e aa ⟨rfl,U⟩;have G:=t' U;clear U);clear h;go_loop [10] (fun i=>∃k:Nat,k<=3/\i= .int .i64 k/\(0 < k->u<=2147483647)/\(1 < k->z<=2147483647)/\(2 < k->D<=2147483647)) (fun i=>3 - (intOf i).toNat)
  case atStart=>exact⟨0,by omega,rfl,by omega,by omega,by omega⟩
  case round=>
   obtain⟨k,ab,rfl,k0,k1,k2⟩:=hrel;obtain rfl|rfl|rfl|rfl:k=0\/k=1\/k=2\/k=3:=by omega
   ·by_cases f:u<=2147483647
    ·go_wp2_with (go_at_call 140;refine(aN' _ _).mono ?_;rw[cK' M,decide_eq_true f];rintro e w' ⟨rfl,rfl⟩)
     go_round
     case rel=>exact⟨1,by omega,rfl,by omega,by omega,by omega⟩
     case measure=>simp[intOf]
    ·go_wp2_with (go_at_call 140;refine(aN' _ _).mono ?_;rw[cK' M,decide_eq_false f];rintro e w' ⟨rfl,rfl⟩)
     go_ret;exact⟨bt' (by rw[i' r,decide_eq_false (Int.not_le.mpr (show 2147483647 < u by assumption))];rfl),i' G⟩
   ·by_cases f:z<=2147483647
    ·go_wp2_with (go_at_call 140;refine(aN' _ _).mono ?_;rw[cK' O,decide_eq_true f];rintro e w' ⟨rfl,rfl⟩)
     go_round
     case rel=>exact⟨2,by omega,rfl,by omega,by omega,by omega⟩
     case measure=>simp[intOf]
    ·go_wp2_with (go_at_call 140;refine(aN' _ _).mono ?_;rw[cK' O,decide_eq_false f];rintro e w' ⟨rfl,rfl⟩)
     go_ret;exact⟨bt' (by rw[i' r,decide_eq_false (Int.not_le.mpr (show 2147483647 < z by assumption))];simp),i' G⟩
   ·by_cases f:D<=2147483647
    ·go_wp2_with (go_at_call 140;refine(aN' _ _).mono ?_;rw[cK' Q,decide_eq_true f];rintro e w' ⟨rfl,rfl⟩)
     go_round
     case rel=>exact⟨3,by omega,rfl,by omega,by omega,by omega⟩
     case measure=>simp[intOf]
    ·go_wp2_with (go_at_call 140;refine(aN' _ _).mono ?_;rw[cK' Q,decide_eq_false f];rintro e w' ⟨rfl,rfl⟩)
     go_ret;exact⟨bt' (by rw[i' r,decide_eq_false (Int.not_le.mpr (show 2147483647 < D by assumption))];simp),i' G⟩
   ·go_wp2;go_ret;exact⟨bt' (by rw[i' r,decide_eq_true (k0 (by omega)),decide_eq_true (k1 (by omega)),decide_eq_true (k2 (by omega))];rfl),i' G⟩
 ·go_enter Tryz.func141,Tryz.ntmps141;go_wp2;go_ret;exact⟨bt' (by simp[Wire.welBody];omega),Below.refl _ _⟩
theorem one4 {k:IntKind} {a b c d:Int}:∀f∈ [Value.int k a, .int k b, .int k c, .int k d],f.oneCell'=true:=by
 intro f hu;simp at hu;rcases hu with rfl|rfl|rfl|rfl <;> rfl
theorem gO' {w f:World} {o:Obj} {row:Option Nat} (h:(w.alloc o).grownBy f row):w.grownBy f row:=by
 refine⟨h.os,h.tape,h.output,by have:=h.size;simp at this;omega,fun k r u=>?_⟩;rw[h.block k (by simp;omega) u];exact Below.heap_alloc _ _ _ r
theorem aC' (B:Nat) (n:Int) (v:Value) (l:List UInt8) (w:World) (hl:l.length<=1000) (O:B<=w.heap.size) (z:0<=n)
  (r:as' B w v l):
  Calls Tryz.prog 135 #[v, .int .u32 n] w fun e w'=>∃f,e= .returned f/\as' B w' f (l++Wire.le4 n)/\w.grownBy w' v.ownBlock:=by
 have u:=vD' z;obtain⟨i0,hi,D,F,G⟩:=info_parts jS';have H:=t' r;have I:=t' u;clear u r;go_enter Tryz.func135,Tryz.ntmps135;go_wp2_with (at_builtin;refine wpList_append_own _ rfl _ _ 44 rfl B 5 i0 (.int .u8 0) 1 1 Tryz.underlying44 hi D F G rfl (by decide) v l.length (bv l) rfl ((i' H).alloc _) ⟨w.heap.size,0,none⟩ 4 4 [.int .u8 (n % 256), .int .u8 (n / 256 % 256), .int .u8 (n / 65536 % 256), .int .u8 (n / 16777216 % 256)] rfl rfl bP' one4 ?c3 ?c4 ?c5 ?_)
 case c3=>unfold maxLen;omega
 case c4=>omega
 case c5=>simp;omega
 intro f Q J M _;go_wp2;go_ret;refine⟨f,rfl,?_,?_⟩
 ·unfold as';rw[fN',i' I];simpa[Wire.length_le4]using J
 ·exact gO' M
theorem mR' (b:ByteArray):b.toList.isEmpty=decide (b.size=0):=by
 rcases Nat.eq_zero_or_pos b.size with h|h
 ·have:b=ByteArray.empty:=by apply ByteArray.ext;apply Array.eq_empty_of_size_eq_zero;exact h
  subst this;simp[ByteArray.toList_eq]
 ·have f:b.toList≠ []:=by
   intro e;have h1:b.toList.length=b.size:=by simp[ByteArray.toList_eq]
   rw[e]at h1;simp at h1;omega
  rw[decide_eq_false (by omega)];cases hl:b.toList with
  |nil=>exact absurd hl f
  |cons _ _=>rfl
theorem sa' (k e s q:Int) (b:ByteArray) (w:World) (F:Wire.isNum e=true) (f:k=1\/k=5):
  Calls Tryz.prog 96 #[.agg #[.int .i64 k, .int .i64 e, .int .i64 s, .int .i64 q, .string b]] w fun u w'=>u= .returned (.bool (Wire.proper k e s q b))/\Below w.heap.size w w':=by
 have r:(k==1)=true\/((k==1)=false/\(k==5)=true):=by rcases f with rfl|rfl <;> simp
 have z:Hid (Wire.proper k e s q b=(decide (s=0) && (decide (q=0) &&decide (b.size=0)))):=by show _= _;simp[Wire.proper,F,f]
 have D:Hid (b.toList.isEmpty=decide (b.size=0)):=mR' b;clear f;rcases r with r|⟨r,G⟩;all_goals
  go_enter Tryz.func96,Tryz.ntmps96;go_wp2_with (go_at_call 140;refine(aN' _ _).mono ?_;rintro u w' ⟨rfl,rfl⟩);all_goals
   go_ret;refine⟨bt' ?_,(Below.refl _ _).alloc (Nat.le_refl _) _⟩;have z:=i' z;have D:=i' D;simp_all
theorem sb' (k e s q:Int) (b:ByteArray) (w:World) (u:Wire.isNum e=true) (h2:k=2):
  Calls Tryz.prog 96 #[.agg #[.int .i64 k, .int .i64 e, .int .i64 s, .int .i64 q, .string b]] w fun f w'=>f= .returned (.bool (Wire.proper k e s q b))/\Below w.heap.size w w':=by
 subst h2;have r:Hid (Wire.proper 2 e s q b=(decide (s=0) && (decide (q=0) &&Wire.welBody b))):=by show _= _;simp[Wire.proper,u]
 go_enter Tryz.func96,Tryz.ntmps96;go_wp2_with (first|(go_at_call 140;refine(aN' _ _).mono ?_;rintro f w' ⟨rfl,rfl⟩)|(go_at_call 141;refine(gN' _ _).mono ?_;rintro f w' ⟨rfl,z⟩));all_goals
  go_ret;refine⟨bt' ?_,by first|exact(Below.refl _ _).alloc (Nat.le_refl _) _|exact((Below.refl _ _).alloc (Nat.le_refl _) _).trans (z.mono (by simp))⟩;have r:=i' r;simp_all
theorem sc' (k e s q:Int) (b:ByteArray) (w:World) (z:Wire.isNum e=true) (h3:k=3):
  Calls Tryz.prog 96 #[.agg #[.int .i64 k, .int .i64 e, .int .i64 s, .int .i64 q, .string b]] w fun f w'=>f= .returned (.bool (Wire.proper k e s q b))/\Below w.heap.size w w':=by
 subst h3;have r:Hid (Wire.proper 3 e s q b=(Wire.isStr s&& (decide (q≠0) && (Wire.isNum q&&decide (b.size<=20))))):=by show _= _;simp[Wire.proper,z]
 cases hs:Wire.isStr s;all_goals
  cases D:Wire.isNum q;all_goals
   go_enter Tryz.func96,Tryz.ntmps96;go_wp2_with (first|(go_at_call 140;refine(aN' _ _).mono ?_;rintro f w' ⟨rfl,rfl⟩)|(go_at_call 87;refine(bc' _ _).mono ?_;rintro f w' ⟨rfl,rfl⟩));all_goals
    go_ret;refine⟨bt' ?_,(Below.refl _ _).alloc (Nat.le_refl _) _⟩;have r:=i' r;have hd:decide ((b.size:Int)<=20)=decide (b.size<=20):=by rw[decide_eq_decide];omega
    have u:(q !=0)=decide (q≠0):=by by_cases h:q=0 <;> simp[h]
    try simp only[hd,u]
    clear hd u;simp_all
theorem sd' (k e s q:Int) (b:ByteArray) (w:World) (u:Wire.isNum e=true) (h4:k=4):
  Calls Tryz.prog 96 #[.agg #[.int .i64 k, .int .i64 e, .int .i64 s, .int .i64 q, .string b]] w fun f w'=>f= .returned (.bool (Wire.proper k e s q b))/\Below w.heap.size w w':=by
 subst h4;have r:Hid (Wire.proper 4 e s q b=(Wire.isStr s&& (Wire.isNum q&&Wire.ackBody b))):=by show _= _;simp[Wire.proper,u]
 cases hs:Wire.isStr s;all_goals
  cases z:Wire.isNum q;all_goals
   go_enter Tryz.func96,Tryz.ntmps96;go_wp2_with (first|(go_at_call 140;refine(aN' _ _).mono ?_;rintro f w' ⟨rfl,rfl⟩)|(go_at_call 87;refine(bc' _ _).mono ?_;rintro f w' ⟨rfl,rfl⟩)|(go_at_call 142;refine(lz' _ _).mono ?_;rintro f w' ⟨rfl,rfl⟩));all_goals
    go_ret;refine⟨bt' ?_,(Below.refl _ _).alloc (Nat.le_refl _) _⟩;have r:=i' r;simp_all
theorem oe' (k e s q:Int) (b:ByteArray) (w:World):
  Calls Tryz.prog 96 #[.agg #[.int .i64 k, .int .i64 e, .int .i64 s, .int .i64 q, .string b]] w fun r w'=>r= .returned (.bool (Wire.proper k e s q b))/\Below w.heap.size w w':=by
 cases f:Wire.isNum e
 ·go_enter Tryz.func96,Tryz.ntmps96;go_wp2_with (go_at_call 140;refine(aN' _ _).mono ?_;rintro r w' ⟨rfl,rfl⟩);go_ret;exact⟨bt' (by simp[Wire.proper,f]),(Below.refl _ _).alloc (Nat.le_refl _) _⟩
 by_cases u:k=1\/k=5
 ·exact sa' k e s q b w f u
 by_cases h2:k=2
 ·exact sb' k e s q b w f h2
 by_cases h3:k=3
 ·exact sc' k e s q b w f h3
 by_cases h4:k=4
 ·exact sd' k e s q b w f h4
 have z:Hid (Wire.proper k e s q b=false):=by show _= _;simp[Wire.proper,u,h2,h3,h4]
 have D:(k==1)=false:=by simp;omega
 have F:(k==2)=false:=by simp;omega
 have G:(k==3)=false:=by simp;omega
 have H:(k==4)=false:=by simp;omega
 have I:(k==5)=false:=by simp;omega
 clear u h2 h3 h4;go_enter Tryz.func96,Tryz.ntmps96;go_wp2_with (go_at_call 140;refine(aN' _ _).mono ?_;rintro r w' ⟨rfl,rfl⟩);go_ret;exact⟨bt' (i' z).symm,(Below.refl _ _).alloc (Nat.le_refl _) _⟩
end Go.Proofs.YtamafdcnbcoegaaGreat
namespace Go.Proofs.YtamafdcnbcoegaaGreat
open Go.RowKit
open Wire (whole)
theorem lC' (f:Option Addr) (len cap:Nat) (w:World) (h:(len:Int) < 15):
  Calls Tryz.prog 94 #[.slice f len cap] w fun r w'=>r= .returned (.bool false)/\w'=w:=by
 go_enter Tryz.func94,Tryz.ntmps94;go_wp2;go_ret;exact⟨rfl,rfl⟩
theorem td' {l:List UInt8} {m g:Nat} (r:l.length=m+4) (f:(l.getD 10 0).toNat=g) (h:¬m+4=15+g):whole l=false:=by
 unfold whole;rw[f,decide_eq_false (p:=l.length=15+g) (by omega)];simp
theorem sf' {l:List UInt8} {m g:Nat} (r:l.length=m+4) (_:11<=m) (f:(l.getD 10 0).toNat=g) (h:m+4=15+g):
  whole l=(Wire.num4 (l.getD m 0) (l.getD (m+1) 0) (l.getD (m+2) 0) (l.getD (m+3) 0) ==Wire.sum (l.take m)):=by
 unfold whole;have e:l.length - 4=m:=by omega
 rw[f,e,decide_eq_true (p:=15<=l.length) (by omega),decide_eq_true (p:=l.length=15+g) (by omega),Bool.true_and,Bool.true_and];by_cases hs:Wire.numAt l m=Wire.sum (l.take m)
 ·rw[decide_eq_true hs];exact(beq_iff_eq.2 hs).symm
 ·rw[decide_eq_false hs];exact(beq_eq_false_iff_ne.2 hs).symm
theorem gP' (b off m cap:Nat) (l:List UInt8) (w:World) (r:l.length=m+4) (D:m+4<=maxLen) (Q:m+4<=cap) (F:11<=m)
  (f:∀i,i < m+4->w.cell? ⟨b,off+i,none⟩=some (.int .u8 (l.getD i 0).toNat)):
  Calls Tryz.prog 94 #[.slice (some ⟨b,off,none⟩) (m+4) cap] w fun G w'=>G= .returned (.bool (whole l))/\∃n,w'=w.drewN n:=by
 have H:=f 10 (by omega);have I:=(l.getD 10 0).toNat_lt;have J:=D;unfold maxLen at D;generalize u:(l.getD 10 0).toNat=g at H I;have h1:(15:Int)<=(m:Int)+4:=by omega
 by_cases h:m+4=15+g
 ·have h2:((m:Int)+4!=11+(g:Int)+4)=false:=by simp;omega
  have z:=t' (sf' r F u h);have M:=fun n=>t' (dh' b (off+m) 4 (cap - m) (l.getD m 0) (l.getD (m+1) 0) (l.getD (m+2) 0) (l.getD (m+3) 0) (w.drewN n) (Nat.le_refl _)
   (ob' n (f m (by omega))) (ob' n (f (m+1) (by omega))) (ob' n (f (m+2) (by omega))) (ob' n (f (m+3) (by omega))))
  have O:=fun n=>t' (mk' b off m cap (l.take m) (w.drewN n) (by simp;omega) (by omega) (fun i hi=>by rw[ob' n (f i (by omega)),List.getD_eq_getElem?_getD,List.getD_eq_getElem?_getD,List.getElem?_take,if_pos hi]));clear h u f r J;generalize l.take m=lt at *;go_enter Tryz.func94,Tryz.ntmps94;go_wp2_with fail;go_quiet (first|(go_at_call 95;exact Calls.quiet_of (i' (M _)))|(go_at_call 136;exact Calls.quiet_of_same (i' (O _))));go_wp2;go_ret;exact⟨bt' (i' z).symm,_,rfl⟩
 ·have h2:((m:Int)+4!=11+(g:Int)+4)=true:=by simp;omega
  have z:=t' (td' r u h);clear h u f r;go_enter Tryz.func94,Tryz.ntmps94;go_wp2_with fail;go_ret;exact⟨bt' (i' z).symm,0,rfl⟩
end Go.Proofs.YtamafdcnbcoegaaGreat
namespace Go.Proofs.YtamafdcnbcoegaaGreat
open Go.RowKit
structure iV' (w:World) (b:Nat) (k e s q:Int) (body:ByteArray):Prop where
 c0:w.cell? ⟨b,0,none⟩=some (.int .i64 k)
 c1:w.cell? ⟨b,1,none⟩=some (.int .i64 e)
 c2:w.cell? ⟨b,2,none⟩=some (.int .i64 s)
 c3:w.cell? ⟨b,3,none⟩=some (.int .i64 q)
 c4:w.cell? ⟨b,4,none⟩=some (.string body)
theorem ml' (w:World) (k e s q:Int) (body:ByteArray) (t:TypeId):iV' (w.alloc (.cells #[.int .i64 k, .int .i64 e, .int .i64 s, .int .i64 q, .string body] t)) w.heap.size k e s q body:=by
 constructor <;> simp
theorem iV'.below {w w':World} {b C:Nat} {k e s q:Int} {body:ByteArray} (h:iV' w b k e s q body) (f:Below C w w') (r:b < C):iV' w' b k e s q body:=
 ⟨(f.cell (p:=⟨b,0,none⟩) r).trans h.c0,(f.cell (p:=⟨b,1,none⟩) r).trans h.c1,(f.cell (p:=⟨b,2,none⟩) r).trans h.c2,(f.cell (p:=⟨b,3,none⟩) r).trans h.c3,(f.cell (p:=⟨b,4,none⟩) r).trans h.c4⟩
theorem eu' {W w w':World} {b C:Nat} {k e s q:Int} {body:ByteArray} {v:Value} {l:List UInt8} (r:iV' w b k e s q body) (B:Below b W w) (u:as' C w v l) (z:b < C) (D:C<=w.heap.size)
  (f:w.grownBy w' v.ownBlock):iV' w' b k e s q body/\Below b W w'/\C<=w'.heap.size:=by
 have h1:Below C w w':=X' f D (fun g f=>(u.lt g f).1);exact⟨r.below h1 z,B.trans (h1.mono (by omega)),by have:=h1.size;omega⟩
theorem te' (k e s q:Int) (b:ByteArray):
  ([]++[UInt8.ofNat (k.toNat % 256)]++Wire.le4 e++[UInt8.ofNat (s.toNat % 256)]++Wire.le4 q++[UInt8.ofNat ((b.size:Int).toNat % 256)]++b.data.toList)=Wire.front k e s q b.data.toList:=by
 simp[Wire.front]
theorem ev' (k e s q:Int) (b:ByteArray) (w:World) (bg:0<=k/\k < 256) (bh:0<=e/\e < 4294967296) (hs:0<=s/\s < 256) (bi:0<=q/\q < 4294967296) (bj:b.size < 256):
  Calls Tryz.prog 92 #[.agg #[.int .i64 k, .int .i64 e, .int .i64 s, .int .i64 q, .string b]] w fun F w'=>
   ∃v,F= .returned v/\as' (w.heap.size+1) w' v (Wire.bytes k e s q b.data.toList)/\Below w.heap.size w w':=by
 go_enter Tryz.func92,Tryz.ntmps92;go_upto_region 1 with fail;have I:=ml' w k e s q b 41;have ad:=(Below.refl w.heap.size w).alloc (Nat.le_refl _) (.cells #[.int .i64 k, .int .i64 e, .int .i64 s, .int .i64 q, .string b] 41);have aM:w.heap.size+1<=(w.alloc (.cells #[.int .i64 k, .int .i64 e, .int .i64 s, .int .i64 q, .string b] 41)).heap.size:=by simp
 generalize w.alloc (.cells #[.int .i64 k, .int .i64 e, .int .i64 s, .int .i64 q, .string b] 41)=bk at *;obtain⟨f,r,u,z,D⟩:=id I;go_upto_region 2 with (at_make;refine ly' rfl _ _ rfl (w.heap.size+1) _ _ _ (15+b.size) rfl rfl (by omega) (by omega) (by omega) ?_;intro aN ah ai);have G:=X' (B:=w.heap.size+1) ai (by omega) (by simp);have aj:w.heap.size+1<=aN.heap.size:=by have:=G.size;omega
 have J:=I.below G (by omega);have ak:=ad.trans (G.mono (by omega));have M:=t' ah;clear ai G I ad f r u z D aM ah;obtain⟨f,r,u,z,D⟩:=id J;go_upto_region 3 with (at_builtin;refine ff' rfl _ _ rfl (w.heap.size+1) _ [] k (i' M) rfl rfl (by omega) (by omega) (by simp) (by omega) ?_;intro v3 aO ao ap);obtain⟨O,aq,z3⟩:=eu' J ak (i' M) (by omega) aj ap;have Q:=t' ao;clear ao ap J ak M aj f r u z D;obtain⟨f,r,u,z,D⟩:=id O;go_upto_region 4 with (go_at_call 135;refine(aC' (w.heap.size+1) e v3 _ aO (by simp) (by omega) (by omega) (i' Q)).mono ?_;rintro F bl ⟨v4,rfl,au,av⟩);obtain⟨U,ax,z4⟩:=eu' O aq (i' Q) (by omega) z3 av;have V:=t' au;clear au av O aq Q z3 f r u z D;obtain⟨f,r,u,z,D⟩:=id U;go_upto_region 5 with (at_builtin;refine ff' rfl _ _ rfl (w.heap.size+1) _ _ s (i' V) rfl rfl (by omega) (by omega) (by simp[Wire.length_le4]) (by omega) ?_;intro v5 aP ay az);obtain⟨X,aA,z5⟩:=eu' U ax (i' V) (by omega) z4 az;have Y:=t' ay;clear ay az U ax V z4 f r u z D;obtain⟨f,r,u,z,D⟩:=id X;go_upto_region 6 with (go_at_call 135;refine(aC' (w.heap.size+1) q v5 _ aP (by simp[Wire.length_le4]) (by omega) (by omega) (i' Y)).mono ?_;rintro F bm ⟨v6,rfl,aB,aC⟩);obtain⟨Z,aD,aE⟩:=eu' X aA (i' Y) (by omega) z5 aC;have aa:=t' aB;clear aB aC X aA Y z5 f r u z D;obtain⟨f,r,u,z,D⟩:=id Z;go_upto_region 7 with (at_builtin;refine ff' rfl _ _ rfl (w.heap.size+1) _ _ (b.size:Int) (i' aa) rfl rfl (by omega) (by omega) (by simp[Wire.length_le4]) (by omega) ?_;intro bn bo aF aG);obtain⟨ab,aH,aI⟩:=eu' Z aD (i' aa) (by omega) aE aG;have ac:=t' aF;clear aF aG Z aD aa aE f r u z D;obtain⟨f,r,u,z,D⟩:=id ab;go_upto_region 8 with (at_builtin;refine ql' rfl _ _ rfl (w.heap.size+1) _ _ (i' ac) rfl b rfl (by simp[Wire.length_le4];omega) (by omega) ?_;intro v8 aQ H aJ);obtain⟨aR,aS,aT⟩:=eu' ab aH (i' ac) (by omega) aI aJ;rw[te']at H;clear aJ ab aH ac aI f r u z D aR;have aU:(Wire.front k e s q b.data.toList).length=11+b.size:=by simp[Wire.front,Wire.length_le4];omega
 obtain⟨g,cap,rfl,bp,bq,br,bt,aK⟩:=H.addr (by omega);have aL:=t' H;have aV:=t' aK;clear H aK;have aW:(Wire.front k e s q b.data.toList).length<=1000:=by omega
 have aX:Hid (Wire.bytes k e s q b.data.toList=Wire.front k e s q b.data.toList++Wire.le4 (Wire.sum (Wire.front k e s q b.data.toList))):=rfl;have aY:=Wire.sum_range (Wire.front k e s q b.data.toList);clear aU;generalize Wire.front k e s q b.data.toList=fr at *;go_wp2_with (first
  |(go_at_call 136;refine(mk' g 0 fr.length cap fr aQ rfl (by unfold maxLen;omega) (i' aV)).mono ?_;rintro F aZ ⟨rfl,rfl⟩)
  |(go_at_call 135;refine(aC' (w.heap.size+1) _ _ fr _ aW (by omega) aY.1 (i' aL)).mono ?_;rintro F ba ⟨bb,rfl,bc,bd⟩))
 have be:Below (w.heap.size+1) aZ ba:=X' bd aT (fun g bf=>((i' aL).lt g bf).1);go_ret;exact⟨bb,rfl,by rw[i' aX];exact bc,aS.trans (be.mono (by omega))⟩
theorem di' {k e s q:Int} {b:ByteArray} (h:Wire.proper k e s q b=true):
  (1<=k/\k<=5)/\(0<=e/\e<=2147483647)/\(0<=s/\s < 3)/\(0<=q/\q<=2147483647)/\b.size<=20:=by
 unfold Wire.proper at h;rw[Bool.and_eq_true]at h;obtain⟨f,h⟩:=h;have r:0<=e/\e<=2147483647:=by simpa[Wire.isNum]using f
 split at h
 ·simp only[Bool.and_eq_true,decide_eq_true_eq]at h;omega
 split at h
 ·simp only[Wire.welBody,Bool.and_eq_true,decide_eq_true_eq]at h;omega
 split at h
 ·simp[Wire.isStr,Wire.isNum]at h;omega
 split at h
 ·simp[Wire.isStr,Wire.isNum,Wire.ackBody]at h;omega
 ·cases h
theorem du' (k e s q:Int) (b:ByteArray) (w:World) (f:Wire.proper k e s q b=true):
  Calls Tryz.prog 92 #[.agg #[.int .i64 k, .int .i64 e, .int .i64 s, .int .i64 q, .string b]] w fun r w'=>
   ∃v,r= .returned v/\as' (w.heap.size+1) w' v (Wire.bytes k e s q b.data.toList)/\Below w.heap.size w w':=by
 obtain⟨h1,h2,h3,h4,h5⟩:=di' f;exact ev' k e s q b w (by omega) (by omega) (by omega) (by omega) (by omega)
end Go.Proofs.YtamafdcnbcoegaaGreat
namespace Go.Proofs.YtamafdcnbcoegaaGreat
open Go.RowKit
open Wire (whole)
def cD':Value:= .agg #[.int .i64 0, .int .i64 0, .int .i64 0, .int .i64 0, .string ⟨#[]⟩]
theorem dv' {w f:World} {B:Nat} (h:Below B w f) (a b c d e:Value):
  Below B w (((((f.setCell ⟨B,0,none⟩ a).setCell ⟨B,1,none⟩ b).setCell ⟨B,2,none⟩ c).setCell ⟨B,3,none⟩ d).setCell ⟨B,4,none⟩ e):=
 ((((h.setCell (p:=⟨B,0,none⟩) (Nat.le_refl _) a).setCell (p:=⟨B,1,none⟩) (Nat.le_refl _) b).setCell (p:=⟨B,2,none⟩) (Nat.le_refl _) c).setCell (p:=⟨B,3,none⟩) (Nat.le_refl _) d).setCell (p:=⟨B,4,none⟩) (Nat.le_refl _) e
theorem mS' (r:Option Addr) (len cap:Nat) (w:World) (h:(len:Int) < 15):
  Calls Tryz.prog 54 #[.slice r len cap] w fun f w'=>f= .returned (.tuple #[cD', .int .i64 1])/\Below w.heap.size w w':=by
 go_enter Tryz.func54,Tryz.ntmps54;go_wp2_with (go_at_call 94;refine(lC' _ _ _ _ h).mono ?_;rintro f u ⟨rfl,rfl⟩);refine bodyPost_ret (v:= .tuple #[cD', .int .i64 1]) (by simp[results,Tryz.results54,go_sem,cD']) rfl ⟨rfl,?_⟩;exact(Below.refl _ _).alloc (Nat.le_refl _) _
theorem qo' (b off m cap:Nat) (l:List UInt8) (w:World) (z:l.length=m+4) (D:m+4<=maxLen) (F:m+4<=cap) (G:11<=m) (H:whole l=false)
  (f:∀i,i < m+4->w.cell? ⟨b,off+i,none⟩=some (.int .u8 (l.getD i 0).toNat)):
  Calls Tryz.prog 54 #[.slice (some ⟨b,off,none⟩) (m+4) cap] w fun r w'=>r= .returned (.tuple #[cD', .int .i64 1])/\Below w.heap.size w w':=by
 have u:=fun o=>t' (gP' b off m cap l (w.alloc o) z D F G (fun i hi=>by have:=f i hi;rw[<-this];exact World.cell?_alloc_lt _ _ _ (World.block_lt_of_cell? _ _ this)));rw[H]at u;clear f;go_enter Tryz.func54,Tryz.ntmps54;go_wp2_with (go_at_call 94;refine(i' (u _)).mono ?_;rintro r I ⟨rfl,J,rfl⟩);refine bodyPost_ret (v:= .tuple #[cD', .int .i64 1]) (by simp[results,Tryz.results54,go_sem,cD']) rfl ⟨rfl,?_⟩;exact dv' (below_drewN ((Below.refl _ _).alloc (Nat.le_refl _) _) _) _ _ _ _ _
def jV' (l:List UInt8):Value:= .agg #[.int .i64 (Wire.kindOf l), .int .i64 (Wire.epochOf l), .int .i64 (Wire.streamOf l), .int .i64 (Wire.seqOf l), .string (Wire.bodyOf l)]
theorem mT' (l:List UInt8):0<=Wire.kindOf l/\Wire.kindOf l < 256:=by
 have:=(l.getD 0 0).toNat_lt;unfold Wire.kindOf;omega
theorem jW' (l:List UInt8):0<=Wire.streamOf l/\Wire.streamOf l < 256:=by
 have:=(l.getD 5 0).toNat_lt;unfold Wire.streamOf;omega
theorem eD' {n:Int} (h:0<=n/\n < 4294967296):IntKind.i64.wrap n=n:=by rw[IntKind.wrap_i64];omega
theorem of' (b off k cap:Nat) (w:World) (f u r z:Int) (D:ByteArray) (aL:k+15<=9223372036854775807) (aM:k+15<=cap)
  (ah:0<=f/\f < 4294967296) (ai:0<=u/\u < 4294967296) (aj:0<=r/\r < 4294967296) (ak:0<=z/\z < 4294967296) (p:Bool) (U:Wire.proper f u r z D=p)
  (V:∀o,Hid (Calls Tryz.prog 94 #[.slice (some ⟨b,off,none⟩) (k+15) cap] (w.alloc o) fun F w'=>F= .returned (.bool true)/\∃n,w'=(w.alloc o).drewN n))
  (X:Hid (∀w',Below w.heap.size w w'->Below w.heap.size w w'/\w'.cell? ⟨b,off,none⟩=some (.int .u8 f)/\w'.cell? ⟨b,off+5,none⟩=some (.int .u8 r)/\
   (convert 44 9 (.slice (some ⟨b,off+11,none⟩) k (cap - 11))).run Tryz.prog w'= .ok (.string D) w'))
  (Y:Hid (∀w',Below w.heap.size w w'->Calls Tryz.prog 95 #[.slice (some ⟨b,off+1,none⟩) (k+14) (cap - 1)] w' fun e M=>e= .returned (.int .u32 u)/\∃n,M=w'.drewN n))
  (Z:Hid (∀w',Below w.heap.size w w'->Calls Tryz.prog 95 #[.slice (some ⟨b,off+6,none⟩) (k+9) (cap - 6)] w' fun e M=>e= .returned (.int .u32 z)/\∃n,M=w'.drewN n)):
  Calls Tryz.prog 54 #[.slice (some ⟨b,off,none⟩) (k+15) cap] w fun F w'=>
   F= .returned (if p=true then .tuple #[.agg #[.int .i64 f, .int .i64 u, .int .i64 r, .int .i64 z, .string D], .int .i64 0]else .tuple #[cD', .int .i64 1])/\Below w.heap.size w w':=by
 have O:=fun w'=>t' (oe' f u r z D w');rw[U]at O;clear U;have i0:(0:Int) < (k:Int)+15:=by omega
 have i5:(5:Int) < (k:Int)+15:=by omega
 have s1:(1:Int)<=(k:Int)+15:=by omega
 have ao:(6:Int)<=(k:Int)+15:=by omega
 have ap:(11:Int)<=(k:Int)+11:=by omega
 have aq:(k:Int)+11<=(cap:Int):=by omega
 have au:(4:Int)<=(k:Int)+15:=by omega
 have av:(k:Int)+15 - 4<=(cap:Int):=by omega
 have ax:((k:Int)+11).toNat - 11=k:=by omega
 have ay:((k:Int)+15 - 4).toNat - 11=k:=by omega
 have t3:(11:Int)<=max ((k:Int)+15 - 4) 0:=by omega
 have g1:IntKind.i64.wrap ((k:Int)+15 - 4)=(k:Int)+11:=by rw[IntKind.wrap_i64];omega
 have g2:IntKind.i64.wrap (((k+15:Nat):Int) - 4)=(k:Int)+11:=by rw[IntKind.wrap_i64];omega
 have aa:True:=trivial;have k1:¬cap=1:=by omega
 have k6:¬cap=6:=by omega
 have k11:¬cap=11:=by omega
 have az:=eD' ah;have aA:=eD' ai;have aB:=eD' aj;have aC:=eD' ak;go_enter Tryz.func54,Tryz.ntmps54;go_upto_region 3 with (go_at_call 94;refine(i' (V _)).mono ?_;rintro F ab ⟨rfl,aN,rfl⟩);go_region_held3 (fun w'=>Below w.heap.size w w'/\w'.cell? ⟨b,off,none⟩=some (.int .u8 f)/\w'.cell? ⟨b,off+5,none⟩=some (.int .u8 r)/\
  (convert 44 9 (.slice (some ⟨b,off+11,none⟩) k (cap - 11))).run Tryz.prog w'= .ok (.string D) w')
  ((refine i' X _ ?_;repeat (first|with_reducible exact Below.refl _ _|with_reducible refine below_drewN ?_ _|with_reducible refine Below.drew ?_|with_reducible refine Below.alloc ?_ (by simp) _|with_reducible refine Below.setCell ?_ (by simp) _)))
  (first
   |(go_at_call 95;have _:=aa;refine(i' Y _ ?_).mono ?_;(focus (repeat (first|with_reducible exact Below.refl _ _|with_reducible refine below_drewN ?_ _|with_reducible refine Below.drew ?_|with_reducible refine Below.alloc ?_ (by simp) _|with_reducible refine Below.setCell ?_ (by simp) _)));clear aa;rintro F ab ⟨rfl,aD,rfl⟩)
   |(go_at_call 95;refine(i' Z _ ?_).mono ?_;(focus (repeat (first|with_reducible exact Below.refl _ _|with_reducible refine below_drewN ?_ _|with_reducible refine Below.drew ?_|with_reducible refine Below.alloc ?_ (by simp) _|with_reducible refine Below.setCell ?_ (by simp) _)));rintro F ab ⟨rfl,aD,rfl⟩))
 all_goals
  clear X Y Z V i0 i5 s1 ao ap aq au av ax ay t3 g1 g2 k1 k6 k11 az aA aB aC;rename Below _ _ _/\ _=>hH;have I:=hH.1;clear hH
 all_goals
  go_upto_region 4 with fail
  refine C' (fun G=>iV' G w.heap.size 0 0 0 0 ⟨#[]⟩/\iV' G (w.heap.size+1) f u r z D/\(∀i,G.frozen? ⟨w.heap.size,i,none⟩=false)/\Below w.heap.size w G/\w.heap.size+2<=G.heap.size) ⟨by constructor <;> go_simp,by constructor <;> go_simp,by intro i;go_simp,I,by simp⟩ ?_;clear I;rintro G ⟨z0,Q,ac,I,aE⟩
 all_goals
  obtain⟨aF,aG,aH,aI,aJ⟩:=id Q;cases p;all_goals
   go_upto_if 34 with (go_at_call 96;refine(i' (O _)).mono ?_;rintro F aK ⟨rfl,J⟩)
   obtain⟨aO,aP,aQ,aR,aS⟩:=z0.below J (by omega);obtain⟨aT,f31,f32,aU,aV⟩:=Q.below J (by omega);have H:∀i,aK.frozen? ⟨w.heap.size,i,none⟩=false:=fun i=>(J.frozen (p:=⟨w.heap.size,i,none⟩) (by simp;omega)).trans (ac i);have aW:=H 0;have aX:=H 1;have aY:=H 2;have aZ:=H 3;have ba:=H 4;have ad:=I.trans (J.mono (by omega));clear H J z0 Q ac aF aG aH aI aJ O I aE;go_wp2
  ·refine bodyPost_ret (v:= .tuple #[cD', .int .i64 1]) (by simp[results,Tryz.results54,go_sem,cD', *]) rfl ⟨rfl,?_⟩;exact dv' ad _ _ _ _ _
  ·refine bodyPost_ret (v:= .tuple #[.agg #[.int .i64 f, .int .i64 u, .int .i64 r, .int .i64 z, .string D], .int .i64 0]) (by simp[results,Tryz.results54,go_sem, *]) rfl ⟨rfl,?_⟩;exact dv' ad _ _ _ _ _
def Y' (w:World) (v:Value) (l:List UInt8):Prop:=
 ∃f cap,v= .slice f l.length cap/\l.length<=cap/\l.length<=9223372036854775807/\
  (0 < l.length->∃b off,f=some ⟨b,off,none⟩/\∀i,i < l.length->w.cell? ⟨b,off+i,none⟩=some (.int .u8 (l.getD i 0).toNat))
theorem as'.at {B:Nat} {w:World} {v:Value} {l:List UInt8} (h:as' B w v l):Y' w v l:=by
 by_cases h0:0 < l.length
 ·obtain⟨g,cap,rfl,_,_,h1,h2,h3⟩:=h.addr h0;exact⟨_,cap,rfl,h1,by unfold maxLen at h2;omega,fun _=>⟨g,0,rfl,h3⟩⟩
 ·obtain⟨f,cap,rfl,h1⟩:=h.shape;exact⟨f,cap,rfl,h1,by omega,fun h=>absurd h h0⟩
theorem Y'.below {w w':World} {v:Value} {l:List UInt8} (h:Y' w v l) (r:Below w.heap.size w w'):Y' w' v l:=by
 obtain⟨u,cap,rfl,h1,h2,h3⟩:=h;refine⟨u,cap,rfl,h1,h2,fun h0=>?_⟩;obtain⟨b,off,rfl,f⟩:=h3 h0;exact⟨b,off,rfl,fun i hi=>(r.cell (p:=⟨b,off+i,none⟩) (World.block_lt_of_cell? _ ⟨b,off+i,none⟩ (f i hi))).trans (f i hi)⟩
theorem cr' (v:Value) (l:List UInt8) (w:World) (h:Y' w v l):
  Calls Tryz.prog 54 #[v] w fun H w'=>H= .returned (if Wire.reads l=true then .tuple #[jV' l, .int .i64 0]else .tuple #[cD', .int .i64 1])/\Below w.heap.size w w':=by
 obtain⟨I,cap,rfl,u,F,r⟩:=h;by_cases O:l.length < 15
 ·have:Wire.reads l=false:=by unfold Wire.reads whole;rw[decide_eq_false (by omega)];simp
  rw[this];exact mS' I l.length cap w (by omega)
 ·obtain⟨b,off,rfl,G⟩:=r (by omega);clear r;have r:=G;clear G;obtain⟨k,z⟩:∃k,l.length=k+15:=⟨l.length - 15,by omega⟩;rw[z]at u F r;rw[z];cases D:whole l
  ·have:Wire.reads l=false:=by unfold Wire.reads;rw[D];simp
   rw[this];exact qo' b off (k+11) cap l w z (by unfold maxLen;omega) u (by omega) D r
  ·have J:Wire.reads l=Wire.proper (Wire.kindOf l) (Wire.epochOf l) (Wire.streamOf l) (Wire.seqOf l) (Wire.bodyOf l):=by unfold Wire.reads;rw[D];simp
   rw[J];have M:b < w.heap.size:=World.block_lt_of_cell? _ _ (r 0 (by omega));have f:∀w',Below w.heap.size w w'->∀i,i < k+15->w'.cell? ⟨b,off+i,none⟩=some (.int .u8 (l.getD i 0).toNat):=fun w' h i hi=>(h.cell (p:=⟨b,off+i,none⟩) M).trans (r i hi);have k1:=mT' l;have k3:=jW' l;refine of' b off k cap w (Wire.kindOf l) (Wire.epochOf l) (Wire.streamOf l) (Wire.seqOf l) (Wire.bodyOf l) F u ⟨k1.1,by omega⟩ (Wire.numAt_range l 1) ⟨k3.1,by omega⟩ (Wire.numAt_range l 6) _ rfl ?_ ?_ ?_ ?_
   ·intro o;have:=gP' b off (k+11) cap l (w.alloc o) z (by unfold maxLen;omega) u (by omega) (fun i hi=>by have:=r i hi;rw[<-this];exact World.cell?_alloc_lt _ _ _ (World.block_lt_of_cell? _ _ this));rw[D]at this;exact this
   ·intro w' h;refine⟨h,f w' h 0 (by omega),f w' h 5 (by omega),fg' (l:=(l.take (l.length - 4)).drop 11) (by simp;omega) (fun i hi=>?_)⟩;rw[Nat.add_assoc,f w' h (11+i) (by omega)];simp only[List.getD_eq_getElem?_getD,List.getElem?_drop,List.getElem?_take];rw[if_pos (by omega)]
   ·intro w' h;exact dh' b (off+1) (k+14) (cap - 1) _ _ _ _ w' (by omega) (f w' h 1 (by omega)) (f w' h 2 (by omega)) (f w' h 3 (by omega)) (f w' h 4 (by omega))
   ·intro w' h;exact dh' b (off+6) (k+9) (cap - 6) _ _ _ _ w' (by omega) (f w' h 6 (by omega)) (f w' h 7 (by omega)) (f w' h 8 (by omega)) (f w' h 9 (by omega))
theorem gu' (v:Value) (a b c d e:Int) (s:ByteArray) (w:World)
  (z:∀o,Hid (Calls Tryz.prog 54 #[v] (w.alloc o) fun r w'=>r= .returned (.tuple #[.agg #[.int .i64 a, .int .i64 b, .int .i64 c, .int .i64 d, .string s], .int .i64 e])/\Below (w.alloc o).heap.size (w.alloc o) w')):
  Calls Tryz.prog 25 #[v] w fun r w'=>r= .returned (.tuple #[.agg #[.int .i64 a, .int .i64 b, .int .i64 c, .int .i64 d, .string s], .int .i64 e])/\Below w.heap.size w w':=by
 go_enter Tryz.func25,Tryz.ntmps25;go_upto_region 1 with fail;go_wp2_with (go_at_call 54;refine(i' (z _)).mono ?_;rintro r D ⟨rfl,u⟩;obtain⟨z0,G,H,z3,z4⟩:=(ml' w 0 0 0 0 ⟨#[]⟩ 41).below u (by simp);have f:∀i,D.frozen? ⟨w.heap.size,i,none⟩=false:=fun i=>(u.frozen (p:=⟨w.heap.size,i,none⟩) (by simp)).trans (by simp);have I:=f 0;have J:=f 1;have M:=f 2;have O:=f 3;have Q:=f 4;have F:=((Below.refl w.heap.size w).alloc (Nat.le_refl _) (.cells #[.int .i64 0, .int .i64 0, .int .i64 0, .int .i64 0, .string ⟨#[]⟩] 41)).trans (u.mono (by simp));clear f u);refine bodyPost_ret (v:= .tuple #[.agg #[.int .i64 a, .int .i64 b, .int .i64 c, .int .i64 d, .string s], .int .i64 e]) (by simp[results,Tryz.results25,go_sem, *]) rfl ⟨rfl,?_⟩;exact dv' F _ _ _ _ _
theorem gv' (v:Value) (l:List UInt8) (w:World) (h:Y' w v l):
  Calls Tryz.prog 25 #[v] w fun r w'=>r= .returned (if Wire.reads l=true then .tuple #[jV' l, .int .i64 0]else .tuple #[cD', .int .i64 1])/\Below w.heap.size w w':=by
 have f:=fun o=>t' (cr' v l (w.alloc o) (h.below ((Below.refl _ _).alloc (Nat.le_refl _) _)));clear h;cases u:Wire.reads l;all_goals
  simp only[u,if_true,if_false,Bool.false_eq_true]at f ⊢;exact gu' v _ _ _ _ _ _ w f
end Go.Proofs.YtamafdcnbcoegaaGreat
namespace Go.Proofs.YtamafdcnbcoegaaGreat
open Go.RowKit
theorem lD' {z:Array Oper} {rest:List Oper} {o:Oper} {a:Act} {D:Exit->Act->World->Prop} {w:World} (I:o.guard=none) (d s:Operand)
  (J:o.op= .call {callee:= .builtin .copy,args:= #[d,s],argTypes:= #[44,44]}) (B g cap:Nat) (M l:List UInt8) (v:Value)
  (O:as' B w (.slice (some ⟨g,0,none⟩) l.length cap) M) (hd:a.eval d= .slice (some ⟨g,0,none⟩) l.length cap) (Q:Y' w v l) (hl:0 < l.length) (hs:a.eval s=v)
  (h:∀w',as' B w' (.slice (some ⟨g,0,none⟩) l.length cap) l->w.grownBy w' (some g)->wpList Tryz.prog z D rest (a.put o.dst (.int .i64 l.length)) w'):
  wpList Tryz.prog z D (o::rest) a w:=by
 obtain⟨ad,U,rfl,ah,ai,V⟩:=Q;obtain⟨b,off,rfl,F⟩:=V hl;obtain⟨h1,h2⟩:=O;rcases h2 with ⟨h2,_⟩|⟨g',aj,r,e,X,G,ak,Y,Z,ao⟩
 ·cases h2
 injection e with f ap aa;injection f with f;injection f with f;subst f aa;obtain⟨i0,hi,aq,ab,au⟩:=info_parts jS';have av:r.size=cap:=by simpa using Z
 refine wpList_copy_own I d s 44 44 J 5 Tryz.underlying44 (by rw[hi];simp[ab]) g 0 l.length cap ⟨b,off,none⟩ l.length U hd hs r 5 G (bv l) (by rw[am'];simp) ?_ ?_ (cq' l) ?_
 ·intro j ax hj;have u:j < l.length:=by have:=(List.getElem?_eq_some_iff.1 hj).1;rw[am']at this;exact this
  rw[iq' u]at hj;cases hj;by_cases H:j=0
  ·subst H;simpa[Addr.add]using F 0 u
  ·simpa[Addr.add,H]using F j u
 ·rw[am'];omega
 ·rw[am'];refine h _ ⟨by rw[am'];omega, .inr ⟨g,cap,_,rfl,X,setRow_heap w g r _ 5 _ G,by omega,Y,?_,?_⟩⟩ ⟨rfl,rfl,rfl,by simp[World.setRow],fun k _ ac=>setRow_other w g k _ (fun e=>ac (by rw[e]))⟩
  ·simp[am'];omega
  ·simp[am']
theorem dj' {f:Array Oper} {rest:List Oper} {o:Oper} {a:Act} {r:Exit->Act->World->Prop} {w:World} (D:o.guard=none) (l c:Operand)
  (F:o.op=Op.makeSlice 44 l c) (B:Nat) (u z:IntKind) (L C:Int) (n:Nat) (hl:a.eval l= .int u L) (G:a.eval c= .int z C) (H:L=(n:Int)) (I:C=(n:Int)) (U:n<=281474976710656) (J:B<=w.heap.size)
  (h:∀w',as' B w' (.slice (some ⟨w.heap.size,0,none⟩) n n) (List.replicate n 0)->w.grownBy w' none->wpList Tryz.prog f r rest (a.put o.dst (.slice (some ⟨w.heap.size,0,none⟩) n n)) w'):
  wpList Tryz.prog f r (o::rest) a w:=by
 obtain⟨i0,hi,M,O,Q⟩:=info_parts jS';refine wpList_make_full (P:=Tryz.prog) w D l c 44 F B 5 i0 (.int .u8 0) 1 Tryz.underlying44 hi M O u z L C n hl G H I (by rw[Q];omega) (by unfold maxLen;omega) J ?_;intro w' h1 h2;refine h w' ?_ h2;unfold as';have e:bv (List.replicate n 0)=(madeCells (Value.int .u8 0).cells (n * 1)).toList:=by show _=(madeCells #[Value.int .u8 0] (n * 1)).toList;rw[toList_madeCells_one,Nat.mul_one];simp[bv]
 rw[e,List.length_replicate];exact h1
theorem gw' (w:World) (s:ByteArray) (hs:s.size<=140737488355328):
  ∃v w',(convert 9 44 (.string s)).run Tryz.prog w= .ok v w'/\Y' w' v s.data.toList/\Below w.heap.size w w':=by
 refine⟨_,_,run_bytes_of_string w 9 44 5 s Tryz.underlying9 Tryz.underlying44 Tryz.underlying5,?_,?_⟩
 ·have hl:s.data.toList.length=s.size:=by simp
  refine⟨_,_,by rw[hl],by rw[hl];exact grownCap_ge w s.size 0 5,by omega,fun _=>⟨w.heap.size,0,rfl,fun i hi=>?_⟩⟩;rw[hl]at hi;generalize r:bytesRow s (grownCap w s.size 0 5)=C;have u:(w.drew.alloc (.cells C 5 (C.size,C.size+1))).cell? ⟨w.heap.size,0+i,none⟩=C[0+i]? :=by
   unfold World.cell?;have:(w.drew.alloc (.cells C 5 (C.size,C.size+1))).heap[w.heap.size]? =some (.cells C 5 (C.size,C.size+1)):=by show(w.heap.push _)[w.heap.size]? = _;simp
   rw[this];rfl
  rw[u,<-r,Nat.zero_add];have f:i < s.data.size:=hi;unfold bytesRow;rw[Array.getElem?_append_left (by simpa using f)];have z:s.data[i]? =some s.data[i]:=Array.getElem?_eq_getElem f;simp[z]
 ·exact((Below.refl _ _).drew).alloc (Nat.le_refl _) _
end Go.Proofs.YtamafdcnbcoegaaGreat
