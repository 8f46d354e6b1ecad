/-
  Part 1 of a proof: Wire, Wire2, D1, Bs, W1, W2, W3, W4, W5, W6, W7.
-/
import Derived.Below
import Derived.Test.YtamafdcnbcoegabGreatRows
import Derived.WalkKit
import Derived.WalkSpells
import Derived.WalkLawsBesides
import Derived.Deep.QuietTactic
import Derived.BigQuiet
import Derived.Lib.EndianBits
import Derived.Lib.AppendStr
import Derived.Deep.Cut
import Derived.Deep.CutRange
import Derived.Deep.CutBlock
import Derived.Deep.RegionHeld3
import Derived.Laws.ResultCell
import Derived.Laws.CopyOwn
import Derived.Laws.IdiomStrings
namespace Go.Proofs.YtamafdcnbcoegabGreat
namespace Wire
def isNum (n:Int):Bool:=decide (0 ≤ n) && decide (n ≤ 2147483647)
def isStr (n:Int):Bool:=decide (0 ≤ n) && decide (n < 3)
def sumStep (s:Int) (c:UInt8):Int:=(s * 31+(c.toNat:Int)) % 4294967296
def sum (l:List UInt8):Int:=l.foldl sumStep 7
theorem sumStep_range (s:Int) (c:UInt8):0 ≤ sumStep s c∧sumStep s c < 4294967296:=by
 unfold sumStep;omega
theorem foldl_range (l:List UInt8) (s:Int) (h:0 ≤ s∧s < 4294967296):0 ≤ l.foldl sumStep s∧l.foldl sumStep s < 4294967296:=by
 induction l generalizing s with
 | nil => exact h
 | cons c l ih => exact ih _ (sumStep_range s c)
theorem sum_range (l:List UInt8):0 ≤ sum l∧sum l < 4294967296:=foldl_range l 7 (by omega)
theorem sum_snoc (l:List UInt8) (c:UInt8):sum (l ++ [c])=sumStep (sum l) c:=by simp [sum]
theorem sum_take (l:List UInt8) (k:Nat) (h:k < l.length):sum (l.take (k+1))=sumStep (sum (l.take k)) (l.getD k 0):=by
 rw [List.take_succ_eq_append_getElem h,sum_snoc]
 simp [List.getD,h]
def num4 (c0 c1 c2 c3:UInt8):Int:=(c0.toNat:Int)+(c1.toNat:Int) * 256+(c2.toNat:Int) * 65536+(c3.toNat:Int) * 16777216
def numAt (l:List UInt8) (i:Nat):Int:=num4 (l.getD i 0) (l.getD (i+1) 0) (l.getD (i+2) 0) (l.getD (i+3) 0)
def le4 (n:Int):List UInt8:=[UInt8.ofNat (n.toNat % 256),UInt8.ofNat (n.toNat / 256 % 256),UInt8.ofNat (n.toNat / 65536 % 256),UInt8.ofNat (n.toNat / 16777216 % 256)]
theorem num4_range (c0 c1 c2 c3:UInt8):0 ≤ num4 c0 c1 c2 c3∧num4 c0 c1 c2 c3 < 4294967296:=by
 have:=c0.toNat_lt;have:=c1.toNat_lt;have:=c2.toNat_lt;have:=c3.toNat_lt
 unfold num4;omega
theorem numAt_range (l:List UInt8) (i:Nat):0 ≤ numAt l i∧numAt l i < 4294967296:=num4_range _ _ _ _
theorem length_le4 (n:Int):(le4 n).length=4:=rfl
def welBody (b:ByteArray):Bool:=decide (b.size=12) && (decide (numAt b.data.toList 0 ≤ 2147483647) && (decide (numAt b.data.toList 4 ≤ 2147483647) && decide (numAt b.data.toList 8 ≤ 2147483647)))
def ackBody (b:ByteArray):Bool:=decide (b.size=1) && decide ((b.data.toList.getD 0 0).toNat ≤ 7)
def proper (k e s q:Int) (b:ByteArray):Bool :=
 isNum e && (if k=1 ∨ k=5 then decide (s=0) && (decide (q=0) && decide (b.size=0))
 else if k=2 then decide (s=0) && (decide (q=0) && welBody b)
 else if k=3 then isStr s && (decide (q ≠ 0) && (isNum q && decide (b.size ≤ 20)))
 else if k=4 then isStr s && (isNum q && ackBody b)
 else false)
def front (k e s q:Int) (b:List UInt8):List UInt8 :=
 [UInt8.ofNat (k.toNat % 256)] ++ le4 e ++ [UInt8.ofNat (s.toNat % 256)] ++ le4 q ++ [UInt8.ofNat (b.length % 256)] ++ b
def bytes (k e s q:Int) (b:List UInt8):List UInt8:=front k e s q b ++ le4 (sum (front k e s q b))
def whole (l:List UInt8):Bool :=
 decide (15 ≤ l.length) && (decide (l.length=15+(l.getD 10 0).toNat) && decide (numAt l (l.length - 4)=sum (l.take (l.length - 4))))
def kindOf (l:List UInt8):Int:=(l.getD 0 0).toNat
def epochOf (l:List UInt8):Int:=numAt l 1
def streamOf (l:List UInt8):Int:=(l.getD 5 0).toNat
def seqOf (l:List UInt8):Int:=numAt l 6
def bodyOf (l:List UInt8):ByteArray:=⟨((l.take (l.length - 4)).drop 11).toArray⟩
def reads (l:List UInt8):Bool:=whole l && proper (kindOf l) (epochOf l) (streamOf l) (seqOf l) (bodyOf l)
end Wire
end Go.Proofs.YtamafdcnbcoegabGreat
namespace Go.Proofs.YtamafdcnbcoegabGreat
namespace Wire
theorem num4_le4 {n:Int} (h0:0 ≤ n) (h1:n < 4294967296) :
  num4 (UInt8.ofNat (n.toNat % 256)) (UInt8.ofNat (n.toNat / 256 % 256)) (UInt8.ofNat (n.toNat / 65536 % 256)) (UInt8.ofNat (n.toNat / 16777216 % 256))=n:=by
 unfold num4
 simp
 omega
theorem length_front (k e s q:Int) (b:List UInt8):(front k e s q b).length=11+b.length:=by
 simp [front,length_le4];omega
theorem length_bytes (k e s q:Int) (b:List UInt8):(bytes k e s q b).length=15+b.length:=by
 simp [bytes,length_front,length_le4];omega
theorem at10_bytes (k e s q:Int) (b:List UInt8) (hb:b.length < 256):((bytes k e s q b).getD 10 0).toNat=b.length:=by
 simp [bytes,front,le4]
 omega
theorem parts_bytes {k e s q:Int} {b:ByteArray} (hk:0 ≤ k∧k < 256) (he:0 ≤ e∧e < 4294967296) (hs:0 ≤ s∧s < 256) (hq:0 ≤ q∧q < 4294967296) (hb:b.size < 256) :
  whole (bytes k e s q b.data.toList)=true∧kindOf (bytes k e s q b.data.toList)=k∧epochOf (bytes k e s q b.data.toList)=e∧streamOf (bytes k e s q b.data.toList)=s ∧
   seqOf (bytes k e s q b.data.toList)=q∧bodyOf (bytes k e s q b.data.toList)=b:=by
 have hbl:b.data.toList.length=b.size:=by simp
 have hl:=length_bytes k e s q b.data.toList
 have hlf:=length_front k e s q b.data.toList
 have htake:(bytes k e s q b.data.toList).take ((bytes k e s q b.data.toList).length - 4)=front k e s q b.data.toList:=by
  rw [hl];unfold bytes
  rw [List.take_append_of_le_length (by omega),List.take_of_length_le (by omega)]
 have hsr:=sum_range (front k e s q b.data.toList)
 refine ⟨?_,?_,?_,?_,?_,?_⟩
 ·unfold whole
  have hnum:numAt (bytes k e s q b.data.toList) ((bytes k e s q b.data.toList).length - 4)=sum (front k e s q b.data.toList):=by
   have hz:(bytes k e s q b.data.toList).length - 4=(front k e s q b.data.toList).length:=by omega
   rw [hz]
   unfold numAt bytes
   generalize front k e s q b.data.toList=f at *
   have g:∀ i,(f ++ le4 (sum f)).getD (f.length+i) 0=(le4 (sum f)).getD i 0:=by
    intro i
    rw [List.getD_eq_getElem?_getD,List.getD_eq_getElem?_getD,List.getElem?_append_right (by omega)]
    congr 2
    omega
   have g0:=g 0
   rw [Nat.add_zero] at g0
   rw [g0,g 1,g 2,g 3]
   exact num4_le4 hsr.1 hsr.2
  rw [htake,hnum,at10_bytes k e s q _ (by omega)]
  simp [hl]
 ·simp [kindOf,bytes,front];omega
 ·have:=num4_le4 he.1 he.2
  simpa [epochOf,numAt,bytes,front,le4] using this
 ·simp [streamOf,bytes,front,le4];omega
 ·have:=num4_le4 hq.1 hq.2
  simpa [seqOf,numAt,bytes,front,le4] using this
 ·unfold bodyOf
  rw [htake]
  apply ByteArray.ext
  simp [front,le4]
end Wire
end Go.Proofs.YtamafdcnbcoegabGreat
namespace Go.Proofs.YtamafdcnbcoegabGreat
namespace Mod
def stampB (o c:Nat):List UInt8:=Wire.le4 (o:Int) ++ Wire.le4 ((c % 4294967296:Nat):Int) ++ Wire.le4 ((c / 4294967296:Nat):Int)
theorem length_stampB (o c:Nat):(stampB o c).length=12:=rfl
def sealB (o c:Nat) (inside:List UInt8):List UInt8:=stampB o c ++ (inside ++ List.replicate (40 - inside.length) 0) ++ stampB o c
theorem length_sealB (o c:Nat) {inside:List UInt8} (h:inside.length ≤ 40):(sealB o c inside).length=64:=by
 simp [sealB,length_stampB];omega
def headIn (a b c:Nat):List UInt8:=Wire.le4 (a:Int) ++ Wire.le4 (b:Int) ++ Wire.le4 (c:Int)
theorem length_headIn (a b c:Nat):(headIn a b c).length=12:=rfl
def recIn (st q:Nat) (b:List UInt8):List UInt8:=[UInt8.ofNat (st % 256),UInt8.ofNat (b.length % 256)] ++ Wire.le4 (q:Int) ++ b
theorem length_recIn (st q:Nat) (b:List UInt8):(recIn st q b).length=6+b.length:=by simp [recIn,Wire.length_le4];omega
def setSec (l:List UInt8) (k:Nat) (s:List UInt8):List UInt8:=l.take (64 * k) ++ s ++ l.drop (64 * k+64)
theorem length_setSec {l s:List UInt8} {k:Nat} (hs:s.length=64) (hk:64 * k+64 ≤ l.length):(setSec l k s).length=l.length:=by
 simp [setSec,hs];omega
structure Dk where
 bytes:List UInt8
 armed:Nat
 dead:Bool
def Dk.put (d:Dk) (k:Nat) (s:List UInt8):Int × Dk :=
 if d.dead=true then (3,d) else if d.armed=1 then (4,{ d with dead:=true }) else (0,{ bytes:=setSec d.bytes k s,armed:=d.armed - 1,dead:=false })
structure Stv where
 opening:Nat
 count:Nat
 head:Nat
 dk:Dk
def Stv.next (s:Stv):Nat:=(s.count+1) % 18446744073709551616
def Stv.putNumbers (s:Stv) (a b c:Nat):Int × Stv :=
 ((s.dk.put (1 - s.head) (sealB s.opening s.next (headIn a b c))).1,{ s with head:=1 - s.head,count:=s.next,dk:=(s.dk.put (1 - s.head) (sealB s.opening s.next (headIn a b c))).2 })
def Stv.putRecord (s:Stv) (place st q:Nat) (b:List UInt8):Int × Stv :=
 ((s.dk.put (2+place) (sealB s.opening s.next (recIn st q b))).1,{ s with count:=s.next,dk:=(s.dk.put (2+place) (sealB s.opening s.next (recIn st q b))).2 })
end Mod
end Go.Proofs.YtamafdcnbcoegabGreat
namespace Go.Proofs.YtamafdcnbcoegabGreat
open Go.RowKit
theorem hide {p:Prop} (h:p):Hid p:=h
theorem unhide {p:Prop} (h:Hid p):p:=h
theorem ret_b {a b:Bool} (h:a=b):Ending.returned (.bool a)=Ending.returned (.bool b):=by rw [h]
theorem ret_i {k:IntKind} {a b:Int} (h:a=b):Ending.returned (.int k a)=Ending.returned (.int k b):=by rw [h]
theorem cellN {w:World} {a:Addr} {v:Value} (n:Nat) (h:w.cell? a=some v):(w.drewN n).cell? a=some v:=h
def bv (l:List UInt8):List Value:=l.map fun c => .int .u8 c.toNat
theorem bv_append (l m:List UInt8):bv (l ++ m)=bv l ++ bv m:=by simp [bv]
theorem bv_length (l:List UInt8):(bv l).length=l.length:=by simp [bv]
theorem bv_get {l:List UInt8} {i:Nat} (h:i < l.length):(bv l)[i]? = some (.int .u8 (l.getD i 0).toNat):=by
 simp [bv,h]
theorem bv_oneCell (l:List UInt8):∀ u ∈ bv l,u.oneCell' = true:=by
 intro u hu;simp only [bv,List.mem_map] at hu;obtain ⟨c,_,rfl⟩:=hu;rfl
theorem bv_le4 {n:Int} (h0:0 ≤ n):bv (Wire.le4 n) = [.int .u8 (n % 256),.int .u8 (n / 256 % 256),.int .u8 (n / 65536 % 256),.int .u8 (n / 16777216 % 256)]:=by
 obtain ⟨m,rfl⟩:=Int.eq_ofNat_of_zero_le h0
 simp [bv,Wire.le4]
theorem bv_byte {n:Int} (h0:0 ≤ n) (h1:n < 256):bv [UInt8.ofNat (n.toNat % 256)] = [.int .u8 n]:=by
 obtain ⟨m,rfl⟩:=Int.eq_ofNat_of_zero_le h0
 have:m % 256=m:=by omega
 simp [bv,this]
theorem bv_str (s:ByteArray):Lib.strCells s=bv s.data.toList:=rfl
theorem info5:(Tryz.prog.info? 5).map (fun i => (i.zero,i.size,i.bytes))=some (some (.int .u8 0),1,1):=by kernel_rfl
theorem cells_new {w:World} {l:List Value} {e:TypeId}:∀ j u,l[j]? = some u→(w.alloc (.cells l.toArray e)).cell? ((⟨w.heap.size,0,none⟩:Addr).add j)=some u:=by
 intro j u h
 by_cases hj:j=0
 ·subst hj;simpa [Addr.add] using h
 ·simpa [Addr.add,hj] using h
def Owns (B:Nat) (w:World) (v:Value) (l:List UInt8):Prop:=w.ownsRow B 5 1 v l.length (bv l)
theorem Owns.alloc {B:Nat} {w:World} {v:Value} {l:List UInt8} (h:Owns B w v l) (o:Obj):Owns B (w.alloc o) v l:=World.ownsRow.alloc h o
theorem owns_nil (B:Nat) (w:World):Owns B w (.slice none 0 0) []:=World.ownsRow_nil _ _ _ _
theorem Owns.mono {B B':Nat} {w:World} {v:Value} {l:List UInt8} (h:Owns B w v l) (hB:B' ≤ B):Owns B' w v l:=by
 obtain ⟨h1,h2⟩:=h
 refine ⟨h1,?_⟩
 rcases h2 with h2 | ⟨g,cap,cur,e,hb,r⟩
 ·exact .inl h2
 ·exact .inr ⟨g,cap,cur,e,by omega,r⟩
theorem Owns.below {B C:Nat} {w w':World} {v:Value} {l:List UInt8} (h:Owns B w v l) (hb:Below C w w') (hC:∀ g,v.ownBlock=some g→g < C):Owns B w' v l:=by
 obtain ⟨h1,h2⟩:=h
 refine ⟨h1,?_⟩
 rcases h2 with h2 | ⟨g,cap,cur,e,hB,hh,r⟩
 ·exact .inl h2
 ·subst e
  exact .inr ⟨g,cap,cur,rfl,hB,by rw [hb.block g (hC g rfl)];exact hh,r⟩
theorem Owns.lt {B:Nat} {w:World} {v:Value} {l:List UInt8} (h:Owns B w v l):∀ g,v.ownBlock=some g→B ≤ g∧g < w.heap.size:=World.ownsRow.lt h
theorem Owns.addr {B:Nat} {w:World} {v:Value} {l:List UInt8} (h:Owns B w v l) (hl:0 < l.length) :
  ∃ g cap,v = .slice (some ⟨g,0,none⟩) l.length cap∧B ≤ g∧g < w.heap.size∧l.length ≤ cap∧cap ≤ maxLen∧∀ i,i < l.length→w.cell? ⟨g,0+i,none⟩=some (.int .u8 (l.getD i 0).toNat):=by
 have h0:=h
 obtain ⟨h1,h2⟩:=h
 rcases h2 with ⟨_,h2⟩ | ⟨g,cap,cur,e,hB,hh,hc1,hc2,_,ht⟩
 ·omega
 ·subst e
  refine ⟨g,cap,rfl,hB,lt_of_block hh,hc1,hc2,fun i hi => ?_⟩
  have:=World.ownsRow.cellAt h0 i (by omega)
  rw [Nat.zero_add,this,bv_get hi]
theorem Owns.shape {B:Nat} {w:World} {v:Value} {l:List UInt8} (h:Owns B w v l):∃ ad cap,v = .slice ad l.length cap∧l.length ≤ cap:=by
 obtain ⟨h1,h2⟩:=h
 rcases h2 with ⟨e,h2⟩ | ⟨g,cap,cur,e,hB,hh,hc1,hc2,_,ht⟩
 ·exact ⟨none,0,by rw [h2];exact e,by omega⟩
 ·exact ⟨_,cap,e,hc1⟩
theorem below_grown_new {B:Nat} {w w':World} {row:Option Nat} (hg:w.grownBy w' row) (hB:B ≤ w.heap.size) (hr:∀ k,row=some k→B ≤ k):Below B w w' :=
 (Below.refl B w).grown hg hB hr
theorem wp_app_bytes {ops:Array Oper} {rest:List Oper} {o:Oper} {a:Act} {Q:Exit→Act→World→Prop} {w:World} (hgd:o.guard=none) (s x:Operand)
  (ho:o.op = .call { callee:=.builtin .append,args:=#[s,x],argTypes:=#[48,48] }) (B:Nat) (v:Value) (l:List UInt8) (hown:Owns B w v l) (hs:a.eval s=v)
  (ad:Addr) (m c:Nat) (news:List UInt8) (hx:a.eval x = .slice (some ad) m c) (hl:news.length=m) (hnews:∀ j u,(bv news)[j]? = some u→w.cell? (ad.add j)=some u)
  (hsz:l.length+m ≤ 140737488355328) (hB:B ≤ w.heap.size)
  (h:∀ v' w',Owns B w' v' (l ++ news)→w.grownBy w' v.ownBlock→wpList Tryz.prog ops Q rest (a.put o.dst v') w'):wpList Tryz.prog ops Q (o :: rest) a w:=by
 obtain ⟨i0,hi,hz0,hz1,hz2⟩:=info_parts info5
 refine wpList_append_own (P:=Tryz.prog) _ hgd s x 48 ho B 5 i0 (.int .u8 0) 1 1 Tryz.underlying48 hi hz0 hz1 hz2 rfl (by decide) v l.length (bv l) hs hown ad m c (bv news) hx
  (by rw [bv_length,hl];omega) hnews (bv_oneCell news) (by unfold maxLen;omega) (by omega) hB ?_
 intro v' w' h1 h2 _
 refine h v' w' ?_ h2
 unfold Owns
 rw [bv_append,List.length_append,hl]
 exact h1
theorem wp_app_byte {ops:Array Oper} {rest:List Oper} {o:Oper} {a:Act} {Q:Exit→Act→World→Prop} {w:World} (hgd:o.guard=none) (s x:Operand)
  (ho:o.op = .call { callee:=.builtin .append,args:=#[s,x],argTypes:=#[48,48] }) (B:Nat) (v:Value) (l:List UInt8) (n:Int) (hown:Owns B w v l) (hs:a.eval s=v)
  (hx:a.eval x = .slice (some ⟨w.heap.size,0,none⟩) 1 1) (h0:0 ≤ n) (h1:n < 256)
  (hsz:l.length+1 ≤ 140737488355328) (hB:B ≤ w.heap.size)
  (h:∀ v' w',Owns B w' v' (l ++ [UInt8.ofNat (n.toNat % 256)])→w.grownBy w' v.ownBlock→wpList Tryz.prog ops Q rest (a.put o.dst v') w') :
  wpList Tryz.prog ops Q (o :: rest) a (w.alloc (.cells #[.int .u8 n] 5)):=by
 refine wp_app_bytes (w:=w.alloc (.cells #[.int .u8 n] 5)) hgd s x ho B v l (hown.alloc _) hs ⟨w.heap.size,0,none⟩ 1 1 [UInt8.ofNat (n.toNat % 256)] hx rfl
  (by rw [bv_byte h0 h1];exact cells_new) hsz (by simp;omega) ?_
 intro v' w' h2 h3
 refine h v' w' h2 ⟨h3.os,h3.tape,h3.output,by have:=h3.size;simp at this;omega,fun k hk hr => ?_⟩
 rw [h3.block k (by simp;omega) hr]
 exact Below.heap_alloc _ _ _ hk
theorem wp_app_str {ops:Array Oper} {rest:List Oper} {o:Oper} {a:Act} {Q:Exit→Act→World→Prop} {w:World} (hgd:o.guard=none) (s x:Operand)
  (ho:o.op = .call { callee:=.builtin .append,args:=#[s,x],argTypes:=#[48,9] }) (B:Nat) (v:Value) (l:List UInt8) (hown:Owns B w v l) (hs:a.eval s=v)
  (str:ByteArray) (hx:a.eval x = .string str) (hsz:l.length+str.size ≤ 140737488355328) (hB:B ≤ w.heap.size)
  (h:∀ v' w',Owns B w' v' (l ++ str.data.toList)→w.grownBy w' v.ownBlock→wpList Tryz.prog ops Q rest (a.put o.dst v') w'):wpList Tryz.prog ops Q (o :: rest) a w:=by
 obtain ⟨i0,hi,hz0,hz1,hz2⟩:=info_parts info5
 obtain ⟨v',w',hr,h1,h2,_⟩:=Lib.run_append_own_string (P:=Tryz.prog) w B 48 9 o.type 5 i0 Tryz.underlying48 Tryz.underlying9 hi hz0 hz1 hz2 v l.length (bv l) hown str
  (by unfold maxLen;omega) hsz hB
 refine wpList_plain hgd fun K hK' => ?_
 unfold Oper.wp execOp
 simp only [ho,resolve,invoke,builtin,Sem.run_bind,Sem.run_pure,Result.andThen_ok,List.map_toArray,List.map_cons,List.map_nil,hs,hx,hr]
 refine hK' _ _ (h v' w' ?_ h2)
 unfold Owns
 rw [bv_append,List.length_append,← bv_str]
 have:str.data.toList.length=str.size:=by simp
 rw [this]
 exact h1
theorem wp_make_bytes {ops:Array Oper} {rest:List Oper} {o:Oper} {a:Act} {Q:Exit→Act→World→Prop} {w:World} (hgd:o.guard=none) (l c:Operand)
  (ho:o.op=Op.makeSlice 48 l c) (B:Nat) (kl kc:IntKind) (C:Int) (n:Nat) (hl:a.eval l = .int kl 0) (hc:a.eval c = .int kc C) (hC:C=(n:Int)) (hsz:n ≤ 140737488355328) (hB:B ≤ w.heap.size)
  (h:∀ w',Owns B w' (.slice (some ⟨w.heap.size,0,none⟩) 0 n) [] → w.grownBy w' none→wpList Tryz.prog ops Q rest (a.put o.dst (.slice (some ⟨w.heap.size,0,none⟩) 0 n)) w') :
  wpList Tryz.prog ops Q (o :: rest) a w:=by
 obtain ⟨i0,hi,hz0,hz1,hz2⟩:=info_parts info5
 exact wpList_make_own (P:=Tryz.prog) w hgd l c 48 ho B 5 i0 (.int .u8 0) 1 Tryz.underlying48 hi hz0 hz1 kl kc C n hl hc hC (by rw [hz2];omega) (by unfold maxLen;omega) hB h
theorem wp_world {P:Program} {c:Code} {Q:Exit→Act→World→Prop} {a:Act} {w:World} (R:World→Prop) (h:R w) (k:∀ w,R w→c.wp P Q a w):c.wp P Q a w:=k w h
theorem conv_str {w:World} {b off n cap:Nat} {l:List UInt8} (hl:l.length=n) (hc:∀ i,i < n→w.cell? ⟨b,off+i,none⟩=some (.int .u8 (l.getD i 0).toNat)) :
  (convert 48 9 (.slice (some ⟨b,off,none⟩) n cap)).run Tryz.prog w = .ok (.string ⟨l.toArray⟩) w:=by
 have h:=run_convert_bytes_arg (P:=Tryz.prog) w 48 5 Tryz.underlying48 Tryz.underlying5 b off n cap (l.map fun c => (c.toNat:Int)) (by simp [hl])
  (fun i hi => by rw [hc i hi];simp [List.getD_eq_getElem?_getD,List.getElem?_map];cases h:l[i]? <;> simp) 9 Tryz.underlying9
 have e:strOfNums (l.map fun c => (c.toNat:Int))=⟨l.toArray⟩:=by
  unfold strOfNums
  rw [List.map_map]
  have:(fun n:Int => UInt8.ofNat n.toNat) ∘ (fun c:UInt8 => (c.toNat:Int))=id:=by funext c;simp
  rw [this,List.map_id]
 rw [e] at h
 exact h
end Go.Proofs.YtamafdcnbcoegabGreat
namespace Go.Proofs.YtamafdcnbcoegabGreat
open Go.RowKit
theorem isNum_yes {n:Int} (h0:0 ≤ n):Wire.isNum n=decide (n ≤ 2147483647):=by simp [Wire.isNum,h0]
theorem isNum_no {n:Int} (h0:n < 0):Wire.isNum n=false:=by simp [Wire.isNum];omega
theorem isStr_yes {n:Int} (h0:0 ≤ n):Wire.isStr n=decide (n < 3):=by simp [Wire.isStr,h0]
theorem isStr_no {n:Int} (h0:n < 0):Wire.isStr n=false:=by simp [Wire.isStr];omega
set_option maxHeartbeats 400000 in
theorem isNumber_any (n:Int) (w:World) :
  Calls Tryz.prog 138 #[.int .i64 n] w fun e w' => e = .returned (.bool (Wire.isNum n))∧w' = w:=by
 by_cases h:n < 0
 all_goals
  go_enter Tryz.func138,Tryz.ntmps138
  go_wp2
  go_ret
 ·exact ⟨ret_b (isNum_no h).symm,rfl⟩
 ·exact ⟨ret_b (isNum_yes (by omega)).symm,rfl⟩
set_option maxHeartbeats 400000 in
theorem isStream_any (n:Int) (w:World) :
  Calls Tryz.prog 71 #[.int .i64 n] w fun e w' => e = .returned (.bool (Wire.isStr n))∧w' = w:=by
 by_cases h:n < 0
 all_goals
  go_enter Tryz.func71,Tryz.ntmps71
  go_wp2
  go_ret
 ·exact ⟨ret_b (isStr_no h).symm,rfl⟩
 ·exact ⟨ret_b (isStr_yes (by omega)).symm,rfl⟩
theorem ackBody_yes {s:ByteArray} (h:(s.size:Int)=1) (hp:0 < s.size):Wire.ackBody s=decide ((s[0].toNat:Int) ≤ 7):=by
 have h1:s.size=1:=by omega
 have h2:s.data.toList.getD 0 0=s[0]:=by
  have:(0:Nat) < s.data.toList.length:=by simpa using hp
  rw [List.getD_eq_getElem?_getD,List.getElem?_eq_getElem this];rfl
 rw [Wire.ackBody,h2,decide_eq_true h1,Bool.true_and]
 by_cases h3:s[0].toNat ≤ 7
 ·rw [decide_eq_true h3,decide_eq_true (by omega)]
 ·rw [decide_eq_false h3,decide_eq_false (by omega)]
theorem ackBody_no {s:ByteArray} (h:¬ (s.size:Int)=1):Wire.ackBody s=false:=by
 have h1:¬ s.size=1:=by omega
 simp [Wire.ackBody,h1]
set_option maxHeartbeats 400000 in
theorem isAckBody_any (s:ByteArray) (w:World) :
  Calls Tryz.prog 140 #[.string s] w fun e w' => e = .returned (.bool (Wire.ackBody s))∧w' = w:=by
 by_cases h:(s.size:Int)=1
 ·have hp:0 < s.size:=by omega
  go_enter Tryz.func140,Tryz.ntmps140
  go_wp2
  go_ret
  exact ⟨ret_b (ackBody_yes h hp).symm,rfl⟩
 ·go_enter Tryz.func140,Tryz.ntmps140
  go_wp2
  go_ret
  exact ⟨ret_b (ackBody_no h).symm,rfl⟩
theorem or4 (c0 c1 c2 c3:UInt8) :
  bits BinOp.or IntKind.u32 (bits BinOp.or IntKind.u32 (bits BinOp.or IntKind.u32 ((c0.toNat:Int) % 4294967296) ((c1.toNat:Int) % 4294967296 * 256 % 4294967296))
   ((c2.toNat:Int) % 4294967296 * 65536 % 4294967296)) ((c3.toNat:Int) % 4294967296 * 16777216 % 4294967296)=Wire.num4 c0 c1 c2 c3:=by
 have h0:=c0.toNat_lt;have h1:=c1.toNat_lt;have h2:=c2.toNat_lt;have h3:=c3.toNat_lt
 have e0:(c0.toNat:Int) % 4294967296=c0.toNat:=by omega
 have e1:(c1.toNat:Int) % 4294967296 * 256 % 4294967296=c1.toNat * 256:=by omega
 have e2:(c2.toNat:Int) % 4294967296 * 65536 % 4294967296=c2.toNat * 65536:=by omega
 have e3:(c3.toNat:Int) % 4294967296 * 16777216 % 4294967296=c3.toNat * 16777216:=by omega
 rw [e0,e1,e2,e3,u32_or8 (c0.toNat:Int) ((c1.toNat:Int) * 256) (by omega) (by omega) (by omega) (by omega) (by omega),
  u32_or16 ((c0.toNat:Int)+(c1.toNat:Int) * 256) ((c2.toNat:Int) * 65536) (by omega) (by omega) (by omega) (by omega) (by omega),
  u32_or24 ((c0.toNat:Int)+(c1.toNat:Int) * 256+(c2.toNat:Int) * 65536) ((c3.toNat:Int) * 16777216) (by omega) (by omega) (by omega) (by omega) (by omega)]
 unfold Wire.num4;omega
set_option maxHeartbeats 400000 in
theorem number_bytes (b off len cap:Nat) (c0 c1 c2 c3:UInt8) (w:World) (hl:4 ≤ len)
  (h0:w.cell? ⟨b,off,none⟩=some (.int .u8 c0.toNat)) (h1:w.cell? ⟨b,off+1,none⟩=some (.int .u8 c1.toNat))
  (h2:w.cell? ⟨b,off+2,none⟩=some (.int .u8 c2.toNat)) (h3:w.cell? ⟨b,off+3,none⟩=some (.int .u8 c3.toNat)) :
  Calls Tryz.prog 109 #[.slice (some ⟨b,off,none⟩) len cap] w fun e w' => e = .returned (.int .u32 (Wire.num4 c0 c1 c2 c3))∧∃ n,w' = w.drewN n:=by
 go_enter Tryz.func109,Tryz.ntmps109
 go_wp2
 go_quiet (fail)
 go_wp2
 go_ret
 exact ⟨ret_i (or4 _ _ _ _),_,rfl⟩
set_option maxHeartbeats 400000 in
theorem number_string (s:ByteArray) (w:World) (h0:0 < s.size) (h1:1 < s.size) (h2:2 < s.size) (h3:3 < s.size) :
  Calls Tryz.prog 165 #[.string s] w fun e w' => e = .returned (.int .u32 (Wire.num4 s[0] s[1] s[2] s[3]))∧∃ n,w' = w.drewN n:=by
 have i0:(0:Int) < (s.size:Int):=by omega
 have i1:(1:Int) < (s.size:Int):=by omega
 have i2:(2:Int) < (s.size:Int):=by omega
 have i3:(3:Int) < (s.size:Int):=by omega
 go_enter Tryz.func165,Tryz.ntmps165
 go_wp2
 go_quiet (fail)
 go_wp2
 go_ret
 exact ⟨ret_i (or4 _ _ _ _),_,rfl⟩
theorem take_all {l:List UInt8} {k len:Nat} (hlen:l.length=len) (hk:k ≤ len) (h:¬ k < len):l.take k=l:=List.take_of_length_le (by omega)
theorem sum_round {l:List UInt8} {k:Nat} (hk:k < l.length) :
  (Wire.sum (l.take k) * 31 % 4294967296+(l[k].toNat:Int) % 4294967296) % 4294967296=Wire.sum (l.take (k+1)):=by
 rw [Wire.sum_take l k hk,Wire.sumStep,List.getD_eq_getElem?_getD,List.getElem?_eq_getElem hk]
 simp
set_option maxHeartbeats 400000 in
theorem sum_bytes (b off len cap:Nat) (l:List UInt8) (w:World) (hlen:l.length=len) (hm:len ≤ maxLen)
  (hc:∀ i,i < len→w.cell? ⟨b,off+i,none⟩=some (.int .u8 (l.getD i 0).toNat)) :
  Calls Tryz.prog 104 #[.slice (some ⟨b,off,none⟩) len cap] w fun e w' => e = .returned (.int .u32 (Wire.sum l))∧w' = w:=by
 unfold maxLen at hm
 go_enter Tryz.func104,Tryz.ntmps104
 go_wp2
 go_loop [3,8] (fun s i => ∃ k:Nat,k ≤ len∧i = .int .i64 k∧s = .int .u32 (Wire.sum (l.take k))) (fun _ i => len - (intOf i).toNat)
 case atStart => exact ⟨0,Nat.zero_le _,rfl,rfl⟩
 case round =>
  obtain ⟨k,hk,rfl,rfl⟩:=hrel
  have hcell:k < len→w.cell? ⟨b,off+k,none⟩=some (.int .u8 (l.getD k 0).toNat):=fun _ => hc k (by omega)
  by_cases hlt:k < len
  ·go_wp2
   go_round
   case rel => exact ⟨k+1,by omega,by go_num,congrArg (Value.int .u32) (sum_round (by omega))⟩
   case measure => simp [intOf];omega
  ·have ht:Hid (l.take k=l):=take_all hlen hk hlt
   go_wp2
   go_ret
   exact ⟨congrArg (fun l => Ending.returned (.int .u32 (Wire.sum l))) ht.out,rfl⟩
theorem numAt_zero (x:ByteArray) (h:4 ≤ x.size):Wire.num4 (x[0]'(by omega)) (x[1]'(by omega)) (x[2]'(by omega)) (x[3]'(by omega))=Wire.numAt x.data.toList 0:=by
 have g:∀ i (hi:i < x.size),x.data.toList.getD i 0=x[i]:=by
  intro i hi
  have hl:i < x.data.toList.length:=by simpa using hi
  rw [List.getD_eq_getElem?_getD,List.getElem?_eq_getElem hl];rfl
 unfold Wire.numAt
 rw [g 0 (by omega),g (0+1) (by omega),g (0+2) (by omega),g (0+3) (by omega)]
theorem numAt_extract (s:ByteArray) (a:Nat) (h:a+4 ≤ s.size):Wire.numAt (s.extract a s.size).data.toList 0=Wire.numAt s.data.toList a:=by
 have g:∀ i,i < 4→(s.extract a s.size).data.toList.getD i 0=s.data.toList.getD (a+i) 0:=by
  intro i hi
  have hz:s.data.size=s.size:=rfl
  simp only [ByteArray.data_extract,Array.toList_extract,List.getD_eq_getElem?_getD,List.extract_eq_take_drop,List.getElem?_take,List.getElem?_drop]
  rw [if_pos (by omega)]
 unfold Wire.numAt
 rw [g 0 (by omega),g (0+1) (by omega),g (0+2) (by omega),g (0+3) (by omega)]
 simp only [Nat.zero_add,Nat.add_zero]
theorem number_str (x:ByteArray) (w:World) (h:4 ≤ x.size) :
  Calls Tryz.prog 165 #[.string x] w fun e w' => e = .returned (.int .u32 (Wire.numAt x.data.toList 0))∧∃ n,w' = w.drewN n:=by
 have:=number_string x w (by omega) (by omega) (by omega) (by omega)
 rw [numAt_zero x h] at this
 exact this
def upTo (s:ByteArray) (k:Nat):Prop:=∀ j,j < k→Wire.numAt s.data.toList (4 * j) ≤ 2147483647
theorem welBody_yes {s:ByteArray} (h:(s.size:Int)=12) (h':upTo s 3):Wire.welBody s=true:=by
 have a0:=h' 0 (by omega);have a1:=h' 1 (by omega);have a2:=h' 2 (by omega)
 simp at a0 a1 a2
 unfold Wire.welBody
 simp [a0,a1,a2];omega
theorem modify_push (a:Array Obj) (o:Obj) (f:Obj→Obj):(a.push o).modify a.size f=a.push (f o):=by
 apply Array.ext
 ·simp
 ·intro j h1 h2
  simp only [Array.getElem_modify,Array.getElem_push]
  simp at h1
  by_cases hj:a.size=j
  ·subst hj;simp
  ·have:j < a.size:=by omega
   simp [hj,this]
theorem set_last {w:World} {C:Array Value} {T:TypeId} {b:Nat} (i:Nat) (v:Value) (n:Nat) (hb:b=w.heap.size):((w.alloc (.cells C T)).drewN n).setCell ⟨b,i,none⟩ v=(w.alloc (.cells (C.setIfInBounds i v) T)).drewN n:=by
 subst hb
 unfold World.setCell World.alloc World.drewN
 simp only [modify_push]
 rfl
def com3 (n0 n1 n2:Int):Nat→Array Value
 | 0 => #[.int .i64 0,.int .i64 0,.int .i64 0]
 | 1 => #[.int .i64 n0,.int .i64 0,.int .i64 0]
 | 2 => #[.int .i64 n0,.int .i64 n1,.int .i64 0]
 | _ => #[.int .i64 n0,.int .i64 n1,.int .i64 n2]
theorem numAt_nonneg (l:List UInt8) (i:Nat):0 ≤ Wire.numAt l i∧Wire.numAt l i < 4294967296:=by
 unfold Wire.numAt Wire.num4
 have h0:=(l.getD i 0).toNat_lt;have h1:=(l.getD (i+1) 0).toNat_lt;have h2:=(l.getD (i+2) 0).toNat_lt;have h3:=(l.getD (i+3) 0).toNat_lt
 omega
set_option maxHeartbeats 1000000 in
theorem Committed_any (s:ByteArray) (w:World) (h:s.size=12) :
  Calls Tryz.prog 116 #[.string s] w fun e w' => e = .returned (.agg #[.int .i64 (Wire.numAt s.data.toList 0),.int .i64 (Wire.numAt s.data.toList 4),.int .i64 (Wire.numAt s.data.toList 8)])∧Below w.heap.size w w':=by
 have g:∀ k,0 < k→k < 3→∀ w,Calls Tryz.prog 165 #[.string (s.extract (4 * k) s.size)] w fun e w' => e = .returned (.int .u32 (Wire.numAt s.data.toList (4 * k)))∧∃ n,w' = w.drewN n:=by
  intro k _ hk w
  have hx:=numAt_extract s (4 * k) (by omega)
  have hsz:(s.extract (4 * k) s.size).size=s.size - 4 * k:=by simp
  rw [← hx]
  exact number_str _ w (by omega)
 have g0:=hide (fun w => number_str s w (by omega));have g1:=hide (g 1 (by omega) (by omega));have g2:=hide (g 2 (by omega) (by omega))
 clear g
 have i4:(4:Int) ≤ (s.size:Int):=by omega
 have i8:(8:Int) ≤ (s.size:Int):=by omega
 have m4:4 ≤ s.size:=by omega
 have m8:8 ≤ s.size:=by omega
 clear h
 simp only [Nat.mul_one,Nat.reduceMul] at g0 g1 g2
 have b0:=numAt_nonneg s.data.toList 0
 have b1:=numAt_nonneg s.data.toList 4
 have b2:=numAt_nonneg s.data.toList 8
 generalize Wire.numAt s.data.toList 0=n0 at g0 b0 ⊢
 generalize Wire.numAt s.data.toList 4=n1 at g1 b1 ⊢
 generalize Wire.numAt s.data.toList 8=n2 at g2 b2 ⊢
 obtain ⟨b00,b01⟩:=b0
 obtain ⟨b10,b11⟩:=b1
 obtain ⟨b20,b21⟩:=b2
 go_enter Tryz.func116,Tryz.ntmps116
 go_wp2
 go_loopw [5] (fun i wr => ∃ k:Nat,k ≤ 3∧i = .int .i64 k∧∃ n,wr=((w.alloc (.cells (com3 n0 n1 n2 0) 35)).alloc (.cells (com3 n0 n1 n2 k) 35)).drewN n) (fun i _ => 3 - (intOf i).toNat)
 case atStart => exact ⟨0,by omega,rfl,0,rfl⟩
 case round =>
  obtain ⟨k,hk,rfl,n,rfl⟩:=hrel
  obtain rfl | rfl | rfl | rfl:k=0 ∨ k=1 ∨ k=2 ∨ k=3:=by omega
  all_goals simp only [com3]
  ·go_wp2_with (go_at_call 165;refine ((unhide g0) _).mono ?_;rintro e w' ⟨rfl,n',rfl⟩)
   go_roundw
   case rel => exact ⟨1,by omega,rfl,n+n',set_last (w:=w.alloc _) 0 (.int .i64 n0) (n+n') (by simp)⟩
   case measure => simp [intOf]
  ·go_wp2_with (go_at_call 165;refine ((unhide g1) _).mono ?_;rintro e w' ⟨rfl,n',rfl⟩)
   go_roundw
   case rel => exact ⟨2,by omega,rfl,n+n',set_last (w:=w.alloc _) 1 (.int .i64 n1) (n+n') (by simp)⟩
   case measure => simp [intOf]
  ·go_wp2_with (go_at_call 165;refine ((unhide g2) _).mono ?_;rintro e w' ⟨rfl,n',rfl⟩)
   go_roundw
   case rel => exact ⟨3,by omega,rfl,n+n',set_last (w:=w.alloc _) 2 (.int .i64 n2) (n+n') (by simp)⟩
   case measure => simp [intOf]
  ·go_wp2
   exact bodyPost_ret (v:=.agg #[.int .i64 n0,.int .i64 n1,.int .i64 n2]) (by simp [results,Tryz.results116,go_sem]) rfl ⟨rfl,(((below_drewN (((Below.refl _ _).alloc (Nat.le_refl _) _).alloc (by simp) _) _).setCell (Nat.le_refl _) _).setCell (Nat.le_refl _) _).setCell (Nat.le_refl _) _⟩
set_option maxHeartbeats 1000000 in
theorem isWelcomeBody_any (s:ByteArray) (w:World) :
  Calls Tryz.prog 139 #[.string s] w fun e w' => e = .returned (.bool (Wire.welBody s))∧Below w.heap.size w w':=by
 by_cases h:(s.size:Int)=12
 ·have HC:=hide (Committed_any s w (by omega))
  have b0:=numAt_nonneg s.data.toList 0
  have b1:=numAt_nonneg s.data.toList 4
  have b2:=numAt_nonneg s.data.toList 8
  have HW:Hid (Wire.welBody s=(decide (Wire.numAt s.data.toList 0 ≤ 2147483647) && (decide (Wire.numAt s.data.toList 4 ≤ 2147483647) && decide (Wire.numAt s.data.toList 8 ≤ 2147483647)))):=by
   have:s.size=12:=by omega
   show _=_
   simp [Wire.welBody,this]
  generalize Wire.numAt s.data.toList 0=n0 at HC b0 HW
  generalize Wire.numAt s.data.toList 4=n1 at HC b1 HW
  generalize Wire.numAt s.data.toList 8=n2 at HC b2 HW
  obtain ⟨b00,b01⟩:=b0
  obtain ⟨b10,b11⟩:=b1
  obtain ⟨b20,b21⟩:=b2
  have i0:∀ w:World,(Instr.index 35 (.agg #[.int .i64 n0,.int .i64 n1,.int .i64 n2]) (.int .i64 0)).run Tryz.prog w = .ok (.int .i64 n0) w:=fun _ => by kernel_rfl
  have i1:∀ w:World,(Instr.index 35 (.agg #[.int .i64 n0,.int .i64 n1,.int .i64 n2]) (.int .i64 1)).run Tryz.prog w = .ok (.int .i64 n1) w:=fun _ => by kernel_rfl
  have i2:∀ w:World,(Instr.index 35 (.agg #[.int .i64 n0,.int .i64 n1,.int .i64 n2]) (.int .i64 2)).run Tryz.prog w = .ok (.int .i64 n2) w:=fun _ => by kernel_rfl
  go_enter Tryz.func139,Tryz.ntmps139
  go_upto_region 4 with (go_at_call 116;refine (unhide HC).mono ?_;rintro e w1 ⟨rfl,hb1⟩;have HB:=hide hb1;clear hb1)
  clear h
  go_loop [10] (fun i => ∃ k:Nat,k ≤ 3∧i = .int .i64 k∧(0 < k→n0 ≤ 2147483647)∧(1 < k→n1 ≤ 2147483647)∧(2 < k→n2 ≤ 2147483647)) (fun i => 3 - (intOf i).toNat)
  case atStart => exact ⟨0,by omega,rfl,by omega,by omega,by omega⟩
  case round =>
   obtain ⟨k,hk,rfl,k0,k1,k2⟩:=hrel
   obtain rfl | rfl | rfl | rfl:k=0 ∨ k=1 ∨ k=2 ∨ k=3:=by omega
   ·by_cases hm:n0 ≤ 2147483647
    ·go_wp2_with (go_at_call 138;refine (isNumber_any _ _).mono ?_;rw [isNum_yes b00,decide_eq_true hm];rintro e w' ⟨rfl,rfl⟩)
     go_round
     case rel => exact ⟨1,by omega,rfl,by omega,by omega,by omega⟩
     case measure => simp [intOf]
    ·go_wp2_with (go_at_call 138;refine (isNumber_any _ _).mono ?_;rw [isNum_yes b00,decide_eq_false hm];rintro e w' ⟨rfl,rfl⟩)
     go_ret
     exact ⟨ret_b (by rw [unhide HW,decide_eq_false (Int.not_le.mpr (show 2147483647 < n0 by assumption))];rfl),unhide HB⟩
   ·by_cases hm:n1 ≤ 2147483647
    ·go_wp2_with (go_at_call 138;refine (isNumber_any _ _).mono ?_;rw [isNum_yes b10,decide_eq_true hm];rintro e w' ⟨rfl,rfl⟩)
     go_round
     case rel => exact ⟨2,by omega,rfl,by omega,by omega,by omega⟩
     case measure => simp [intOf]
    ·go_wp2_with (go_at_call 138;refine (isNumber_any _ _).mono ?_;rw [isNum_yes b10,decide_eq_false hm];rintro e w' ⟨rfl,rfl⟩)
     go_ret
     exact ⟨ret_b (by rw [unhide HW,decide_eq_false (Int.not_le.mpr (show 2147483647 < n1 by assumption))];simp),unhide HB⟩
   ·by_cases hm:n2 ≤ 2147483647
    ·go_wp2_with (go_at_call 138;refine (isNumber_any _ _).mono ?_;rw [isNum_yes b20,decide_eq_true hm];rintro e w' ⟨rfl,rfl⟩)
     go_round
     case rel => exact ⟨3,by omega,rfl,by omega,by omega,by omega⟩
     case measure => simp [intOf]
    ·go_wp2_with (go_at_call 138;refine (isNumber_any _ _).mono ?_;rw [isNum_yes b20,decide_eq_false hm];rintro e w' ⟨rfl,rfl⟩)
     go_ret
     exact ⟨ret_b (by rw [unhide HW,decide_eq_false (Int.not_le.mpr (show 2147483647 < n2 by assumption))];simp),unhide HB⟩
   ·go_wp2
    go_ret
    exact ⟨ret_b (by rw [unhide HW,decide_eq_true (k0 (by omega)),decide_eq_true (k1 (by omega)),decide_eq_true (k2 (by omega))];rfl),unhide HB⟩
 ·go_enter Tryz.func139,Tryz.ntmps139
  go_wp2
  go_ret
  exact ⟨ret_b (by simp [Wire.welBody];omega),Below.refl _ _⟩
theorem one4 {k:IntKind} {a b c d:Int}:∀ u ∈ [Value.int k a,.int k b,.int k c,.int k d],u.oneCell' = true:=by
 intro u hu;simp at hu;rcases hu with rfl | rfl | rfl | rfl <;> rfl
theorem grownBy_trans_new {w w1:World} {o:Obj} {row:Option Nat} (h:(w.alloc o).grownBy w1 row):w.grownBy w1 row:=by
 refine ⟨h.os,h.tape,h.output,by have:=h.size;simp at this;omega,fun k hk hr => ?_⟩
 rw [h.block k (by simp;omega) hr]
 exact Below.heap_alloc _ _ _ hk
set_option maxRecDepth 100000 in
set_option maxHeartbeats 400000 in
theorem appendNumber_any (B:Nat) (n:Int) (v:Value) (l:List UInt8) (w:World) (hl:l.length ≤ 1000) (hB:B ≤ w.heap.size) (hn0:0 ≤ n)
  (hown:Owns B w v l) :
  Calls Tryz.prog 103 #[v,.int .u32 n] w fun e w' => ∃ v',e = .returned v' ∧ Owns B w' v' (l ++ Wire.le4 n)∧w.grownBy w' v.ownBlock:=by
 have hle:=bv_le4 hn0
 obtain ⟨i0,hi,hz0,hz1,hz2⟩:=info_parts info5
 have HW:=hide hown
 have HL:=hide hle
 clear hle hown
 go_enter Tryz.func103,Tryz.ntmps103
 go_wp2_with (at_builtin;refine wpList_append_own _ rfl _ _ 48 rfl B 5 i0 (.int .u8 0) 1 1 Tryz.underlying48 hi hz0 hz1 hz2 rfl (by decide) v l.length (bv l) rfl ((unhide HW).alloc _) ⟨w.heap.size,0,none⟩ 4 4 [.int .u8 (n % 256),.int .u8 (n / 256 % 256),.int .u8 (n / 65536 % 256),.int .u8 (n / 16777216 % 256)] rfl rfl cells_new one4 ?c3 ?c4 ?c5 ?_)
 case c3 => unfold maxLen;omega
 case c4 => omega
 case c5 => simp;omega
 intro v' w1 hown' hgrow _
 go_wp2
 go_ret
 refine ⟨v',rfl,?_,?_⟩
 ·unfold Owns
  rw [bv_append,unhide HL]
  simpa [Wire.length_le4] using hown'
 ·exact grownBy_trans_new hgrow
end Go.Proofs.YtamafdcnbcoegabGreat
namespace Go.Proofs.YtamafdcnbcoegabGreat
open Go.RowKit
theorem isEmpty_size (b:ByteArray):b.toList.isEmpty=decide (b.size=0):=by
 rcases Nat.eq_zero_or_pos b.size with h | h
 ·have:b=ByteArray.empty:=by
   apply ByteArray.ext;apply Array.eq_empty_of_size_eq_zero;exact h
  subst this;simp [ByteArray.toList_eq]
 ·have hn:b.toList ≠ []:=by
   intro e
   have h1:b.toList.length=b.size:=by simp [ByteArray.toList_eq]
   rw [e] at h1;simp at h1;omega
  rw [decide_eq_false (by omega)]
  cases hl:b.toList with
  | nil => exact absurd hl hn
  | cons _ _ => rfl
set_option maxHeartbeats 1000000 in
theorem isFrame_1 (k e s q:Int) (b:ByteArray) (w:World) (he:Wire.isNum e=true) (h15:k=1 ∨ k=5) :
  Calls Tryz.prog 89 #[.agg #[.int .i64 k,.int .i64 e,.int .i64 s,.int .i64 q,.string b]] w fun r w' => r = .returned (.bool (Wire.proper k e s q b))∧Below w.heap.size w w':=by
 have hk:(k == 1)=true ∨ ((k == 1)=false∧(k == 5)=true):=by rcases h15 with rfl | rfl <;> simp
 have hp:Hid (Wire.proper k e s q b=(decide (s=0) && (decide (q=0) && decide (b.size=0)))):=by show _=_;simp [Wire.proper,he,h15]
 have he0:Hid (b.toList.isEmpty=decide (b.size=0)):=isEmpty_size b
 clear h15
 rcases hk with hk | ⟨hk,hk'⟩
 all_goals
  go_enter Tryz.func89,Tryz.ntmps89
  go_wp2_with (go_at_call 138;refine (isNumber_any _ _).mono ?_;rintro r w' ⟨rfl,rfl⟩)
  all_goals
   go_ret
   refine ⟨ret_b ?_,(Below.refl _ _).alloc (Nat.le_refl _) _⟩
   have hp:=unhide hp
   have he0:=unhide he0
   simp_all
set_option maxHeartbeats 1000000 in
theorem isFrame_2 (k e s q:Int) (b:ByteArray) (w:World) (he:Wire.isNum e=true) (h2:k=2) :
  Calls Tryz.prog 89 #[.agg #[.int .i64 k,.int .i64 e,.int .i64 s,.int .i64 q,.string b]] w fun r w' => r = .returned (.bool (Wire.proper k e s q b))∧Below w.heap.size w w':=by
 subst h2
 have hp:Hid (Wire.proper 2 e s q b=(decide (s=0) && (decide (q=0) && Wire.welBody b))):=by show _=_;simp [Wire.proper,he]
 go_enter Tryz.func89,Tryz.ntmps89
 go_wp2_with (first | (go_at_call 138;refine (isNumber_any _ _).mono ?_;rintro r w' ⟨rfl,rfl⟩) | (go_at_call 139;refine (isWelcomeBody_any _ _).mono ?_;rintro r w' ⟨rfl,hbw⟩))
 all_goals
  go_ret
  refine ⟨ret_b ?_,by first | exact (Below.refl _ _).alloc (Nat.le_refl _) _ | exact ((Below.refl _ _).alloc (Nat.le_refl _) _).trans (hbw.mono (by simp))⟩
  have hp:=unhide hp
  simp_all
set_option maxHeartbeats 1000000 in
theorem isFrame_3 (k e s q:Int) (b:ByteArray) (w:World) (he:Wire.isNum e=true) (h3:k=3) :
  Calls Tryz.prog 89 #[.agg #[.int .i64 k,.int .i64 e,.int .i64 s,.int .i64 q,.string b]] w fun r w' => r = .returned (.bool (Wire.proper k e s q b))∧Below w.heap.size w w':=by
 subst h3
 have hp:Hid (Wire.proper 3 e s q b=(Wire.isStr s && (decide (q ≠ 0) && (Wire.isNum q && decide (b.size ≤ 20))))):=by show _=_;simp [Wire.proper,he]
 cases hs:Wire.isStr s
 all_goals
  cases hq:Wire.isNum q
  all_goals
   go_enter Tryz.func89,Tryz.ntmps89
   go_wp2_with (first | (go_at_call 138;refine (isNumber_any _ _).mono ?_;rintro r w' ⟨rfl,rfl⟩) | (go_at_call 71;refine (isStream_any _ _).mono ?_;rintro r w' ⟨rfl,rfl⟩))
   all_goals
    go_ret
    refine ⟨ret_b ?_,(Below.refl _ _).alloc (Nat.le_refl _) _⟩
    have hp:=unhide hp
    have hd:decide ((b.size:Int) ≤ 20)=decide (b.size ≤ 20):=by rw [decide_eq_decide];omega
    have hq0:(q != 0)=decide (q ≠ 0):=by by_cases h:q=0 <;> simp [h]
    try simp only [hd,hq0]
    clear hd hq0
    simp_all
set_option maxHeartbeats 1000000 in
theorem isFrame_4 (k e s q:Int) (b:ByteArray) (w:World) (he:Wire.isNum e=true) (h4:k=4) :
  Calls Tryz.prog 89 #[.agg #[.int .i64 k,.int .i64 e,.int .i64 s,.int .i64 q,.string b]] w fun r w' => r = .returned (.bool (Wire.proper k e s q b))∧Below w.heap.size w w':=by
 subst h4
 have hp:Hid (Wire.proper 4 e s q b=(Wire.isStr s && (Wire.isNum q && Wire.ackBody b))):=by show _=_;simp [Wire.proper,he]
 cases hs:Wire.isStr s
 all_goals
  cases hq:Wire.isNum q
  all_goals
   go_enter Tryz.func89,Tryz.ntmps89
   go_wp2_with (first | (go_at_call 138;refine (isNumber_any _ _).mono ?_;rintro r w' ⟨rfl,rfl⟩) | (go_at_call 71;refine (isStream_any _ _).mono ?_;rintro r w' ⟨rfl,rfl⟩) | (go_at_call 140;refine (isAckBody_any _ _).mono ?_;rintro r w' ⟨rfl,rfl⟩))
   all_goals
    go_ret
    refine ⟨ret_b ?_,(Below.refl _ _).alloc (Nat.le_refl _) _⟩
    have hp:=unhide hp
    simp_all
set_option maxHeartbeats 1000000 in
theorem isFrame_any (k e s q:Int) (b:ByteArray) (w:World) :
  Calls Tryz.prog 89 #[.agg #[.int .i64 k,.int .i64 e,.int .i64 s,.int .i64 q,.string b]] w fun r w' => r = .returned (.bool (Wire.proper k e s q b))∧Below w.heap.size w w':=by
 cases he:Wire.isNum e
 ·go_enter Tryz.func89,Tryz.ntmps89
  go_wp2_with (go_at_call 138;refine (isNumber_any _ _).mono ?_;rintro r w' ⟨rfl,rfl⟩)
  go_ret
  exact ⟨ret_b (by simp [Wire.proper,he]),(Below.refl _ _).alloc (Nat.le_refl _) _⟩
 by_cases h15:k=1 ∨ k=5
 ·exact isFrame_1 k e s q b w he h15
 by_cases h2:k=2
 ·exact isFrame_2 k e s q b w he h2
 by_cases h3:k=3
 ·exact isFrame_3 k e s q b w he h3
 by_cases h4:k=4
 ·exact isFrame_4 k e s q b w he h4
 have hp:Hid (Wire.proper k e s q b=false):=by show _=_;simp [Wire.proper,h15,h2,h3,h4]
 have b1:(k == 1)=false:=by simp;omega
 have b2:(k == 2)=false:=by simp;omega
 have b3:(k == 3)=false:=by simp;omega
 have b4:(k == 4)=false:=by simp;omega
 have b5:(k == 5)=false:=by simp;omega
 clear h15 h2 h3 h4
 go_enter Tryz.func89,Tryz.ntmps89
 go_wp2_with (go_at_call 138;refine (isNumber_any _ _).mono ?_;rintro r w' ⟨rfl,rfl⟩)
 go_ret
 exact ⟨ret_b (unhide hp).symm,(Below.refl _ _).alloc (Nat.le_refl _) _⟩
end Go.Proofs.YtamafdcnbcoegabGreat
namespace Go.Proofs.YtamafdcnbcoegabGreat
open Go.RowKit
open Wire (whole)
set_option maxHeartbeats 1000000 in
theorem isWhole_short (ad:Option Addr) (len cap:Nat) (w:World) (h:(len:Int) < 15) :
  Calls Tryz.prog 108 #[.slice ad len cap] w fun r w' => r = .returned (.bool false)∧w' = w:=by
 go_enter Tryz.func108,Tryz.ntmps108
 go_wp2
 go_ret
 exact ⟨rfl,rfl⟩
theorem whole_no {l:List UInt8} {m g:Nat} (hlen:l.length=m+4) (hg:(l.getD 10 0).toNat=g) (h:¬ m+4=15+g):whole l=false:=by
 unfold whole
 rw [hg,decide_eq_false (p:=l.length=15+g) (by omega)];simp
theorem whole_yes {l:List UInt8} {m g:Nat} (hlen:l.length=m+4) (_h15:11 ≤ m) (hg:(l.getD 10 0).toNat=g) (h:m+4=15+g) :
  whole l=(Wire.num4 (l.getD m 0) (l.getD (m+1) 0) (l.getD (m+2) 0) (l.getD (m+3) 0) == Wire.sum (l.take m)):=by
 unfold whole
 have e:l.length - 4=m:=by omega
 rw [hg,e,decide_eq_true (p:=15 ≤ l.length) (by omega),decide_eq_true (p:=l.length=15+g) (by omega),Bool.true_and,Bool.true_and]
 by_cases hs:Wire.numAt l m=Wire.sum (l.take m)
 ·rw [decide_eq_true hs];exact (beq_iff_eq.2 hs).symm
 ·rw [decide_eq_false hs];exact (beq_eq_false_iff_ne.2 hs).symm
set_option maxHeartbeats 1000000 in
theorem isWhole_long (b off m cap:Nat) (l:List UInt8) (w:World) (hlen:l.length=m+4) (hm:m+4 ≤ maxLen) (hcap:m+4 ≤ cap) (h15:11 ≤ m)
  (hc:∀ i,i < m+4→w.cell? ⟨b,off+i,none⟩=some (.int .u8 (l.getD i 0).toNat)) :
  Calls Tryz.prog 108 #[.slice (some ⟨b,off,none⟩) (m+4) cap] w fun r w' => r = .returned (.bool (whole l))∧∃ n,w' = w.drewN n:=by
 have hc10:=hc 10 (by omega)
 have hg256:=(l.getD 10 0).toNat_lt
 have hmm:=hm
 unfold maxLen at hm
 generalize hg:(l.getD 10 0).toNat=g at hc10 hg256
 have h1:(15:Int) ≤ (m:Int)+4:=by omega
 by_cases h:m+4=15+g
 ·have h2:((m:Int)+4 != 11+(g:Int)+4)=false:=by simp;omega
  have HW:=hide (whole_yes hlen h15 hg h)
  have HN:=fun n => hide (number_bytes b (off+m) 4 (cap - m) (l.getD m 0) (l.getD (m+1) 0) (l.getD (m+2) 0) (l.getD (m+3) 0) (w.drewN n) (Nat.le_refl _)
   (cellN n (hc m (by omega))) (cellN n (hc (m+1) (by omega))) (cellN n (hc (m+2) (by omega))) (cellN n (hc (m+3) (by omega))))
  have HS:=fun n => hide (sum_bytes b off m cap (l.take m) (w.drewN n) (by simp;omega) (by omega) (fun i hi => by
   rw [cellN n (hc i (by omega)),List.getD_eq_getElem?_getD,List.getD_eq_getElem?_getD,List.getElem?_take,if_pos hi]))
  clear h hg hc hlen hmm
  generalize l.take m=lt at *
  go_enter Tryz.func108,Tryz.ntmps108
  go_wp2_with fail
  go_quiet (first | (go_at_call 109;exact Calls.quiet_of (unhide (HN _))) | (go_at_call 104;exact Calls.quiet_of_same (unhide (HS _))))
  go_wp2
  go_ret
  exact ⟨ret_b (unhide HW).symm,_,rfl⟩
 ·have h2:((m:Int)+4 != 11+(g:Int)+4)=true:=by simp;omega
  have HW:=hide (whole_no hlen hg h)
  clear h hg hc hlen
  go_enter Tryz.func108,Tryz.ntmps108
  go_wp2_with fail
  go_ret
  exact ⟨ret_b (unhide HW).symm,0,rfl⟩
end Go.Proofs.YtamafdcnbcoegabGreat
namespace Go.Proofs.YtamafdcnbcoegabGreat
open Go.RowKit
structure FrBox (w:World) (b:Nat) (k e s q:Int) (body:ByteArray):Prop where
 c0:w.cell? ⟨b,0,none⟩=some (.int .i64 k)
 c1:w.cell? ⟨b,1,none⟩=some (.int .i64 e)
 c2:w.cell? ⟨b,2,none⟩=some (.int .i64 s)
 c3:w.cell? ⟨b,3,none⟩=some (.int .i64 q)
 c4:w.cell? ⟨b,4,none⟩=some (.string body)
theorem frBox_new (w:World) (k e s q:Int) (body:ByteArray) (t:TypeId):FrBox (w.alloc (.cells #[.int .i64 k,.int .i64 e,.int .i64 s,.int .i64 q,.string body] t)) w.heap.size k e s q body:=by
 constructor <;> simp
theorem FrBox.below {w w':World} {b C:Nat} {k e s q:Int} {body:ByteArray} (h:FrBox w b k e s q body) (hb:Below C w w') (hC:b < C):FrBox w' b k e s q body :=
 ⟨(hb.cell (p:=⟨b,0,none⟩) hC).trans h.c0,(hb.cell (p:=⟨b,1,none⟩) hC).trans h.c1,(hb.cell (p:=⟨b,2,none⟩) hC).trans h.c2,(hb.cell (p:=⟨b,3,none⟩) hC).trans h.c3,(hb.cell (p:=⟨b,4,none⟩) hC).trans h.c4⟩
theorem enc_next {W w w':World} {b C:Nat} {k e s q:Int} {body:ByteArray} {v:Value} {l:List UInt8} (fb:FrBox w b k e s q body) (B:Below b W w) (hown:Owns C w v l) (hb:b < C) (hz:C ≤ w.heap.size)
  (hg:w.grownBy w' v.ownBlock):FrBox w' b k e s q body∧Below b W w' ∧ C ≤ w'.heap.size:=by
 have h1:Below C w w':=below_grown_new hg hz (fun g hg => (hown.lt g hg).1)
 exact ⟨fb.below h1 hb,B.trans (h1.mono (by omega)),by have:=h1.size;omega⟩
theorem enc_list (k e s q:Int) (b:ByteArray) :
  ([] ++ [UInt8.ofNat (k.toNat % 256)] ++ Wire.le4 e ++ [UInt8.ofNat (s.toNat % 256)] ++ Wire.le4 q ++ [UInt8.ofNat ((b.size:Int).toNat % 256)] ++ b.data.toList)=Wire.front k e s q b.data.toList:=by
 simp [Wire.front]
set_option maxRecDepth 100000 in
set_option maxHeartbeats 2000000 in
theorem frameBytes_small (k e s q:Int) (b:ByteArray) (w:World) (hk:0 ≤ k∧k < 256) (he:0 ≤ e∧e < 4294967296) (hs:0 ≤ s∧s < 256) (hq:0 ≤ q∧q < 4294967296) (hb:b.size < 256) :
  Calls Tryz.prog 67 #[.agg #[.int .i64 k,.int .i64 e,.int .i64 s,.int .i64 q,.string b]] w fun r w' =>
   ∃ v,r = .returned v∧Owns (w.heap.size+1) w' v (Wire.bytes k e s q b.data.toList)∧Below w.heap.size w w':=by
 go_enter Tryz.func67,Tryz.ntmps67
 go_upto_region 1 with fail
 have fb1:=frBox_new w k e s q b 63
 have B1:=(Below.refl w.heap.size w).alloc (Nat.le_refl _) (.cells #[.int .i64 k,.int .i64 e,.int .i64 s,.int .i64 q,.string b] 63)
 have z1:w.heap.size+1 ≤ (w.alloc (.cells #[.int .i64 k,.int .i64 e,.int .i64 s,.int .i64 q,.string b] 63)).heap.size:=by simp
 generalize w.alloc (.cells #[.int .i64 k,.int .i64 e,.int .i64 s,.int .i64 q,.string b] 63)=w1 at *
 obtain ⟨x0,x1,x2,x3,x4⟩:=id fb1
 go_upto_region 2 with (at_make;refine wp_make_bytes rfl _ _ rfl (w.heap.size+1) _ _ _ (15+b.size) rfl rfl (by omega) (by omega) (by omega) ?_;intro w2 hown2 hg2)
 have b2:=below_grown_new (B:=w.heap.size+1) hg2 (by omega) (by simp)
 have z2:w.heap.size+1 ≤ w2.heap.size:=by have:=b2.size;omega
 have fb2:=fb1.below b2 (by omega)
 have B2:=B1.trans (b2.mono (by omega))
 have O2:=hide hown2
 clear hg2 b2 fb1 B1 x0 x1 x2 x3 x4 z1 hown2
 obtain ⟨x0,x1,x2,x3,x4⟩:=id fb2
 go_upto_region 3 with (at_builtin;refine wp_app_byte rfl _ _ rfl (w.heap.size+1) _ [] k (unhide O2) rfl rfl (by omega) (by omega) (by simp) (by omega) ?_;intro v3 w3 hown3 hg3)
 obtain ⟨fb3,B3,z3⟩:=enc_next fb2 B2 (unhide O2) (by omega) z2 hg3
 have O3:=hide hown3
 clear hown3 hg3 fb2 B2 O2 z2 x0 x1 x2 x3 x4
 obtain ⟨x0,x1,x2,x3,x4⟩:=id fb3
 go_upto_region 4 with (go_at_call 103;refine (appendNumber_any (w.heap.size+1) e v3 _ w3 (by simp) (by omega) (by omega) (unhide O3)).mono ?_;rintro r w4 ⟨v4,rfl,hown4,hg4⟩)
 obtain ⟨fb4,B4,z4⟩:=enc_next fb3 B3 (unhide O3) (by omega) z3 hg4
 have O4:=hide hown4
 clear hown4 hg4 fb3 B3 O3 z3 x0 x1 x2 x3 x4
 obtain ⟨x0,x1,x2,x3,x4⟩:=id fb4
 go_upto_region 5 with (at_builtin;refine wp_app_byte rfl _ _ rfl (w.heap.size+1) _ _ s (unhide O4) rfl rfl (by omega) (by omega) (by simp [Wire.length_le4]) (by omega) ?_;intro v5 w5 hown5 hg5)
 obtain ⟨fb5,B5,z5⟩:=enc_next fb4 B4 (unhide O4) (by omega) z4 hg5
 have O5:=hide hown5
 clear hown5 hg5 fb4 B4 O4 z4 x0 x1 x2 x3 x4
 obtain ⟨x0,x1,x2,x3,x4⟩:=id fb5
 go_upto_region 6 with (go_at_call 103;refine (appendNumber_any (w.heap.size+1) q v5 _ w5 (by simp [Wire.length_le4]) (by omega) (by omega) (unhide O5)).mono ?_;rintro r w6 ⟨v6,rfl,hown6,hg6⟩)
 obtain ⟨fb6,B6,z6⟩:=enc_next fb5 B5 (unhide O5) (by omega) z5 hg6
 have O6:=hide hown6
 clear hown6 hg6 fb5 B5 O5 z5 x0 x1 x2 x3 x4
 obtain ⟨x0,x1,x2,x3,x4⟩:=id fb6
 go_upto_region 7 with (at_builtin;refine wp_app_byte rfl _ _ rfl (w.heap.size+1) _ _ (b.size:Int) (unhide O6) rfl rfl (by omega) (by omega) (by simp [Wire.length_le4]) (by omega) ?_;intro v7 w7 hown7 hg7)
 obtain ⟨fb7,B7,z7⟩:=enc_next fb6 B6 (unhide O6) (by omega) z6 hg7
 have O7:=hide hown7
 clear hown7 hg7 fb6 B6 O6 z6 x0 x1 x2 x3 x4
 obtain ⟨x0,x1,x2,x3,x4⟩:=id fb7
 go_upto_region 8 with (at_builtin;refine wp_app_str rfl _ _ rfl (w.heap.size+1) _ _ (unhide O7) rfl b rfl (by simp [Wire.length_le4];omega) (by omega) ?_;intro v8 w8 hown8 hg8)
 obtain ⟨fb8,B8,z8⟩:=enc_next fb7 B7 (unhide O7) (by omega) z7 hg8
 rw [enc_list] at hown8
 clear hg8 fb7 B7 O7 z7 x0 x1 x2 x3 x4 fb8
 have hlen:(Wire.front k e s q b.data.toList).length=11+b.size:=by simp [Wire.front,Wire.length_le4];omega
 obtain ⟨g,cap,rfl,hgB,hgl,hcap1,hcap2,hcell⟩:=hown8.addr (by omega)
 have O8:=hide hown8
 have HC:=hide hcell
 clear hown8 hcell
 have hl2:(Wire.front k e s q b.data.toList).length ≤ 1000:=by omega
 have hby:Hid (Wire.bytes k e s q b.data.toList=Wire.front k e s q b.data.toList ++ Wire.le4 (Wire.sum (Wire.front k e s q b.data.toList))):=rfl
 have hsr:=Wire.sum_range (Wire.front k e s q b.data.toList)
 clear hlen
 generalize Wire.front k e s q b.data.toList=fr at *
 go_wp2_with (first
  | (go_at_call 104;refine (sum_bytes g 0 fr.length cap fr w8 rfl (by unfold maxLen;omega) (unhide HC)).mono ?_;rintro r w9 ⟨rfl,rfl⟩)
  | (go_at_call 103;refine (appendNumber_any (w.heap.size+1) _ _ fr _ hl2 (by omega) hsr.1 (unhide O8)).mono ?_;rintro r w10 ⟨v10,rfl,hown10,hg10⟩))
 have b10:Below (w.heap.size+1) w9 w10:=below_grown_new hg10 z8 (fun g hg => ((unhide O8).lt g hg).1)
 go_ret
 exact ⟨v10,rfl,by rw [unhide hby];exact hown10,B8.trans (b10.mono (by omega))⟩
theorem proper_small {k e s q:Int} {b:ByteArray} (h:Wire.proper k e s q b=true) :
  (1 ≤ k∧k ≤ 5)∧(0 ≤ e∧e ≤ 2147483647)∧(0 ≤ s∧s < 3)∧(0 ≤ q∧q ≤ 2147483647)∧b.size ≤ 20:=by
 unfold Wire.proper at h
 rw [Bool.and_eq_true] at h
 obtain ⟨he,h⟩:=h
 have he':0 ≤ e∧e ≤ 2147483647:=by simpa [Wire.isNum] using he
 split at h
 ·simp only [Bool.and_eq_true,decide_eq_true_eq] at h;omega
 split at h
 ·simp only [Wire.welBody,Bool.and_eq_true,decide_eq_true_eq] at h;omega
 split at h
 ·simp [Wire.isStr,Wire.isNum] at h;omega
 split at h
 ·simp [Wire.isStr,Wire.isNum,Wire.ackBody] at h;omega
 ·cases h
theorem frameBytes_any (k e s q:Int) (b:ByteArray) (w:World) (hp:Wire.proper k e s q b=true) :
  Calls Tryz.prog 67 #[.agg #[.int .i64 k,.int .i64 e,.int .i64 s,.int .i64 q,.string b]] w fun r w' =>
   ∃ v,r = .returned v∧Owns (w.heap.size+1) w' v (Wire.bytes k e s q b.data.toList)∧Below w.heap.size w w':=by
 obtain ⟨h1,h2,h3,h4,h5⟩:=proper_small hp
 exact frameBytes_small k e s q b w (by omega) (by omega) (by omega) (by omega) (by omega)
theorem encode_yes' (k e s q:Int) (b:ByteArray) (w:World) (hp:Wire.proper k e s q b=true) :
  Calls Tryz.prog 54 #[.agg #[.int .i64 k,.int .i64 e,.int .i64 s,.int .i64 q,.string b]] w fun r w' =>
   ∃ v,r = .returned (.tuple #[v,.int .i64 0])∧Owns (w.heap.size+1) w' v (Wire.bytes k e s q b.data.toList)∧Below w.heap.size w w':=by
 have HF:=fun w' => hide (frameBytes_any k e s q b w' hp)
 go_enter Tryz.func54,Tryz.ntmps54
 go_upto_region 3 with (go_at_call 89;refine (isFrame_any _ _ _ _ _ _).mono ?_;rintro r w1 ⟨rfl,hb1⟩)
 have fb1:=(frBox_new w k e s q b 63).below hb1 (by simp)
 have z1:=hb1.size
 have B1:=((Below.refl w.heap.size w).alloc (Nat.le_refl _) (.cells #[.int .i64 k,.int .i64 e,.int .i64 s,.int .i64 q,.string b] 63)).trans (hb1.mono (by simp))
 clear hb1
 simp only [World.size_alloc] at z1
 obtain ⟨x0,x1,x2,x3,x4⟩:=id fb1
 go_wp2_with (go_at_call 67;refine (unhide (HF _)).mono ?_;rintro r w2 ⟨v,rfl,hown,hb2⟩)
 go_ret2
 exact ⟨v,rfl,hown.mono (by omega),B1.trans (hb2.mono (by omega))⟩
end Go.Proofs.YtamafdcnbcoegabGreat
namespace Go.Proofs.YtamafdcnbcoegabGreat
open Go.RowKit
open Wire (whole)
def zeroFr:Value:=.agg #[.int .i64 0,.int .i64 0,.int .i64 0,.int .i64 0,.string ⟨#[]⟩]
theorem below_five {w w1:World} {B:Nat} (h:Below B w w1) (a b c d e:Value) :
  Below B w (((((w1.setCell ⟨B,0,none⟩ a).setCell ⟨B,1,none⟩ b).setCell ⟨B,2,none⟩ c).setCell ⟨B,3,none⟩ d).setCell ⟨B,4,none⟩ e) :=
 ((((h.setCell (p:=⟨B,0,none⟩) (Nat.le_refl _) a).setCell (p:=⟨B,1,none⟩) (Nat.le_refl _) b).setCell (p:=⟨B,2,none⟩) (Nat.le_refl _) c).setCell (p:=⟨B,3,none⟩) (Nat.le_refl _) d).setCell (p:=⟨B,4,none⟩) (Nat.le_refl _) e
set_option maxHeartbeats 400000 in
theorem decode_short (ad:Option Addr) (len cap:Nat) (w:World) (h:(len:Int) < 15) :
  Calls Tryz.prog 69 #[.slice ad len cap] w fun r w' => r = .returned (.tuple #[zeroFr,.int .i64 1])∧Below w.heap.size w w':=by
 go_enter Tryz.func69,Tryz.ntmps69
 go_wp2_with (go_at_call 108;refine (isWhole_short _ _ _ _ h).mono ?_;rintro r w1 ⟨rfl,rfl⟩)
 refine bodyPost_ret (v:=.tuple #[zeroFr,.int .i64 1]) (by simp [results,Tryz.results69,go_sem,zeroFr]) rfl ⟨rfl,?_⟩
 exact (Below.refl _ _).alloc (Nat.le_refl _) _
set_option maxHeartbeats 1000000 in
theorem decode_bad (b off m cap:Nat) (l:List UInt8) (w:World) (hlen:l.length=m+4) (hm:m+4 ≤ maxLen) (hcap:m+4 ≤ cap) (h15:11 ≤ m) (hw:whole l=false)
  (hc:∀ i,i < m+4→w.cell? ⟨b,off+i,none⟩=some (.int .u8 (l.getD i 0).toNat)) :
  Calls Tryz.prog 69 #[.slice (some ⟨b,off,none⟩) (m+4) cap] w fun r w' => r = .returned (.tuple #[zeroFr,.int .i64 1])∧Below w.heap.size w w':=by
 have HI:=fun o => hide (isWhole_long b off m cap l (w.alloc o) hlen hm hcap h15 (fun i hi => by
  have:=hc i hi
  rw [← this];exact World.cell?_alloc_lt _ _ _ (World.block_lt_of_cell? _ _ this)))
 rw [hw] at HI
 clear hc
 go_enter Tryz.func69,Tryz.ntmps69
 go_wp2_with (go_at_call 108;refine (unhide (HI _)).mono ?_;rintro r w1 ⟨rfl,n1,rfl⟩)
 refine bodyPost_ret (v:=.tuple #[zeroFr,.int .i64 1]) (by simp [results,Tryz.results69,go_sem,zeroFr]) rfl ⟨rfl,?_⟩
 exact below_five (below_drewN ((Below.refl _ _).alloc (Nat.le_refl _) _) _) _ _ _ _ _
def frVal (l:List UInt8):Value:=.agg #[.int .i64 (Wire.kindOf l),.int .i64 (Wire.epochOf l),.int .i64 (Wire.streamOf l),.int .i64 (Wire.seqOf l),.string (Wire.bodyOf l)]
theorem kindOf_range (l:List UInt8):0 ≤ Wire.kindOf l∧Wire.kindOf l < 256:=by
 have:=(l.getD 0 0).toNat_lt;unfold Wire.kindOf;omega
theorem streamOf_range (l:List UInt8):0 ≤ Wire.streamOf l∧Wire.streamOf l < 256:=by
 have:=(l.getD 5 0).toNat_lt;unfold Wire.streamOf;omega
theorem wrap_small {n:Int} (h:0 ≤ n∧n < 4294967296):IntKind.i64.wrap n=n:=by rw [IntKind.wrap_i64];omega
set_option maxRecDepth 100000 in
set_option maxHeartbeats 4000000 in
theorem decode_core (b off k cap:Nat) (w:World) (kk ee ss qq:Int) (bd:ByteArray) (hm:k+15 ≤ 9223372036854775807) (hcap:k+15 ≤ cap)
  (hkk:0 ≤ kk∧kk < 4294967296) (hee:0 ≤ ee∧ee < 4294967296) (hss:0 ≤ ss∧ss < 4294967296) (hqq:0 ≤ qq∧qq < 4294967296) (p:Bool) (hp:Wire.proper kk ee ss qq bd=p)
  (HI:∀ o,Hid (Calls Tryz.prog 108 #[.slice (some ⟨b,off,none⟩) (k+15) cap] (w.alloc o) fun r w' => r = .returned (.bool true)∧∃ n,w' = (w.alloc o).drewN n))
  (HS:Hid (∀ w',Below w.heap.size w w' → Below w.heap.size w w' ∧ w'.cell? ⟨b,off,none⟩=some (.int .u8 kk)∧w'.cell? ⟨b,off+5,none⟩=some (.int .u8 ss) ∧
   (convert 48 9 (.slice (some ⟨b,off+11,none⟩) k (cap - 11))).run Tryz.prog w' = .ok (.string bd) w'))
  (HN1:Hid (∀ w',Below w.heap.size w w' → Calls Tryz.prog 109 #[.slice (some ⟨b,off+1,none⟩) (k+14) (cap - 1)] w' fun e w'' => e = .returned (.int .u32 ee)∧∃ n,w'' = w'.drewN n))
  (HN6:Hid (∀ w',Below w.heap.size w w' → Calls Tryz.prog 109 #[.slice (some ⟨b,off+6,none⟩) (k+9) (cap - 6)] w' fun e w'' => e = .returned (.int .u32 qq)∧∃ n,w'' = w'.drewN n)) :
  Calls Tryz.prog 69 #[.slice (some ⟨b,off,none⟩) (k+15) cap] w fun r w' =>
   r = .returned (if p=true then .tuple #[.agg #[.int .i64 kk,.int .i64 ee,.int .i64 ss,.int .i64 qq,.string bd],.int .i64 0] else .tuple #[zeroFr,.int .i64 1])∧Below w.heap.size w w':=by
 have HF:=fun w' => hide (isFrame_any kk ee ss qq bd w')
 rw [hp] at HF
 clear hp
 have i0:(0:Int) < (k:Int)+15:=by omega
 have i5:(5:Int) < (k:Int)+15:=by omega
 have s1:(1:Int) ≤ (k:Int)+15:=by omega
 have s6:(6:Int) ≤ (k:Int)+15:=by omega
 have s11:(11:Int) ≤ (k:Int)+11:=by omega
 have sc:(k:Int)+11 ≤ (cap:Int):=by omega
 have s4:(4:Int) ≤ (k:Int)+15:=by omega
 have sd:(k:Int)+15 - 4 ≤ (cap:Int):=by omega
 have t1:((k:Int)+11).toNat - 11=k:=by omega
 have t2:((k:Int)+15 - 4).toNat - 11=k:=by omega
 have t3:(11:Int) ≤ max ((k:Int)+15 - 4) 0:=by omega
 have g1:IntKind.i64.wrap ((k:Int)+15 - 4)=(k:Int)+11:=by rw [IntKind.wrap_i64];omega
 have g2:IntKind.i64.wrap (((k+15:Nat):Int) - 4)=(k:Int)+11:=by rw [IntKind.wrap_i64];omega
 have tok1:True:=trivial
 have k1:¬ cap=1:=by omega
 have k6:¬ cap=6:=by omega
 have k11:¬ cap=11:=by omega
 have wk:=wrap_small hkk
 have we:=wrap_small hee
 have ws:=wrap_small hss
 have wq:=wrap_small hqq
 go_enter Tryz.func69,Tryz.ntmps69
 go_upto_region 3 with (go_at_call 108;refine (unhide (HI _)).mono ?_;rintro r w1 ⟨rfl,n1,rfl⟩)
 go_region_held3 (fun w' => Below w.heap.size w w' ∧ w'.cell? ⟨b,off,none⟩=some (.int .u8 kk)∧w'.cell? ⟨b,off+5,none⟩=some (.int .u8 ss) ∧
  (convert 48 9 (.slice (some ⟨b,off+11,none⟩) k (cap - 11))).run Tryz.prog w' = .ok (.string bd) w')
  ((refine unhide HS _ ?_;repeat (first | with_reducible exact Below.refl _ _ | with_reducible refine below_drewN ?_ _ | with_reducible refine Below.drew ?_ | with_reducible refine Below.alloc ?_ (by simp) _ | with_reducible refine Below.setCell ?_ (by simp) _)))
  (first
   | (go_at_call 109;have _t:=tok1;refine (unhide HN1 _ ?_).mono ?_;(focus (repeat (first | with_reducible exact Below.refl _ _ | with_reducible refine below_drewN ?_ _ | with_reducible refine Below.drew ?_ | with_reducible refine Below.alloc ?_ (by simp) _ | with_reducible refine Below.setCell ?_ (by simp) _)));clear tok1;rintro r w1 ⟨rfl,n2,rfl⟩)
   | (go_at_call 109;refine (unhide HN6 _ ?_).mono ?_;(focus (repeat (first | with_reducible exact Below.refl _ _ | with_reducible refine below_drewN ?_ _ | with_reducible refine Below.drew ?_ | with_reducible refine Below.alloc ?_ (by simp) _ | with_reducible refine Below.setCell ?_ (by simp) _)));rintro r w1 ⟨rfl,n2,rfl⟩))
 all_goals
  clear HS HN1 HN6 HI i0 i5 s1 s6 s11 sc s4 sd t1 t2 t3 g1 g2 k1 k6 k11 wk we ws wq
  rename Below _ _ _∧_ => hH
  have hB:=hH.1
  clear hH
 all_goals
  go_upto_region 4 with fail
  refine wp_world (fun X => FrBox X w.heap.size 0 0 0 0 ⟨#[]⟩∧FrBox X (w.heap.size+1) kk ee ss qq bd∧(∀ i,X.frozen? ⟨w.heap.size,i,none⟩=false)∧Below w.heap.size w X∧w.heap.size+2 ≤ X.heap.size) ⟨by constructor <;> go_simp,by constructor <;> go_simp,by intro i;go_simp,hB,by simp⟩ ?_
  clear hB
  rintro X ⟨z0,f0,hfz,hB,hsz⟩
 all_goals
  obtain ⟨x0,x1,x2,x3,x4⟩:=id f0
  cases p
  all_goals
   go_upto_if 34 with (go_at_call 89;refine (unhide (HF _)).mono ?_;rintro r w3 ⟨rfl,hb3⟩)
   obtain ⟨z30,z31,z32,z33,z34⟩:=z0.below hb3 (by omega)
   obtain ⟨f30,f31,f32,f33,f34⟩:=f0.below hb3 (by omega)
   have fz:∀ i,w3.frozen? ⟨w.heap.size,i,none⟩=false:=fun i => (hb3.frozen (p:=⟨w.heap.size,i,none⟩) (by simp;omega)).trans (hfz i)
   have fz0:=fz 0
   have fz1:=fz 1
   have fz2:=fz 2
   have fz3:=fz 3
   have fz4:=fz 4
   have B3:=hB.trans (hb3.mono (by omega))
   clear fz hb3 z0 f0 hfz x0 x1 x2 x3 x4 HF hB hsz
   go_wp2
  ·refine bodyPost_ret (v:=.tuple #[zeroFr,.int .i64 1]) (by simp [results,Tryz.results69,go_sem,zeroFr, *]) rfl ⟨rfl,?_⟩
   exact below_five B3 _ _ _ _ _
  ·refine bodyPost_ret (v:=.tuple #[.agg #[.int .i64 kk,.int .i64 ee,.int .i64 ss,.int .i64 qq,.string bd],.int .i64 0]) (by simp [results,Tryz.results69,go_sem, *]) rfl ⟨rfl,?_⟩
   exact below_five B3 _ _ _ _ _
end Go.Proofs.YtamafdcnbcoegabGreat
namespace Go.Proofs.YtamafdcnbcoegabGreat
open Go.RowKit
open Wire (whole)
def BytesAt (w:World) (v:Value) (l:List UInt8):Prop :=
 ∃ ad cap,v = .slice ad l.length cap∧l.length ≤ cap∧l.length ≤ 9223372036854775807 ∧
  (0 < l.length→∃ b off,ad=some ⟨b,off,none⟩∧∀ i,i < l.length→w.cell? ⟨b,off+i,none⟩=some (.int .u8 (l.getD i 0).toNat))
theorem Owns.at {B:Nat} {w:World} {v:Value} {l:List UInt8} (h:Owns B w v l):BytesAt w v l:=by
 by_cases h0:0 < l.length
 ·obtain ⟨g,cap,rfl,_,_,h1,h2,h3⟩:=h.addr h0
  exact ⟨_,cap,rfl,h1,by unfold maxLen at h2;omega,fun _ => ⟨g,0,rfl,h3⟩⟩
 ·obtain ⟨ad,cap,rfl,h1⟩:=h.shape
  exact ⟨ad,cap,rfl,h1,by omega,fun h => absurd h h0⟩
theorem BytesAt.below {w w':World} {v:Value} {l:List UInt8} (h:BytesAt w v l) (hb:Below w.heap.size w w'):BytesAt w' v l:=by
 obtain ⟨ad,cap,rfl,h1,h2,h3⟩:=h
 refine ⟨ad,cap,rfl,h1,h2,fun h0 => ?_⟩
 obtain ⟨b,off,rfl,hc⟩:=h3 h0
 exact ⟨b,off,rfl,fun i hi => (hb.cell (p:=⟨b,off+i,none⟩) (World.block_lt_of_cell? _ ⟨b,off+i,none⟩ (hc i hi))).trans (hc i hi)⟩
theorem decode_any (v:Value) (l:List UInt8) (w:World) (h:BytesAt w v l) :
  Calls Tryz.prog 69 #[v] w fun r w' => r = .returned (if Wire.reads l=true then .tuple #[frVal l,.int .i64 0] else .tuple #[zeroFr,.int .i64 1])∧Below w.heap.size w w':=by
 obtain ⟨ad,cap,rfl,hcap,hm,hc⟩:=h
 by_cases h15:l.length < 15
 ·have:Wire.reads l=false:=by unfold Wire.reads whole;rw [decide_eq_false (by omega)];simp
  rw [this]
  exact decode_short ad l.length cap w (by omega)
 ·obtain ⟨b,off,rfl,hcc⟩:=hc (by omega)
  clear hc
  have hc:=hcc
  clear hcc
  obtain ⟨k,hk⟩:∃ k,l.length=k+15:=⟨l.length - 15,by omega⟩
  rw [hk] at hcap hm hc
  rw [hk]
  cases hw:whole l
  ·have:Wire.reads l=false:=by unfold Wire.reads;rw [hw];simp
   rw [this]
   exact decode_bad b off (k+11) cap l w hk (by unfold maxLen;omega) hcap (by omega) hw hc
  ·have hr:Wire.reads l=Wire.proper (Wire.kindOf l) (Wire.epochOf l) (Wire.streamOf l) (Wire.seqOf l) (Wire.bodyOf l):=by unfold Wire.reads;rw [hw];simp
   rw [hr]
   have hbl:b < w.heap.size:=World.block_lt_of_cell? _ _ (hc 0 (by omega))
   have cw:∀ w',Below w.heap.size w w' → ∀ i,i < k+15→w'.cell? ⟨b,off+i,none⟩=some (.int .u8 (l.getD i 0).toNat):=fun w' h i hi => (h.cell (p:=⟨b,off+i,none⟩) hbl).trans (hc i hi)
   have k1:=kindOf_range l
   have k3:=streamOf_range l
   refine decode_core b off k cap w (Wire.kindOf l) (Wire.epochOf l) (Wire.streamOf l) (Wire.seqOf l) (Wire.bodyOf l) hm hcap ⟨k1.1,by omega⟩ (Wire.numAt_range l 1) ⟨k3.1,by omega⟩ (Wire.numAt_range l 6) _ rfl ?_ ?_ ?_ ?_
   ·intro o
    have:=isWhole_long b off (k+11) cap l (w.alloc o) hk (by unfold maxLen;omega) hcap (by omega) (fun i hi => by
     have:=hc i hi
     rw [← this];exact World.cell?_alloc_lt _ _ _ (World.block_lt_of_cell? _ _ this))
    rw [hw] at this
    exact this
   ·intro w' h
    refine ⟨h,cw w' h 0 (by omega),cw w' h 5 (by omega),conv_str (l:=(l.take (l.length - 4)).drop 11) (by simp;omega) (fun i hi => ?_)⟩
    rw [Nat.add_assoc,cw w' h (11+i) (by omega)]
    simp only [List.getD_eq_getElem?_getD,List.getElem?_drop,List.getElem?_take]
    rw [if_pos (by omega)]
   ·intro w' h
    exact number_bytes b (off+1) (k+14) (cap - 1) _ _ _ _ w' (by omega) (cw w' h 1 (by omega)) (cw w' h 2 (by omega)) (cw w' h 3 (by omega)) (cw w' h 4 (by omega))
   ·intro w' h
    exact number_bytes b (off+6) (k+9) (cap - 6) _ _ _ _ w' (by omega) (cw w' h 6 (by omega)) (cw w' h 7 (by omega)) (cw w' h 8 (by omega)) (cw w' h 9 (by omega))
theorem courier_Encode_yes (k e s q:Int) (b:ByteArray) (w:World) (hp:Wire.proper k e s q b=true) :
  Calls Tryz.prog 26 #[.agg #[.int .i64 k,.int .i64 e,.int .i64 s,.int .i64 q,.string b]] w fun r w' =>
   ∃ v,r = .returned (.tuple #[v,.int .i64 0])∧Owns (w.heap.size+1) w' v (Wire.bytes k e s q b.data.toList)∧Below w.heap.size w w':=by
 have H:=fun w' => hide (encode_yes' k e s q b w' hp)
 go_enter Tryz.func26,Tryz.ntmps26
 go_wp2_with (go_at_call 54;refine (unhide (H _)).mono ?_;rintro r w1 ⟨v,rfl,hown,hb⟩)
 go_ret2
 exact ⟨v,rfl,hown.mono (by simp),((Below.refl _ _).alloc (Nat.le_refl _) _).trans (hb.mono (by simp))⟩
end Go.Proofs.YtamafdcnbcoegabGreat
namespace Go.Proofs.YtamafdcnbcoegabGreat
open Go.RowKit
theorem wp_make_full {ops:Array Oper} {rest:List Oper} {o:Oper} {a:Act} {Q:Exit→Act→World→Prop} {w:World} (hgd:o.guard=none) (l c:Operand)
  (ho:o.op=Op.makeSlice 48 l c) (B:Nat) (kl kc:IntKind) (L C:Int) (n:Nat) (hl:a.eval l = .int kl L) (hc:a.eval c = .int kc C) (hL:L=(n:Int)) (hC:C=(n:Int)) (hsz:n ≤ 281474976710656) (hB:B ≤ w.heap.size)
  (h:∀ w',Owns B w' (.slice (some ⟨w.heap.size,0,none⟩) n n) (List.replicate n 0)→w.grownBy w' none→wpList Tryz.prog ops Q rest (a.put o.dst (.slice (some ⟨w.heap.size,0,none⟩) n n)) w') :
  wpList Tryz.prog ops Q (o :: rest) a w:=by
 obtain ⟨i0,hi,hz0,hz1,hz2⟩:=info_parts info5
 refine wpList_make_full (P:=Tryz.prog) w hgd l c 48 ho B 5 i0 (.int .u8 0) 1 Tryz.underlying48 hi hz0 hz1 kl kc L C n hl hc hL hC (by rw [hz2];omega) (by unfold maxLen;omega) hB ?_
 intro w' h1 h2
 refine h w' ?_ h2
 unfold Owns
 have e:bv (List.replicate n 0)=(madeCells (Value.int .u8 0).cells (n * 1)).toList:=by
  show _=(madeCells #[Value.int .u8 0] (n * 1)).toList
  rw [toList_madeCells_one,Nat.mul_one];simp [bv]
 rw [e,List.length_replicate]
 exact h1
end Go.Proofs.YtamafdcnbcoegabGreat
