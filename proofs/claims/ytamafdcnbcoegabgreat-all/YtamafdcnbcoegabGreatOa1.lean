/-
  Part 1 of a proof.
-/
import Derived.Below
import Derived.Test.YtamafdcnbcoegabGreatRows
import Derived.WalkKit
import Derived.WalkSpells
import Derived.WalkLawsBesides
import Derived.Deep.QuietTactic
import Derived.BigQuiet
import Derived.Lib.EndianBits
import Derived.Lib.AppendStr
import Derived.Deep.Cut
import Derived.Deep.CutRange
import Derived.Deep.CutBlock
import Derived.Deep.RegionHeld3
import Derived.Laws.ResultCell
import Derived.Laws.CopyOwn
import Derived.Laws.IdiomStrings
import Derived.OrdersIn
set_option maxRecDepth 100000
set_option maxHeartbeats 40000000
namespace Go.Proofs.YtamafdcnbcoegabGreat
abbrev z10:=ByteArray
abbrev z11:= @Go.RowKit.Below.refl
abbrev z12:= @Go.lt_of_block
abbrev z13:= @And.intro
abbrev z14:= @Go.World.ownsRow.lt
abbrev z15:= @List.getD_eq_getElem?_getD
abbrev z16:= @Nat.le_refl
abbrev z17:= @List.getElem?_eq_getElem
abbrev z20:= @Go.World.ownsRow_nil
abbrev z21:= @Nat.lt_of_lt_of_le
abbrev z26:= @Nat.le_trans
abbrev z27:= @List.getElem?_append_right
abbrev z28:= @Go.IntKind.wrap_i64
abbrev z29:= @List.length_append
abbrev z35:= @Go.RowKit.Below.heap_alloc
abbrev z36:= @Go.below_drewN
abbrev z38:= @Array.getElem?_eq_some_iff
abbrev z41:= @Array.getD_eq_getD_getElem?
abbrev z43:= @Array.all_eq_true_iff_forall_mem
abbrev z44:= @List.getElem?_append_left
abbrev z45:= @Nat.zero_add
abbrev z47:= @Go.bodyPost_ret
abbrev z48:= @List.take_of_length_le
abbrev z49:= @decide_eq_true
abbrev z50:= @List.map_cons
abbrev z51:= @List.mem_singleton
abbrev z52:= @Go.World.ownsRow.alloc
abbrev z53:= @decide_eq_false
abbrev z54:= @Nat.zero_le
abbrev z56:= @Bool.and_eq_true
abbrev z57:= @List.length_replicate
abbrev z58:= @Go.Calls.quiet_of_same
abbrev z59:= @Go.World.ownsRow.cellAt
abbrev z60:= @List.length_cons
abbrev z61:= @List.getD_cons_zero
abbrev z62:= @Int.eq_ofNat_of_zero_le
abbrev z65:= @List.mem_of_getElem?
abbrev z66:= @List.mem_map
abbrev z67:= @Go.wpList_append_own
abbrev z69:= @Go.World.block_lt_of_cell?
abbrev z70:= @decide_eq_true_eq
abbrev z73:= @List.getElem?_take
abbrev z75:= @Array.getElem?_eq_getElem
abbrev z76:= @List.getElem?_eq_none
abbrev z77:= @List.getElem?_map
abbrev z81:= @List.take_append_of_le_length
abbrev z82:= @List.getElem?_drop
abbrev z83:= @List.getD_cons_succ
abbrev z84:= @List.take_succ_eq_append_getElem
abbrev z85:= @Go.World.cell?_alloc_lt
abbrev z87:= @Go.Result.andThen_ok
abbrev z88:= @List.mem_range
abbrev z89:= @Bool.false_eq_true
abbrev z92:= @Go.World.size_alloc
abbrev z93:= @List.ext_getElem?
abbrev rU:= @List.countP_le_length
abbrev z107:= @List.map_toArray
abbrev z108:= @Go.Sem.run_bind
abbrev z109:= @List.map_nil
abbrev jJ:= @List.all_eq_true
abbrev z111:= @if_true
abbrev z118:= @if_false
abbrev rV:= @of_decide_eq_true
abbrev rW:= @List.countP_cons
abbrev Im:= @List.cons_append
abbrev rX:= @decide_eq_decide
abbrev zP:= @beq_iff_eq
abbrev z128:= @Go.Sem.run_pure
abbrev zQ:= @Nat.add_zero
abbrev jK:= @Go.wpList_plain
abbrev Io:= @Bool.true_and
abbrev rZ:= @List.map_map
abbrev Fh:= @List.mem_cons_of_mem
abbrev Fi:= @List.getElem_map
abbrev Fj:= @List.countP_eq_zero
abbrev jL:= @Go.info_parts
abbrev wL:= @ByteArray.ext
abbrev Ip:= @List.countP_cons_of_pos
abbrev Iq:= @Nat.mul_one
abbrev Fk:= @Nat.add_assoc
abbrev zR:= @List.mem_cons
abbrev zS:= @Go.wp_region_any
abbrev z201:= @Bool.or_eq_true
abbrev Mz:= @List.range_succ
abbrev wM:= @Go.grownCap_ge
abbrev Fm:= @List.nodup_cons
abbrev Na:= @Go.ByteArray.toList_eq
abbrev zT:= @Nat.lt_or_ge
abbrev Ir:= @List.mem_cons_self
abbrev Fo:= @Go.Calls.quiet_of
abbrev sA:= @Go.mem_ready
abbrev It:= @List.any_eq_true
abbrev Iu:= @Nat.add_comm
theorem exq {z:Type} (a:z):∃x,x=a:=⟨a,rfl⟩
namespace Qb
def isNum (n:Int):Bool:=decide (0<=n) &&decide (n<=2147483647)
def isStr (n:Int):Bool:=decide (0<=n) &&decide (n < 3)
def Vm (s:Int) (c:UInt8):Int:=(s * 31+(c.toNat:Int)) % 4294967296
def sum (l:List UInt8):Int:=l.foldl Vm 7
theorem sumStep_range (s:Int) (c:UInt8):0<=Vm s c/\Vm s c < 4294967296:=by
 unfold Vm;omega
theorem foldl_range (l:List UInt8) (s:Int) (h:0<=s/\s < 4294967296):0<=l.foldl Vm s/\l.foldl Vm s < 4294967296:=by
 induction l generalizing s with
 |nil=>exact h
 |cons c l ih=>exact ih _ (sumStep_range s c)
theorem Yt (l:List UInt8):0<=sum l/\sum l < 4294967296:=foldl_range l 7 (by omega)
theorem sum_snoc (l:List UInt8) (c:UInt8):sum (l++[c])=Vm (sum l) c:=by simp[sum]
theorem sum_take (l:List UInt8) (k:Nat) (h:k < l.length):sum (l.take (k+1))=Vm (sum (l.take k)) (l.getD k 0):=by
 rw[z84 h,sum_snoc];simp[List.getD,h]
def Vv (c0 c1 c2 c3:UInt8):Int:=(c0.toNat:Int)+(c1.toNat:Int) * 256+(c2.toNat:Int) * 65536+(c3.toNat:Int) * 16777216
def Qh (l:List UInt8) (i:Nat):Int:=Vv (l.getD i 0) (l.getD (i+1) 0) (l.getD (i+2) 0) (l.getD (i+3) 0)
def le4 (n:Int):List UInt8:=[UInt8.ofNat (n.toNat % 256),UInt8.ofNat (n.toNat / 256 % 256),UInt8.ofNat (n.toNat / 65536 % 256),UInt8.ofNat (n.toNat / 16777216 % 256)]
theorem num4_range (c0 c1 c2 c3:UInt8):0<=Vv c0 c1 c2 c3/\Vv c0 c1 c2 c3 < 4294967296:=by
 have:=c0.toNat_lt;have:=c1.toNat_lt;have:=c2.toNat_lt;have:=c3.toNat_lt;unfold Vv;omega
theorem Jq (l:List UInt8) (i:Nat):0<=Qh l i/\Qh l i < 4294967296:=num4_range _ _ _ _
theorem Qz (n:Int):(le4 n).length=4:=rfl
def Xi (b:z10):Bool:=decide (b.size=12) && (decide (Qh b.data.toList 0<=2147483647) && (decide (Qh b.data.toList 4<=2147483647) &&decide (Qh b.data.toList 8<=2147483647)))
def Jn (b:z10):Bool:=decide (b.size=1) &&decide ((b.data.toList.getD 0 0).toNat<=7)
def proper (k e s q:Int) (b:z10):Bool:=
 isNum e&& (if k=1\/k=5 then decide (s=0) && (decide (q=0) &&decide (b.size=0))
 else if k=2 then decide (s=0) && (decide (q=0) &&Xi b)
 else if k=3 then isStr s&& (decide (q≠0) && (isNum q&&decide (b.size<=20)))
 else if k=4 then isStr s&& (isNum q&&Jn b)
 else false)
def front (k e s q:Int) (b:List UInt8):List UInt8:=
 [UInt8.ofNat (k.toNat % 256)]++le4 e++[UInt8.ofNat (s.toNat % 256)]++le4 q++[UInt8.ofNat (b.length % 256)]++b
def bytes (k e s q:Int) (b:List UInt8):List UInt8:=front k e s q b++le4 (sum (front k e s q b))
def whole (l:List UInt8):Bool:=
 decide (15<=l.length) && (decide (l.length=15+(l.getD 10 0).toNat) &&decide (Qh l (l.length - 4)=sum (l.take (l.length - 4))))
def Jk (l:List UInt8):Int:=(l.getD 0 0).toNat
def Jf (l:List UInt8):Int:=Qh l 1
def Qs (l:List UInt8):Int:=(l.getD 5 0).toNat
def Xh (l:List UInt8):Int:=Qh l 6
def Jp (l:List UInt8):z10:=⟨((l.take (l.length - 4)).drop 11).toArray⟩
def reads (l:List UInt8):Bool:=whole l&&proper (Jk l) (Jf l) (Qs l) (Xh l) (Jp l)
end Qb
open Qb
open Go.RowKit Go.Proofs.Tryz
theorem y' {p:Prop} (h:p):Hid p:=h
theorem d' {p:Prop} (h:Hid p):p:=h
variable{aD aV:Bool}{cL:IntKind}{o V aF aH:Int}{p f B:World}{cM:Addr}{y:Value}{r:List UInt8}{w a q:Nat}{cI:Option Nat}{aC:Array Oper}{J dI:Oper}{G dC:Act}{aB:Exit -> Act -> World -> Prop}{cN:Code}{aU:Obj}{bG:Oper -> Act -> World -> (Act -> World -> Prop) -> Prop}{cJ:Act -> World -> Prop}{bL:Nat -> Array Bool -> Act -> World -> Prop}{cV:FuncId}{l:Array Value}{dO:Ending -> World -> Prop}{N:Nat -> Prop}{cB:World -> World -> Prop}{m:Nat -> Value}{dR:Nat -> Value -> World -> Prop}{cR:List (List Nat)}{k cS:List Nat}{bU:Array Bool}
theorem BR (h:aD=aV):Ending.returned (.bool aD)=Ending.returned (.bool aV):=by rw[h]
theorem IP (h:o=V):Ending.returned (.int cL o)=Ending.returned (.int cL V):=by rw[h]
theorem mL (n:Nat) (h:p.cell? cM=some y):(p.drewN n).cell? cM=some y:=h
def bv (l:List UInt8):List Value:=l.map λc=>.int .u8 c.toNat
theorem FN (l m:List UInt8):bv (l++m)=bv l++bv m:=by simp[bv]
theorem AC (l:List UInt8):(bv l).length=l.length:=by simp[bv]
theorem JW (h:w < r.length):(bv r)[w]? =some (.int .u8 (r.getD w 0).toNat):=by
 simp[bv,h]
theorem GO (l:List UInt8):∀u∈bv l,u.oneCell'=true:=by
 intro u hu;simp only[bv,List.mem_map]at hu;obtain⟨c,_,rfl⟩:=hu;rfl
theorem zU (h0:0<=o):bv (le4 o)=[.int .u8 (o % 256),.int .u8 (o / 256 % 256),.int .u8 (o / 65536 % 256),.int .u8 (o / 16777216 % 256)]:=by
 obtain⟨m,rfl⟩:=z62 h0;simp[bv,le4]
theorem MC (h0:0<=o) (h1:o < 256):bv [UInt8.ofNat (o.toNat % 256)]=[.int .u8 o]:=by
 obtain⟨m,rfl⟩:=z62 h0;have:m % 256=m:=by omega
 simp[bv,this]
theorem zV (s:z10):Lib.strCells s=bv s.data.toList:=rfl
theorem UQ:(prog.info? 5).map (λi=>(i.zero,i.size,i.bytes))=some (some (.int .u8 0),1,1):=by kernel_rfl
theorem AW {w:World} {l:List Value} {e:TypeId}:∀j u,l[j]? =some u->(w.alloc (.cells l.toArray e)).cell? ((⟨w.heap.size,0,none⟩:Addr).add j)=some u:=by
 intro j u h;by_cases hj:j=0;subst hj;simpa[Addr.add]using h;simpa[Addr.add,hj]using h
def Qw (B:Nat) (w:World) (v:Value) (l:List UInt8):Prop:=w.ownsRow B 5 1 v l.length (bv l)
theorem Qw.alloc {B:Nat} {w:World} {v:Value} {l:List UInt8} (h:Qw B w v l) (o:Obj):Qw B (w.alloc o) v l:=z52 h o
theorem QK (B:Nat) (w:World):Qw B w (.slice none 0 0) []:=z20 _ _ _ _
theorem Qw.mono {B B':Nat} {w:World} {v:Value} (h:Qw B w v r) (G:B'<=B):Qw B' w v r:=by
 obtain⟨h1,h2⟩:=h;refine⟨h1,?_⟩;rcases h2 with h2|⟨g,cap,z,e,hb,F⟩;exact .inl h2;exact .inr ⟨g,cap,z,e,by omega,F⟩
theorem Qw.below {B C:Nat} {w w':World} {v:Value} {l:List UInt8} (h:Qw B w v l) (hb:Below C w w') (z:∀g,v.ownBlock=some g->g < C):Qw B w' v l:=by
 obtain⟨h1,h2⟩:=h;refine⟨h1,?_⟩;rcases h2 with h2|⟨g,cap,F,e,G,H,r⟩;exact .inl h2;subst e;exact .inr ⟨g,cap,F,rfl,G,by rw[hb.block g (z g rfl)];exact H,r⟩
theorem Qw.lt {B:Nat} {w:World} {v:Value} {l:List UInt8} (h:Qw B w v l):∀g,v.ownBlock=some g->B<=g/\g < w.heap.size:=z14 h
theorem Qw.addr (h:Qw w p y r) (hl:0 < r.length):
  ∃g cap,y=.slice (some ⟨g,0,none⟩) r.length cap/\w<=g/\g < p.heap.size/\r.length<=cap/\cap<=maxLen/\∀i,i < r.length->p.cell? ⟨g,0+i,none⟩=some (.int .u8 (r.getD i 0).toNat):=by
 have h0:=h;obtain⟨h1,h2⟩:=h;rcases h2 with ⟨_,h2⟩|⟨g,cap,I,e,z,F,G,H,_,J⟩;omega;subst e;refine⟨g,cap,rfl,z,z12 F,G,H,λi hi=>?_⟩;have:=z59 h0 i (by omega);rw[z45,this,JW hi]
theorem Qw.shape (h:Qw w p y r):∃z cap,y=.slice z r.length cap/\r.length<=cap:=by
 obtain⟨h1,h2⟩:=h;rcases h2 with ⟨e,h2⟩|⟨g,cap,G,e,H,I,F,J,_,M⟩;exact⟨none,0,by rw[h2];exact e,by omega⟩;exact⟨_,cap,e,F⟩
theorem AB {B:Nat} {w:World} (z:w.grownBy p cI) (F:B<=w.heap.size) (G:∀k,cI=some k->B<=k):Below B w p:=
 (z11 B w).grown z F G
theorem QL {rest:List Oper} {w:World} (H:J.guard=none) (s x:Operand)
  (I:J.op=.call {callee:=.builtin .append,args:= #[s,x],argTypes:= #[48,48]}) (B:Nat) (v:Value) (l:List UInt8) (M:Qw B w v l) (hs:G.eval s=v)
  (F:Addr) (m c:Nat) (z:List UInt8) (Q:G.eval x=.slice (some F) m c) (hl:z.length=m) (V:∀j u,(bv z)[j]? =some u->w.cell? (F.add j)=some u)
  (ac:l.length+m<=140737488355328) (Y:B<=w.heap.size)
  (h:∀v' w',Qw B w' v' (l++z)->w.grownBy w' v.ownBlock->wpList prog aC aB rest (G.put J.dst v') w'):wpList prog aC aB (J::rest) G w:=by
 obtain⟨i0,hi,Z,aa,ab⟩:=jL UQ;refine z67 (P:=prog) _ H s x 48 I B 5 i0 (.int .u8 0) 1 1 underlying48 hi Z aa ab rfl (by decide) v l.length (bv l) hs M F m c (bv z) Q
  (by rw[AC,hl];omega) V (GO z) (by unfold maxLen;omega) (by omega) Y ?_
 intro v' w' h1 h2 _;refine h v' w' ?_ h2;unfold Qw;rw[FN,z29,hl];exact h1
theorem NB {rest:List Oper} (z:J.guard=none) (s x:Operand)
  (F:J.op=.call {callee:=.builtin .append,args:= #[s,x],argTypes:= #[48,48]}) (B:Nat) (v:Value) (l:List UInt8) (n:Int) (H:Qw B p v l) (hs:G.eval s=v)
  (I:G.eval x=.slice (some ⟨p.heap.size,0,none⟩) 1 1) (h0:0<=n) (h1:n < 256)
  (M:l.length+1<=140737488355328) (Y:B<=p.heap.size)
  (h:∀v' w',Qw B w' v' (l++[UInt8.ofNat (n.toNat % 256)])->p.grownBy w' v.ownBlock->wpList prog aC aB rest (G.put J.dst v') w'):
  wpList prog aC aB (J::rest) G (p.alloc (.cells #[.int .u8 n] 5)):=by
 refine QL (w:=p.alloc (.cells #[.int .u8 n] 5)) z s x F B v l (H.alloc _) hs ⟨p.heap.size,0,none⟩ 1 1 [UInt8.ofNat (n.toNat % 256)] I rfl
  (by rw[MC h0 h1];exact AW) M (by simp;omega) ?_
 intro v' w' h2 h3;refine h v' w' h2 ⟨h3.os,h3.tape,h3.output,by have:=h3.size;simp at this;omega,λk Q V=>?_⟩;rw[h3.block k (by simp;omega) V];exact z35 _ _ _ Q
theorem sB {rest:List Oper} (F:J.guard=none) (s x:Operand)
  (H:J.op=.call {callee:=.builtin .append,args:= #[s,x],argTypes:= #[48,9]}) (B:Nat) (v:Value) (l:List UInt8) (I:Qw B p v l) (hs:G.eval s=v)
  (z:z10) (M:G.eval x=.string z) (Q:l.length+z.size<=140737488355328) (V:B<=p.heap.size)
  (h:∀v' w',Qw B w' v' (l++z.data.toList)->p.grownBy w' v.ownBlock->wpList prog aC aB rest (G.put J.dst v') w'):wpList prog aC aB (J::rest) G p:=by
 obtain⟨i0,hi,Y,Z,aa⟩:=jL UQ;obtain⟨v',w',ab,h1,h2,_⟩:=Lib.run_append_own_string (P:=prog) p B 48 9 J.type 5 i0 underlying48 underlying9 hi Y Z aa v l.length (bv l) I z
  (by unfold maxLen;omega) Q V
 refine jK F λK ac=>?_;unfold Oper.wp execOp;simp only[H,resolve,invoke,builtin,Sem.run_bind,Sem.run_pure,Result.andThen_ok,List.map_toArray,List.map_cons,List.map_nil,hs,M,ab];refine ac _ _ (h v' w' ?_ h2);unfold Qw;rw[FN,z29,<-zV];have:z.data.toList.length=z.size:=by simp
 rw[this];exact h1
theorem eH {rest:List Oper} (F:J.guard=none) (l c:Operand)
  (H:J.op=Op.makeSlice 48 l c) (B:Nat) (kl z:IntKind) (C:Int) (n:Nat) (hl:G.eval l=.int kl 0) (I:G.eval c=.int z C) (M:C=(n:Int)) (aa:n<=140737488355328) (Q:B<=p.heap.size)
  (h:∀w',Qw B w' (.slice (some ⟨p.heap.size,0,none⟩) 0 n) []->p.grownBy w' none->wpList prog aC aB rest (G.put J.dst (.slice (some ⟨p.heap.size,0,none⟩) 0 n)) w'):
  wpList prog aC aB (J::rest) G p:=by
 obtain⟨i0,hi,V,Y,Z⟩:=jL UQ;exact wpList_make_own (P:=prog) p F l c 48 H B 5 i0 (.int .u8 0) 1 underlying48 hi V Y kl z C n hl I M (by rw[Z];omega) (by unfold maxLen;omega) Q h
theorem G' {P:Program} (R:World->Prop) (h:R p) (k:∀p,R p->cN.wp P aB G p):cN.wp P aB G p:=k p h
theorem JX {w:World} {b off n cap:Nat} {l:List UInt8} (hl:l.length=n) (z:∀i,i < n->w.cell? ⟨b,off+i,none⟩=some (.int .u8 (l.getD i 0).toNat)):
  (convert 48 9 (.slice (some ⟨b,off,none⟩) n cap)).run prog w=.ok (.string ⟨l.toArray⟩) w:=by
 have h:=run_convert_bytes_arg (P:=prog) w 48 5 underlying48 underlying5 b off n cap (l.map λc=>(c.toNat:Int)) (by simp[hl])
  (λi hi=>by rw[z i hi];simp[List.getD_eq_getElem?_getD,List.getElem?_map];cases h:l[i]? <;> simp) 9 underlying9
 have e:strOfNums (l.map λc=>(c.toNat:Int))=⟨l.toArray⟩:=by
  unfold strOfNums;rw[rZ];have:(λn:Int=>UInt8.ofNat n.toNat) ∘ (λc:UInt8=>(c.toNat:Int))=id:=by funext c;simp
  rw[this,List.map_id]
 rw[e]at h;exact h
theorem GP (h0:0<=o):Qb.isNum o=decide (o<=2147483647):=by simp[Qb.isNum,h0]
theorem zW (h0:o < 0):Qb.isNum o=false:=by simp[Qb.isNum];omega
theorem wN (h0:0<=o):Qb.isStr o=decide (o < 3):=by simp[Qb.isStr,h0]
theorem zX (h0:o < 0):Qb.isStr o=false:=by simp[Qb.isStr];omega
theorem BY (n:Int) (w:World):
  Calls prog 138 #[.int .i64 n] w λe w'=>e=.returned (.bool (Qb.isNum n))/\w'=w:=by
 by_cases h:n < 0;all_goals
  go_enter func138,ntmps138;go_wp2;go_ret
 exact⟨BR (zW h).symm,rfl⟩;exact⟨BR (GP (by omega)).symm,rfl⟩
theorem CD (n:Int) (w:World):
  Calls prog 71 #[.int .i64 n] w λe w'=>e=.returned (.bool (Qb.isStr n))/\w'=w:=by
 by_cases h:n < 0;all_goals
  go_enter func71,ntmps71;go_wp2;go_ret
 exact⟨BR (zX h).symm,rfl⟩;exact⟨BR (wN (by omega)).symm,rfl⟩
variable{z:z10}
theorem UR (h:(z.size:Int)=1) (F:0 < z.size):Qb.Jn z=decide ((z[0].toNat:Int)<=7):=by
 have h1:z.size=1:=by omega
 have h2:z.data.toList.getD 0 0=z[0]:=by
  have:(0:Nat) < z.data.toList.length:=by simpa using F
  rw[z15,z17 this];rfl
 rw[Qb.Jn,h2,z49 h1,Io];by_cases h3:z[0].toNat<=7;rw[z49 h3,z49 (by omega)];rw[z53 h3,z53 (by omega)]
theorem WW (h:¬ (z.size:Int)=1):Qb.Jn z=false:=by
 have h1:¬z.size=1:=by omega
 simp[Qb.Jn,h1]
theorem eI (s:z10) (w:World):
  Calls prog 140 #[.string s] w λe w'=>e=.returned (.bool (Qb.Jn s))/\w'=w:=by
 by_cases h:(s.size:Int)=1
 .have z:0 < s.size:=by omega
  go_enter func140,ntmps140;go_wp2;go_ret;exact⟨BR (UR h z).symm,rfl⟩
 go_enter func140,ntmps140;go_wp2;go_ret;exact⟨BR (WW h).symm,rfl⟩
theorem or4 (c0 c1 c2 c3:UInt8):
  bits BinOp.or IntKind.u32 (bits BinOp.or IntKind.u32 (bits BinOp.or IntKind.u32 ((c0.toNat:Int) % 4294967296) ((c1.toNat:Int) % 4294967296 * 256 % 4294967296))
   ((c2.toNat:Int) % 4294967296 * 65536 % 4294967296)) ((c3.toNat:Int) % 4294967296 * 16777216 % 4294967296)=Vv c0 c1 c2 c3:=by
 have h0:=c0.toNat_lt;have h1:=c1.toNat_lt;have h2:=c2.toNat_lt;have h3:=c3.toNat_lt;have z:(c0.toNat:Int) % 4294967296=c0.toNat:=by omega
 have F:(c1.toNat:Int) % 4294967296 * 256 % 4294967296=c1.toNat * 256:=by omega
 have G:(c2.toNat:Int) % 4294967296 * 65536 % 4294967296=c2.toNat * 65536:=by omega
 have H:(c3.toNat:Int) % 4294967296 * 16777216 % 4294967296=c3.toNat * 16777216:=by omega
 rw[z,F,G,H,u32_or8 (c0.toNat:Int) ((c1.toNat:Int) * 256) (by omega) (by omega) (by omega) (by omega) (by omega),
  u32_or16 ((c0.toNat:Int)+(c1.toNat:Int) * 256) ((c2.toNat:Int) * 65536) (by omega) (by omega) (by omega) (by omega) (by omega),
  u32_or24 ((c0.toNat:Int)+(c1.toNat:Int) * 256+(c2.toNat:Int) * 65536) ((c3.toNat:Int) * 16777216) (by omega) (by omega) (by omega) (by omega) (by omega)]
 unfold Vv;omega
theorem JJ (b off len cap:Nat) (c0 c1 c2 c3:UInt8) (w:World) (hl:4<=len)
  (h0:w.cell? ⟨b,off,none⟩=some (.int .u8 c0.toNat)) (h1:w.cell? ⟨b,off+1,none⟩=some (.int .u8 c1.toNat))
  (h2:w.cell? ⟨b,off+2,none⟩=some (.int .u8 c2.toNat)) (h3:w.cell? ⟨b,off+3,none⟩=some (.int .u8 c3.toNat)):
  Calls prog 109 #[.slice (some ⟨b,off,none⟩) len cap] w λe w'=>e=.returned (.int .u32 (Vv c0 c1 c2 c3))/\∃n,w'=w.drewN n:=by
 go_enter func109,ntmps109;go_wp2;go_quiet (fail);go_wp2;go_ret;exact⟨IP (or4 _ _ _ _),_,rfl⟩
theorem eJ (s:z10) (w:World) (h0:0 < s.size) (h1:1 < s.size) (h2:2 < s.size) (h3:3 < s.size):
  Calls prog 165 #[.string s] w λe w'=>e=.returned (.int .u32 (Vv s[0] s[1] s[2] s[3]))/\∃n,w'=w.drewN n:=by
 have i0:(0:Int) < (s.size:Int):=by omega
 have z:(1:Int) < (s.size:Int):=by omega
 have F:(2:Int) < (s.size:Int):=by omega
 have i3:(3:Int) < (s.size:Int):=by omega
 go_enter func165,ntmps165;go_wp2;go_quiet (fail);go_wp2;go_ret;exact⟨IP (or4 _ _ _ _),_,rfl⟩
theorem zY (z:r.length=a) (F:w<=a) (h:¬w < a):r.take w=r:=z48 (by omega)
theorem wO (z:w < r.length):
  (Qb.sum (r.take w) * 31 % 4294967296+(r[w].toNat:Int) % 4294967296) % 4294967296=Qb.sum (r.take (w+1)):=by
 rw[sum_take r w z,Vm,z15,z17 z];simp
theorem gR (b off len cap:Nat) (l:List UInt8) (w:World) (z:l.length=len) (F:len<=maxLen)
  (G:∀i,i < len->w.cell? ⟨b,off+i,none⟩=some (.int .u8 (l.getD i 0).toNat)):
  Calls prog 104 #[.slice (some ⟨b,off,none⟩) len cap] w λe w'=>e=.returned (.int .u32 (Qb.sum l))/\w'=w:=by
 unfold maxLen at F;go_enter func104,ntmps104;go_wp2;go_loop [3,8] (λs i=>∃k:Nat,k<=len/\i=.int .i64 k/\s=.int .u32 (Qb.sum (l.take k))) (λ_ i=>len - (intOf i).toNat)
 case atStart=>exact⟨0,z54 _,rfl,rfl⟩
 case round=>
  obtain⟨k,H,rfl,rfl⟩:=hrel;have M:k < len->w.cell? ⟨b,off+k,none⟩=some (.int .u8 (l.getD k 0).toNat):=λ_=>G k (by omega);by_cases I:k < len
  .go_wp2;go_round
   case rel=>exact⟨k+1,by omega,by go_num,congrArg (Value.int .u32) (wO (by omega))⟩
   case measure=>simp[intOf];omega
  have J:Hid (l.take k=l):=zY z H I;go_wp2;go_ret;exact⟨congrArg (λl=>Ending.returned (.int .u32 (Qb.sum l))) J.out,rfl⟩
theorem sC (x:z10) (h:4<=x.size):Vv (x[0]'(by omega)) (x[1]'(by omega)) (x[2]'(by omega)) (x[3]'(by omega))=Qh x.data.toList 0:=by
 have g:∀i (hi:i < x.size),x.data.toList.getD i 0=x[i]:=by
  intro i hi;have hl:i < x.data.toList.length:=by simpa using hi
  rw[z15,z17 hl];rfl
 unfold Qh;rw[g 0 (by omega),g (0+1) (by omega),g (0+2) (by omega),g (0+3) (by omega)]
theorem eK (s:z10) (a:Nat) (h:a+4<=s.size):Qh (s.extract a s.size).data.toList 0=Qh s.data.toList a:=by
 have g:∀i,i < 4->(s.extract a s.size).data.toList.getD i 0=s.data.toList.getD (a+i) 0:=by intro i hi;have z:s.data.size=s.size:=rfl;simp only[ByteArray.data_extract,Array.toList_extract,List.getD_eq_getElem?_getD,List.extract_eq_take_drop,List.getElem?_take,List.getElem?_drop];rw[if_pos (by omega)]
 unfold Qh;rw[g 0 (by omega),g (0+1) (by omega),g (0+2) (by omega),g (0+3) (by omega)];simp only[Nat.zero_add,Nat.add_zero]
theorem WX (x:z10) (w:World) (h:4<=x.size):
  Calls prog 165 #[.string x] w λe w'=>e=.returned (.int .u32 (Qh x.data.toList 0))/\∃n,w'=w.drewN n:=by
 have:=eJ x w (by omega) (by omega) (by omega) (by omega);rw[sC x h]at this;exact this
def mM (s:z10) (k:Nat):Prop:=∀j,j < k->Qh s.data.toList (4 * j)<=2147483647
theorem wP (s:z10):mM s 0:=λ_ h=>absurd h (by omega)
theorem wQ {s:z10} {k:Nat} (h:mM s k) (z:Qh s.data.toList (4 * k)<=2147483647):mM s (k+1):=λj hj=>by
 by_cases e:j=k
 .rw[e];exact z
 .exact h j (by omega)
theorem sD {s:z10} (F:w < 3) (z:2147483647 < Qh s.data.toList (4 * w)):Xi s=false:=by
 have:w=0\/w=1\/w=2:=by omega
 unfold Xi;rcases this with rfl|rfl|rfl <;> simp at z ⊢ <;> omega
theorem mN (h:(z.size:Int)=12) (F:mM z 3):Xi z=true:=by
 have a0:=F 0 (by omega);have a1:=F 1 (by omega);have a2:=F 2 (by omega);simp at a0 a1 a2;unfold Xi;simp[a0,a1,a2];omega
theorem mO (a:Array Obj) (o:Obj) (f:Obj->Obj):(a.push o).modify a.size f=a.push (f o):=by
 apply Array.ext;simp;intro j h1 h2;simp only[Array.getElem_modify,Array.getElem_push];simp at h1;by_cases hj:a.size=j;subst hj;simp;have:j < a.size:=by omega
 simp[hj,this]
theorem WY {w:World} {C:Array Value} {T:TypeId} {b:Nat} (i:Nat) (v:Value) (n:Nat) (hb:b=w.heap.size):((w.alloc (.cells C T)).drewN n).setCell ⟨b,i,none⟩ v=(w.alloc (.cells (C.setIfInBounds i v) T)).drewN n:=by
 subst hb;unfold World.setCell World.alloc World.drewN;simp only[mO];rfl
def Iv (n0 n1 n2:Int):Nat->Array Value
 |0=> #[.int .i64 0,.int .i64 0,.int .i64 0]
 |1=> #[.int .i64 n0,.int .i64 0,.int .i64 0]
 |2=> #[.int .i64 n0,.int .i64 n1,.int .i64 0]
 | _=> #[.int .i64 n0,.int .i64 n1,.int .i64 n2]
theorem DX (l:List UInt8) (i:Nat):0<=Qh l i/\Qh l i < 4294967296:=by
 unfold Qh Vv;have h0:=(l.getD i 0).toNat_lt;have h1:=(l.getD (i+1) 0).toNat_lt;have h2:=(l.getD (i+2) 0).toNat_lt;have h3:=(l.getD (i+3) 0).toNat_lt;omega
theorem OX (s:z10) (w:World) (h:s.size=12):
  Calls prog 116 #[.string s] w λe w'=>e=.returned (.agg #[.int .i64 (Qh s.data.toList 0),.int .i64 (Qh s.data.toList 4),.int .i64 (Qh s.data.toList 8)])/\Below w.heap.size w w':=by
 have g:∀k,0 < k->k < 3->∀w,Calls prog 165 #[.string (s.extract (4 * k) s.size)] w λe w'=>e=.returned (.int .u32 (Qh s.data.toList (4 * k)))/\∃n,w'=w.drewN n:=by
  intro k _ H w;have I:=eK s (4 * k) (by omega);have J:(s.extract (4 * k) s.size).size=s.size - 4 * k:=by simp
  rw[<-I];exact WX _ w (by omega)
 have g0:=y' (λw=>WX s w (by omega));have g1:=y' (g 1 (by omega) (by omega));have g2:=y' (g 2 (by omega) (by omega));clear g;have i4:(4:Int)<=(s.size:Int):=by omega
 have M:(8:Int)<=(s.size:Int):=by omega
 have Q:4<=s.size:=by omega
 have V:8<=s.size:=by omega
 clear h;simp only[Nat.mul_one,Nat.reduceMul]at g0 g1 g2;have F:=DX s.data.toList 0;have G:=DX s.data.toList 4;have b2:=DX s.data.toList 8;generalize Qh s.data.toList 0=n0 at g0 F ⊢;generalize Qh s.data.toList 4=n1 at g1 G ⊢;generalize Qh s.data.toList 8=n2 at g2 b2 ⊢;obtain⟨Y,Z⟩:=F;obtain⟨aa,ab⟩:=G;obtain⟨ac,ad⟩:=b2;go_enter func116,ntmps116;go_wp2;go_loopw[5] (λi wr=>∃k:Nat,k<=3/\i=.int .i64 k/\∃n,wr=((w.alloc (.cells (Iv n0 n1 n2 0) 35)).alloc (.cells (Iv n0 n1 n2 k) 35)).drewN n) (λi _=>3 - (intOf i).toNat)
 case atStart=>exact⟨0,by omega,rfl,0,rfl⟩
 case round=>
  obtain⟨k,H,rfl,n,rfl⟩:=hrel;obtain rfl|rfl|rfl|rfl:k=0\/k=1\/k=2\/k=3:=by omega
  all_goals simp only[Iv]
  .go_wp2_with (go_at_call 165;refine((d' g0) _).mono ?_;rintro e w' ⟨rfl,z,rfl⟩)
   go_roundw
   case rel=>exact⟨1,by omega,rfl,n+z,WY (w:=w.alloc _) 0 (.int .i64 n0) (n+z) (by simp)⟩
   case measure=>simp[intOf]
  .go_wp2_with (go_at_call 165;refine((d' g1) _).mono ?_;rintro e w' ⟨rfl,z,rfl⟩)
   go_roundw
   case rel=>exact⟨2,by omega,rfl,n+z,WY (w:=w.alloc _) 1 (.int .i64 n1) (n+z) (by simp)⟩
   case measure=>simp[intOf]
  .go_wp2_with (go_at_call 165;refine((d' g2) _).mono ?_;rintro e w' ⟨rfl,z,rfl⟩)
   go_roundw
   case rel=>exact⟨3,by omega,rfl,n+z,WY (w:=w.alloc _) 2 (.int .i64 n2) (n+z) (by simp)⟩
   case measure=>simp[intOf]
  go_wp2;exact z47 (v:=.agg #[.int .i64 n0,.int .i64 n1,.int .i64 n2]) (by simp[results,results116,go_sem]) rfl ⟨rfl,(((z36 (((z11 _ _).alloc (z16 _) _).alloc (by simp) _) _).setCell (z16 _) _).setCell (z16 _) _).setCell (z16 _) _⟩
theorem QM (s:z10) (w:World):
  Calls prog 139 #[.string s] w λe w'=>e=.returned (.bool (Xi s))/\Below w.heap.size w w':=by
 by_cases h:(s.size:Int)=12
 .have G:=y' (OX s w (by omega));have I:=DX s.data.toList 0;have J:=DX s.data.toList 4;have b2:=DX s.data.toList 8;have F:Hid (Xi s=(decide (Qh s.data.toList 0<=2147483647) && (decide (Qh s.data.toList 4<=2147483647) &&decide (Qh s.data.toList 8<=2147483647)))):=by have:s.size=12:=(by omega);show _= _;simp[Xi,this]
  generalize Qh s.data.toList 0=n0 at G I F;generalize Qh s.data.toList 4=n1 at G J F;generalize Qh s.data.toList 8=n2 at G b2 F;obtain⟨M,Z⟩:=I;obtain⟨Q,aa⟩:=J;obtain⟨V,ab⟩:=b2;have i0:∀w:World,(Instr.index 35 (.agg #[.int .i64 n0,.int .i64 n1,.int .i64 n2]) (.int .i64 0)).run prog w=.ok (.int .i64 n0) w:=λ_=>by kernel_rfl
  have ac:∀w:World,(Instr.index 35 (.agg #[.int .i64 n0,.int .i64 n1,.int .i64 n2]) (.int .i64 1)).run prog w=.ok (.int .i64 n1) w:=λ_=>by kernel_rfl
  have ad:∀w:World,(Instr.index 35 (.agg #[.int .i64 n0,.int .i64 n1,.int .i64 n2]) (.int .i64 2)).run prog w=.ok (.int .i64 n2) w:=λ_=>by kernel_rfl
  go_enter func139,ntmps139;go_upto_region 4 with (go_at_call 116;refine(d' G).mono ?_;rintro e w1 ⟨rfl,Y⟩;have H:=y' Y;clear Y);clear h;go_loop [10] (λi=>∃k:Nat,k<=3/\i=.int .i64 k/\(0 < k->n0<=2147483647)/\(1 < k->n1<=2147483647)/\(2 < k->n2<=2147483647)) (λi=>3 - (intOf i).toNat)
  case atStart=>exact⟨0,by omega,rfl,by omega,by omega,by omega⟩
  case round=>
   obtain⟨k,ah,rfl,k0,k1,k2⟩:=hrel;obtain rfl|rfl|rfl|rfl:k=0\/k=1\/k=2\/k=3:=by omega
   .by_cases z:n0<=2147483647
    .go_wp2_with (go_at_call 138;refine(BY _ _).mono ?_;rw[GP M,z49 z];rintro e w' ⟨rfl,rfl⟩)
     go_round
     case rel=>exact⟨1,by omega,rfl,by omega,by omega,by omega⟩
     case measure=>simp[intOf]
    go_wp2_with (go_at_call 138;refine(BY _ _).mono ?_;rw[GP M,z53 z];rintro e w' ⟨rfl,rfl⟩)
    go_ret;exact⟨BR (by rw[d' F,z53 (Int.not_le.mpr (show 2147483647 < n0 by assumption))];rfl),d' H⟩
   .by_cases z:n1<=2147483647
    .go_wp2_with (go_at_call 138;refine(BY _ _).mono ?_;rw[GP Q,z49 z];rintro e w' ⟨rfl,rfl⟩)
     go_round
     case rel=>exact⟨2,by omega,rfl,by omega,by omega,by omega⟩
     case measure=>simp[intOf]
    go_wp2_with (go_at_call 138;refine(BY _ _).mono ?_;rw[GP Q,z53 z];rintro e w' ⟨rfl,rfl⟩)
    go_ret;exact⟨BR (by rw[d' F,z53 (Int.not_le.mpr (show 2147483647 < n1 by assumption))];simp),d' H⟩
   .by_cases z:n2<=2147483647
    .go_wp2_with (go_at_call 138;refine(BY _ _).mono ?_;rw[GP V,z49 z];rintro e w' ⟨rfl,rfl⟩)
     go_round
     case rel=>exact⟨3,by omega,rfl,by omega,by omega,by omega⟩
     case measure=>simp[intOf]
    go_wp2_with (go_at_call 138;refine(BY _ _).mono ?_;rw[GP V,z53 z];rintro e w' ⟨rfl,rfl⟩)
    go_ret;exact⟨BR (by rw[d' F,z53 (Int.not_le.mpr (show 2147483647 < n2 by assumption))];simp),d' H⟩
   go_wp2;go_ret;exact⟨BR (by rw[d' F,z49 (k0 (by omega)),z49 (k1 (by omega)),z49 (k2 (by omega))];rfl),d' H⟩
 go_enter func139,ntmps139;go_wp2;go_ret;exact⟨BR (by simp[Xi];omega),z11 _ _⟩
theorem Nb:∀u∈ [Value.int cL o,.int cL V,.int cL aF,.int cL aH],u.oneCell'=true:=by
 intro u hu;simp at hu;rcases hu with rfl|rfl|rfl|rfl <;> rfl
theorem QN (h:(p.alloc aU).grownBy f cI):p.grownBy f cI:=by
 refine⟨h.os,h.tape,h.output,by have:=h.size;simp at this;omega,λk z F=>?_⟩;rw[h.block k (by simp;omega) F];exact z35 _ _ _ z
theorem BH (B:Nat) (n:Int) (v:Value) (l:List UInt8) (w:World) (hl:l.length<=1000) (Z:B<=w.heap.size) (G:0<=n)
  (z:Qw B w v l):
  Calls prog 103 #[v,.int .u32 n] w λe w'=>∃v',e=.returned v'/\Qw B w' v' (l++le4 n)/\w.grownBy w' v.ownBlock:=by
 have F:=zU G;obtain⟨i0,hi,H,I,J⟩:=jL UQ;have M:=y' z;have Q:=y' F;clear F z;go_enter func103,ntmps103;go_wp2_with (at_builtin;refine z67 _ rfl _ _ 48 rfl B 5 i0 (.int .u8 0) 1 1 underlying48 hi H I J rfl (by decide) v l.length (bv l) rfl ((d' M).alloc _) ⟨w.heap.size,0,none⟩ 4 4 [.int .u8 (n % 256),.int .u8 (n / 256 % 256),.int .u8 (n / 65536 % 256),.int .u8 (n / 16777216 % 256)] rfl rfl AW Nb ?c3 ?c4 ?c5 ?_)
 case c3=>unfold maxLen;omega
 case c4=>omega
 case c5=>simp;omega
 intro v' w1 V Y _;go_wp2;go_ret;refine⟨v',rfl,?_,QN Y⟩;unfold Qw;rw[FN,d' Q];simpa[Qz]using V
theorem jM (b:z10):b.toList.isEmpty=decide (b.size=0):=by
 rcases Nat.eq_zero_or_pos b.size with h|h;have:b=ByteArray.empty:=by apply wL;apply Array.eq_empty_of_size_eq_zero;exact h
 subst this;simp[ByteArray.toList_eq];have hn:b.toList≠ []:=by
  intro e;have h1:b.toList.length=b.size:=by simp[ByteArray.toList_eq]
  rw[e]at h1;simp at h1;omega
 rw[z53 (by omega)];cases hl:b.toList with
 |nil=>exact absurd hl hn
 |cons _ _=>rfl
theorem wR (k e s q:Int) (b:z10) (w:World) (I:Qb.isNum e=true) (z:k=1\/k=5):
  Calls prog 89 #[.agg #[.int .i64 k,.int .i64 e,.int .i64 s,.int .i64 q,.string b]] w λr w'=>r=.returned (.bool (Qb.proper k e s q b))/\Below w.heap.size w w':=by
 have F:(k==1)=true\/((k==1)=false/\(k==5)=true):=by rcases z with rfl|rfl <;> simp
 have G:Hid (Qb.proper k e s q b=(decide (s=0) && (decide (q=0) &&decide (b.size=0)))):=by show _= _;simp[Qb.proper,I,z]
 have H:Hid (b.toList.isEmpty=decide (b.size=0)):=jM b;clear z;rcases F with F|⟨F,J⟩;all_goals
  go_enter func89,ntmps89;go_wp2_with (go_at_call 138;refine(BY _ _).mono ?_;rintro r w' ⟨rfl,rfl⟩);all_goals
   go_ret;refine⟨BR ?_,(z11 _ _).alloc (z16 _) _⟩;have G:=d' G;have H:=d' H;simp_all
theorem wS (k e s q:Int) (b:z10) (w:World) (F:Qb.isNum e=true) (h2:k=2):
  Calls prog 89 #[.agg #[.int .i64 k,.int .i64 e,.int .i64 s,.int .i64 q,.string b]] w λr w'=>r=.returned (.bool (Qb.proper k e s q b))/\Below w.heap.size w w':=by
 subst h2;have z:Hid (Qb.proper 2 e s q b=(decide (s=0) && (decide (q=0) &&Xi b))):=by show _= _;simp[Qb.proper,F]
 go_enter func89,ntmps89;go_wp2_with (first|(go_at_call 138;refine(BY _ _).mono ?_;rintro r w' ⟨rfl,rfl⟩)|(go_at_call 139;refine(QM _ _).mono ?_;rintro r w' ⟨rfl,G⟩));all_goals
  go_ret;refine⟨BR ?_,by first|exact(z11 _ _).alloc (z16 _) _|exact((z11 _ _).alloc (z16 _) _).trans (G.mono (by simp))⟩;have z:=d' z;simp_all
theorem wT (k e s q:Int) (b:z10) (w:World) (G:Qb.isNum e=true) (h3:k=3):
  Calls prog 89 #[.agg #[.int .i64 k,.int .i64 e,.int .i64 s,.int .i64 q,.string b]] w λr w'=>r=.returned (.bool (Qb.proper k e s q b))/\Below w.heap.size w w':=by
 subst h3;have z:Hid (Qb.proper 3 e s q b=(Qb.isStr s&& (decide (q≠0) && (Qb.isNum q&&decide (b.size<=20))))):=by show _= _;simp[Qb.proper,G]
 cases hs:Qb.isStr s;all_goals
  cases H:Qb.isNum q;all_goals
   go_enter func89,ntmps89;go_wp2_with (first|(go_at_call 138;refine(BY _ _).mono ?_;rintro r w' ⟨rfl,rfl⟩)|(go_at_call 71;refine(CD _ _).mono ?_;rintro r w' ⟨rfl,rfl⟩));all_goals
    go_ret;refine⟨BR ?_,(z11 _ _).alloc (z16 _) _⟩;have z:=d' z;have hd:decide ((b.size:Int)<=20)=decide (b.size<=20):=by rw[rX];omega
    have F:(q !=0)=decide (q≠0):=(by by_cases h:q=0 <;> simp[h]);try simp only[hd,F]
    clear hd F;simp_all
theorem wU (k e s q:Int) (b:z10) (w:World) (F:Qb.isNum e=true) (h4:k=4):
  Calls prog 89 #[.agg #[.int .i64 k,.int .i64 e,.int .i64 s,.int .i64 q,.string b]] w λr w'=>r=.returned (.bool (Qb.proper k e s q b))/\Below w.heap.size w w':=by
 subst h4;have z:Hid (Qb.proper 4 e s q b=(Qb.isStr s&& (Qb.isNum q&&Qb.Jn b))):=by show _= _;simp[Qb.proper,F]
 cases hs:Qb.isStr s;all_goals
  cases G:Qb.isNum q;all_goals
   go_enter func89,ntmps89;go_wp2_with (first|(go_at_call 138;refine(BY _ _).mono ?_;rintro r w' ⟨rfl,rfl⟩)|(go_at_call 71;refine(CD _ _).mono ?_;rintro r w' ⟨rfl,rfl⟩)|(go_at_call 140;refine(eI _ _).mono ?_;rintro r w' ⟨rfl,rfl⟩));all_goals
    go_ret;refine⟨BR ?_,(z11 _ _).alloc (z16 _) _⟩;have z:=d' z;simp_all
theorem NC (k e s q:Int) (b:z10) (w:World):
  Calls prog 89 #[.agg #[.int .i64 k,.int .i64 e,.int .i64 s,.int .i64 q,.string b]] w λr w'=>r=.returned (.bool (Qb.proper k e s q b))/\Below w.heap.size w w':=by
 cases z:Qb.isNum e
 .go_enter func89,ntmps89;go_wp2_with (go_at_call 138;refine(BY _ _).mono ?_;rintro r w' ⟨rfl,rfl⟩);go_ret;exact⟨BR (by simp[Qb.proper,z]),(z11 _ _).alloc (z16 _) _⟩
 by_cases F:k=1\/k=5;exact wR k e s q b w z F;by_cases h2:k=2;exact wS k e s q b w z h2;by_cases h3:k=3;exact wT k e s q b w z h3;by_cases h4:k=4;exact wU k e s q b w z h4;have G:Hid (Qb.proper k e s q b=false):=by show _= _;simp[Qb.proper,F,h2,h3,h4]
 have H:(k==1)=false:=by simp;omega
 have b2:(k==2)=false:=by simp;omega
 have I:(k==3)=false:=by simp;omega
 have J:(k==4)=false:=by simp;omega
 have M:(k==5)=false:=by simp;omega
 clear F h2 h3 h4;go_enter func89,ntmps89;go_wp2_with (go_at_call 138;refine(BY _ _).mono ?_;rintro r w' ⟨rfl,rfl⟩);go_ret;exact⟨BR (d' G).symm,(z11 _ _).alloc (z16 _) _⟩
open Qb (whole)
theorem eL (z:Option Addr) (len cap:Nat) (w:World) (h:(len:Int) < 15):
  Calls prog 108 #[.slice z len cap] w λr w'=>r=.returned (.bool false)/\w'=w:=by
 go_enter func108,ntmps108;go_wp2;go_ret;exact⟨rfl,rfl⟩
theorem zZ (F:r.length=w+4) (z:(r.getD 10 0).toNat=a) (h:¬w+4=15+a):whole r=false:=by
 unfold whole;rw[z,z53 (p:=r.length=15+a) (by omega)];simp
theorem wV (F:r.length=w+4) (_:11<=w) (z:(r.getD 10 0).toNat=a) (h:w+4=15+a):
  whole r=(Vv (r.getD w 0) (r.getD (w+1) 0) (r.getD (w+2) 0) (r.getD (w+3) 0) ==Qb.sum (r.take w)):=by
 unfold whole;have e:r.length - 4=w:=by omega
 rw[z,e,z49 (p:=15<=r.length) (by omega),z49 (p:=r.length=15+a) (by omega),Io,Io];by_cases hs:Qh r w=Qb.sum (r.take w);rw[z49 hs];exact(zP.2 hs).symm;rw[z53 hs];exact(beq_eq_false_iff_ne.2 hs).symm
theorem QO (b off m cap:Nat) (l:List UInt8) (w:World) (F:l.length=m+4) (I:m+4<=maxLen) (aa:m+4<=cap) (J:11<=m)
  (z:∀i,i < m+4->w.cell? ⟨b,off+i,none⟩=some (.int .u8 (l.getD i 0).toNat)):
  Calls prog 108 #[.slice (some ⟨b,off,none⟩) (m+4) cap] w λr w'=>r=.returned (.bool (whole l))/\∃n,w'=w.drewN n:=by
 have M:=z 10 (by omega);have Q:=(l.getD 10 0).toNat_lt;have V:=I;unfold maxLen at I;generalize G:(l.getD 10 0).toNat=g at M Q;have h1:(15:Int)<=(m:Int)+4:=by omega
 by_cases h:m+4=15+g
 .have h2:((m:Int)+4!=11+(g:Int)+4)=false:=by simp;omega
  have H:=y' (wV F J G h);have Y:=λn=>y' (JJ b (off+m) 4 (cap - m) (l.getD m 0) (l.getD (m+1) 0) (l.getD (m+2) 0) (l.getD (m+3) 0) (w.drewN n) (z16 _)
   (mL n (z m (by omega))) (mL n (z (m+1) (by omega))) (mL n (z (m+2) (by omega))) (mL n (z (m+3) (by omega))))
  have Z:=λn=>y' (gR b off m cap (l.take m) (w.drewN n) (by simp;omega) (by omega) (λi hi=>by rw[mL n (z i (by omega)),z15,z15,z73,if_pos hi]));clear h G z F V;generalize l.take m=lt at *;go_enter func108,ntmps108;go_wp2_with fail;go_quiet (first|(go_at_call 109;exact Fo (d' (Y _)))|(go_at_call 104;exact z58 (d' (Z _))));go_wp2;go_ret;exact⟨BR (d' H).symm,_,rfl⟩
 have h2:((m:Int)+4!=11+(g:Int)+4)=true:=by simp;omega
 have H:=y' (zZ F G h);clear h G z F;go_enter func108,ntmps108;go_wp2_with fail;go_ret;exact⟨BR (d' H).symm,0,rfl⟩
structure Xe (w:World) (b:Nat) (k e s q:Int) (body:z10):Prop where
 c0:w.cell? ⟨b,0,none⟩=some (.int .i64 k)
 c1:w.cell? ⟨b,1,none⟩=some (.int .i64 e)
 c2:w.cell? ⟨b,2,none⟩=some (.int .i64 s)
 c3:w.cell? ⟨b,3,none⟩=some (.int .i64 q)
 c4:w.cell? ⟨b,4,none⟩=some (.string body)
theorem CU (w:World) (k e s q:Int) (body:z10) (t:TypeId):Xe (w.alloc (.cells #[.int .i64 k,.int .i64 e,.int .i64 s,.int .i64 q,.string body] t)) w.heap.size k e s q body:=by
 constructor <;> simp
theorem Xe.below {w w':World} {b C:Nat} {k e s q:Int} {body:z10} (h:Xe w b k e s q body) (hb:Below C w w') (z:b < C):Xe w' b k e s q body:=
 ⟨(hb.cell (p:=⟨b,0,none⟩) z).trans h.c0,(hb.cell (p:=⟨b,1,none⟩) z).trans h.c1,(hb.cell (p:=⟨b,2,none⟩) z).trans h.c2,(hb.cell (p:=⟨b,3,none⟩) z).trans h.c3,(hb.cell (p:=⟨b,4,none⟩) z).trans h.c4⟩
theorem wW (k e s q:Int) (b:z10) (w:World) (F:Qb.proper k e s q b=false):
  Calls prog 54 #[.agg #[.int .i64 k,.int .i64 e,.int .i64 s,.int .i64 q,.string b]] w λr w'=>r=.returned (.tuple #[.slice none 0 0,.int .i64 1])/\Below w.heap.size w w':=by
 go_enter func54,ntmps54;go_wp2_with (go_at_call 89;refine(NC _ _ _ _ _ _).mono ?_;rintro r w1 ⟨rfl,z⟩);rename_i z;go_ret2;exact⟨rfl,((z11 _ _).alloc (z16 _) _).trans (z.mono (by simp))⟩
theorem LP (G:Xe f w o V aF aH z) (H:Below w p f) (I:Qw a f y r) (hb:w < a) (J:a<=f.heap.size)
  (F:f.grownBy B y.ownBlock):Xe B w o V aF aH z/\Below w p B/\a<=B.heap.size:=by
 have h1:Below a f B:=AB F J (λg F=>(I.lt g F).1);exact⟨G.below h1 hb,H.trans (h1.mono (by omega)),by have:=h1.size;omega⟩
theorem Aa (k e s q:Int) (b:z10):
  ([]++[UInt8.ofNat (k.toNat % 256)]++le4 e++[UInt8.ofNat (s.toNat % 256)]++le4 q++[UInt8.ofNat ((b.size:Int).toNat % 256)]++b.data.toList)=Qb.front k e s q b.data.toList:=by
 simp[Qb.front]
theorem LQ (k e s q:Int) (b:z10) (w:World) (bm:0<=k/\k < 256) (bn:0<=e/\e < 4294967296) (hs:0<=s/\s < 256) (bo:0<=q/\q < 4294967296) (hb:b.size < 256):
  Calls prog 67 #[.agg #[.int .i64 k,.int .i64 e,.int .i64 s,.int .i64 q,.string b]] w λr w'=>
   ∃v,r=.returned v/\Qw (w.heap.size+1) w' v (Qb.bytes k e s q b.data.toList)/\Below w.heap.size w w':=by
 go_enter func67,ntmps67;go_upto_region 1 with fail;have M:=CU w k e s q b 63;have ao:=(z11 w.heap.size w).alloc (z16 _) (.cells #[.int .i64 k,.int .i64 e,.int .i64 s,.int .i64 q,.string b] 63);have aS:w.heap.size+1<=(w.alloc (.cells #[.int .i64 k,.int .i64 e,.int .i64 s,.int .i64 q,.string b] 63)).heap.size:=by simp
 generalize w.alloc (.cells #[.int .i64 k,.int .i64 e,.int .i64 s,.int .i64 q,.string b] 63)=w1 at *;obtain⟨z,F,G,H,I⟩:=id M;go_upto_region 2 with (at_make;refine eH rfl _ _ rfl (w.heap.size+1) _ _ _ (15+b.size) rfl rfl (by omega) (by omega) (by omega) ?_;intro aT aq au);have b2:=AB (B:=w.heap.size+1) au (by omega) (by simp);have av:w.heap.size+1<=aT.heap.size:=by have:=b2.size;omega
 have Q:=M.below b2 (by omega);have ax:=ao.trans (b2.mono (by omega));have V:=y' aq;clear au b2 M ao z F G H I aS aq;obtain⟨z,F,G,H,I⟩:=id Q;go_upto_region 3 with (at_builtin;refine NB rfl _ _ rfl (w.heap.size+1) _ [] k (d' V) rfl rfl (by omega) (by omega) (by simp) (by omega) ?_;intro v3 aU ay az);obtain⟨Y,aA,z3⟩:=LP Q ax (d' V) (by omega) av az;have Z:=y' ay;clear ay az Q ax V av z F G H I;obtain⟨z,F,G,H,I⟩:=id Y;go_upto_region 4 with (go_at_call 103;refine(BH (w.heap.size+1) e v3 _ aU (by simp) (by omega) (by omega) (d' Z)).mono ?_;rintro r bp ⟨v4,rfl,aB,aC⟩);obtain⟨aa,aD,z4⟩:=LP Y aA (d' Z) (by omega) z3 aC;have ab:=y' aB;clear aB aC Y aA Z z3 z F G H I;obtain⟨z,F,G,H,I⟩:=id aa;go_upto_region 5 with (at_builtin;refine NB rfl _ _ rfl (w.heap.size+1) _ _ s (d' ab) rfl rfl (by omega) (by omega) (by simp[Qz]) (by omega) ?_;intro v5 aV aE aF);obtain⟨ac,aG,z5⟩:=LP aa aD (d' ab) (by omega) z4 aF;have ad:=y' aE;clear aE aF aa aD ab z4 z F G H I;obtain⟨z,F,G,H,I⟩:=id ac;go_upto_region 6 with (go_at_call 103;refine(BH (w.heap.size+1) q v5 _ aV (by simp[Qz]) (by omega) (by omega) (d' ad)).mono ?_;rintro r bq ⟨v6,rfl,aH,aI⟩);obtain⟨ah,aJ,aK⟩:=LP ac aG (d' ad) (by omega) z5 aI;have ai:=y' aH;clear aH aI ac aG ad z5 z F G H I;obtain⟨z,F,G,H,I⟩:=id ah;go_upto_region 7 with (at_builtin;refine NB rfl _ _ rfl (w.heap.size+1) _ _ (b.size:Int) (d' ai) rfl rfl (by omega) (by omega) (by simp[Qz]) (by omega) ?_;intro br bt aL aM);obtain⟨aj,aN,aO⟩:=LP ah aJ (d' ai) (by omega) aK aM;have ak:=y' aL;clear aL aM ah aJ ai aK z F G H I;obtain⟨z,F,G,H,I⟩:=id aj;go_upto_region 8 with (at_builtin;refine sB rfl _ _ rfl (w.heap.size+1) _ _ (d' ak) rfl b rfl (by simp[Qz];omega) (by omega) ?_;intro v8 aW J aP);obtain⟨aX,aY,aZ⟩:=LP aj aN (d' ak) (by omega) aO aP;rw[Aa]at J;clear aP aj aN ak aO z F G H I aX;have ba:(Qb.front k e s q b.data.toList).length=11+b.size:=by simp[Qb.front,Qz];omega
 obtain⟨g,cap,rfl,bu,bw,bz,bA,aQ⟩:=J.addr (by omega);have aR:=y' J;have bb:=y' aQ;clear J aQ;have bc:(Qb.front k e s q b.data.toList).length<=1000:=by omega
 have bd:Hid (Qb.bytes k e s q b.data.toList=Qb.front k e s q b.data.toList++le4 (Qb.sum (Qb.front k e s q b.data.toList))):=rfl;have be:=Yt (Qb.front k e s q b.data.toList);clear ba;generalize Qb.front k e s q b.data.toList=fr at *;go_wp2_with (first
  |(go_at_call 104;refine(gR g 0 fr.length cap fr aW rfl (by unfold maxLen;omega) (d' bb)).mono ?_;rintro r bf ⟨rfl,rfl⟩)
  |(go_at_call 103;refine(BH (w.heap.size+1) _ _ fr _ bc (by omega) be.1 (d' aR)).mono ?_;rintro r bg ⟨bh,rfl,bi,bj⟩))
 have bk:Below (w.heap.size+1) bf bg:=AB bj aZ (λg bl=>((d' aR).lt g bl).1);go_ret;exact⟨bh,rfl,by rw[d' bd];exact bi,aY.trans (bk.mono (by omega))⟩
theorem BZ {k e s q:Int} (h:Qb.proper k e s q z=true):
  (1<=k/\k<=5)/\(0<=e/\e<=2147483647)/\(0<=s/\s < 3)/\(0<=q/\q<=2147483647)/\z.size<=20:=by
 unfold Qb.proper at h;rw[z56]at h;obtain⟨F,h⟩:=h;have G:0<=e/\e<=2147483647:=by simpa[Qb.isNum]using F
 split at h;simp only[Bool.and_eq_true,decide_eq_true_eq]at h;omega;split at h;simp only[Xi,Bool.and_eq_true,decide_eq_true_eq]at h;omega;split at h;simp[Qb.isStr,Qb.isNum]at h;omega;split at h;simp[Qb.isStr,Qb.isNum,Qb.Jn]at h;omega;cases h
theorem JY (k e s q:Int) (b:z10) (w:World) (z:Qb.proper k e s q b=true):
  Calls prog 67 #[.agg #[.int .i64 k,.int .i64 e,.int .i64 s,.int .i64 q,.string b]] w λr w'=>
   ∃v,r=.returned v/\Qw (w.heap.size+1) w' v (Qb.bytes k e s q b.data.toList)/\Below w.heap.size w w':=by
 obtain⟨h1,h2,h3,h4,h5⟩:=BZ z;exact LQ k e s q b w (by omega) (by omega) (by omega) (by omega) (by omega)
theorem mP (k e s q:Int) (b:z10) (w:World) (F:Qb.proper k e s q b=true):
  Calls prog 54 #[.agg #[.int .i64 k,.int .i64 e,.int .i64 s,.int .i64 q,.string b]] w λr w'=>
   ∃v,r=.returned (.tuple #[v,.int .i64 0])/\Qw (w.heap.size+1) w' v (Qb.bytes k e s q b.data.toList)/\Below w.heap.size w w':=by
 have G:=λw'=>y' (JY k e s q b w' F);go_enter func54,ntmps54;go_upto_region 3 with (go_at_call 89;refine(NC _ _ _ _ _ _).mono ?_;rintro r w1 ⟨rfl,z⟩);have H:=(CU w k e s q b 63).below z (by simp);have I:=z.size;have J:=((z11 w.heap.size w).alloc (z16 _) (.cells #[.int .i64 k,.int .i64 e,.int .i64 s,.int .i64 q,.string b] 63)).trans (z.mono (by simp));clear z;simp only[World.size_alloc]at I;obtain⟨V,Y,Z,aa,ab⟩:=id H;go_wp2_with (go_at_call 67;refine(d' (G _)).mono ?_;rintro r ac ⟨v,rfl,M,Q⟩);go_ret2;exact⟨v,rfl,M.mono (by omega),J.trans (Q.mono (by omega))⟩
namespace Qb
theorem le4_num4 (a b c d:UInt8):le4 (Vv a b c d)=[a,b,c,d]:=by
 have I:=a.toNat_lt;have hb:=b.toNat_lt;have J:=c.toNat_lt;have hd:=d.toNat_lt;have e:(Vv a b c d).toNat=a.toNat+b.toNat * 256+c.toNat * 65536+d.toNat * 16777216:=by unfold Vv;omega
 unfold le4;rw[e];have z:(a.toNat+b.toNat * 256+c.toNat * 65536+d.toNat * 16777216) % 256=a.toNat:=by omega
 have F:(a.toNat+b.toNat * 256+c.toNat * 65536+d.toNat * 16777216) / 256 % 256=b.toNat:=by omega
 have G:(a.toNat+b.toNat * 256+c.toNat * 65536+d.toNat * 16777216) / 65536 % 256=c.toNat:=by omega
 have H:(a.toNat+b.toNat * 256+c.toNat * 65536+d.toNat * 16777216) / 16777216 % 256=d.toNat:=by omega
 rw[z,F,G,H];simp
theorem num4_le4 {n:Int} (h0:0<=n) (h1:n < 4294967296):
  Vv (UInt8.ofNat (n.toNat % 256)) (UInt8.ofNat (n.toNat / 256 % 256)) (UInt8.ofNat (n.toNat / 65536 % 256)) (UInt8.ofNat (n.toNat / 16777216 % 256))=n:=by
 unfold Vv;simp;omega
theorem eleven {l:List UInt8} (h:11<=l.length):∃c0 c1 c2 c3 c4 c5 z F G H I r,l=c0::c1::c2::c3::c4::c5::z::F::G::H::I::r:=by
 match l,h with
 |c0::c1::c2::c3::c4::c5::z::F::G::H::I::r,_=>exact⟨_,_,_,_,_,_,_,_,_,_,_,_,rfl⟩
theorem last_four (h:r.length=w+4):r=r.take w++[r.getD w 0,r.getD (w+1) 0,r.getD (w+2) 0,r.getD (w+3) 0]:=by
 apply z93;intro i;by_cases hi:i < w;rw[z44 (by simp;omega),z73,if_pos hi];rw[z27 (by simp;omega)];have hl:(r.take w).length=w:=by simp;omega
 rw[hl];by_cases h4:i < w+4;have:i=w\/i=w+1\/i=w+2\/i=w+3:=by omega
 have g:∀j,j < r.length->r[j]? =some (r.getD j 0):=by intro j hj;simp[List.getD_eq_getElem?_getD,hj]
 rw[g i (by omega)];rcases this with rfl|rfl|rfl|rfl <;> simp;rw[z76 (by omega),z76 (by simp;omega)]
theorem numAt_cons11 (c0 c1 c2 c3 c4 c5 z F G H I:UInt8) (r:List UInt8) (n:Nat):
  Qh (c0::c1::c2::c3::c4::c5::z::F::G::H::I::r) (n+11)=Vv (r.getD n 0) (r.getD (n+1) 0) (r.getD (n+2) 0) (r.getD (n+3) 0):=by
 simp[Qh,List.getD_eq_getElem?_getD]
theorem whole_bytes (h:whole r=true):bytes (Jk r) (Jf r) (Qs r) (Xh r) (Jp r).data.toList=r:=by
 unfold whole at h;simp only[Bool.and_eq_true,decide_eq_true_eq]at h;obtain⟨Q,hl,hs⟩:=h;obtain⟨c0,c1,c2,c3,c4,c5,G,H,I,J,F,z,rfl⟩:=eleven (l:=r) (by omega);simp only[List.length_cons,List.getD_cons_succ,List.getD_cons_zero]at hl Q;generalize hn:F.toNat=n at hl;have V:z.length=n+4:=by omega
 have M:(c0::c1::c2::c3::c4::c5::G::H::I::J::F::z).length - 4=n+11:=by simp;omega
 rw[M,numAt_cons11]at hs;have hb:(Jp (c0::c1::c2::c3::c4::c5::G::H::I::J::F::z)).data.toList=z.take n:=by unfold Jp;rw[M];simp
 have Y:front (Jk (c0::c1::c2::c3::c4::c5::G::H::I::J::F::z)) (Jf (c0::c1::c2::c3::c4::c5::G::H::I::J::F::z))
   (Qs (c0::c1::c2::c3::c4::c5::G::H::I::J::F::z)) (Xh (c0::c1::c2::c3::c4::c5::G::H::I::J::F::z)) (z.take n)
   =c0::c1::c2::c3::c4::c5::G::H::I::J::F::z.take n:=by
  have Z:Jf (c0::c1::c2::c3::c4::c5::G::H::I::J::F::z)=Vv c1 c2 c3 c4:=rfl;have aa:Xh (c0::c1::c2::c3::c4::c5::G::H::I::J::F::z)=Vv G H I J:=rfl;have ab:Jk (c0::c1::c2::c3::c4::c5::G::H::I::J::F::z)=c0.toNat:=rfl;have ac:Qs (c0::c1::c2::c3::c4::c5::G::H::I::J::F::z)=c5.toNat:=rfl;have ad:(z.take n).length=n:=by simp;omega
  have a0:=c0.toNat_lt;have a5:=c5.toNat_lt;have ai:=F.toNat_lt;unfold front;rw[Z,aa,ab,ac,ad,le4_num4,le4_num4,<-hn];simp
 unfold bytes;rw[hb,Y];have ah:(c0::c1::c2::c3::c4::c5::G::H::I::J::F::z).take (n+11)=c0::c1::c2::c3::c4::c5::G::H::I::J::F::z.take n:=by simp
 rw[ah]at hs;rw[<-hs,le4_num4];have:=last_four V;simp only[List.cons_append];rw[<-this]
theorem Yc (k e s q:Int) (b:List UInt8):(front k e s q b).length=11+b.length:=by
 simp[front,Qz];omega
theorem Zu (k e s q:Int) (b:List UInt8):(bytes k e s q b).length=15+b.length:=by
 simp[bytes,Yc,Qz];omega
theorem at10_bytes (k e s q:Int) (b:List UInt8) (hb:b.length < 256):((bytes k e s q b).getD 10 0).toNat=b.length:=by
 simp[bytes,front,le4];omega
theorem parts_bytes {k e s q:Int} {b:z10} (M:0<=k/\k < 256) (z:0<=e/\e < 4294967296) (hs:0<=s/\s < 256) (F:0<=q/\q < 4294967296) (hb:b.size < 256):
  whole (bytes k e s q b.data.toList)=true/\Jk (bytes k e s q b.data.toList)=k/\Jf (bytes k e s q b.data.toList)=e/\Qs (bytes k e s q b.data.toList)=s/\
   Xh (bytes k e s q b.data.toList)=q/\Jp (bytes k e s q b.data.toList)=b:=by
 have Q:b.data.toList.length=b.size:=by simp
 have hl:=Zu k e s q b.data.toList;have V:=Yc k e s q b.data.toList;have G:(bytes k e s q b.data.toList).take ((bytes k e s q b.data.toList).length - 4)=front k e s q b.data.toList:=by rw[hl];unfold bytes;rw[z81 (by omega),z48 (by omega)]
 have H:=Yt (front k e s q b.data.toList);refine⟨?_,?_,?_,?_,?_,?_⟩;unfold whole;have I:Qh (bytes k e s q b.data.toList) ((bytes k e s q b.data.toList).length - 4)=sum (front k e s q b.data.toList):=by
  have J:(bytes k e s q b.data.toList).length - 4=(front k e s q b.data.toList).length:=by omega
  rw[J];unfold Qh bytes;generalize front k e s q b.data.toList=f at *;have g:∀i,(f++le4 (sum f)).getD (f.length+i) 0=(le4 (sum f)).getD i 0:=by intro i;rw[z15,z15,z27 (by omega)];congr 2;omega
  have g0:=g 0;rw[zQ]at g0;rw[g0,g 1,g 2,g 3];exact num4_le4 H.1 H.2
 rw[G,I,at10_bytes k e s q _ (by omega)];simp[hl];simp[Jk,bytes,front];omega;have:=num4_le4 z.1 z.2;simpa[Jf,Qh,bytes,front,le4]using this;simp[Qs,bytes,front,le4];omega;have:=num4_le4 F.1 F.2;simpa[Xh,Qh,bytes,front,le4]using this;unfold Jp;rw[G];apply wL;simp[front,le4]
end Qb
open Qb (whole)
def CR:Value:=.agg #[.int .i64 0,.int .i64 0,.int .i64 0,.int .i64 0,.string ⟨#[]⟩]
theorem DY (h:Below w p f) (a b c d e:Value):
  Below w p (((((f.setCell ⟨w,0,none⟩ a).setCell ⟨w,1,none⟩ b).setCell ⟨w,2,none⟩ c).setCell ⟨w,3,none⟩ d).setCell ⟨w,4,none⟩ e):=
 ((((h.setCell (p:=⟨w,0,none⟩) (z16 _) a).setCell (p:=⟨w,1,none⟩) (z16 _) b).setCell (p:=⟨w,2,none⟩) (z16 _) c).setCell (p:=⟨w,3,none⟩) (z16 _) d).setCell (p:=⟨w,4,none⟩) (z16 _) e
theorem jN (z:Option Addr) (len cap:Nat) (w:World) (h:(len:Int) < 15):
  Calls prog 69 #[.slice z len cap] w λr w'=>r=.returned (.tuple #[CR,.int .i64 1])/\Below w.heap.size w w':=by
 go_enter func69,ntmps69;go_wp2_with (go_at_call 108;refine(eL _ _ _ _ h).mono ?_;rintro r w1 ⟨rfl,rfl⟩);refine z47 (v:=.tuple #[CR,.int .i64 1]) (by simp[results,results69,go_sem,CR]) rfl ⟨rfl,?_⟩;exact(z11 _ _).alloc (z16 _) _
theorem sE (b off m cap:Nat) (l:List UInt8) (w:World) (G:l.length=m+4) (H:m+4<=maxLen) (I:m+4<=cap) (J:11<=m) (M:whole l=false)
  (z:∀i,i < m+4->w.cell? ⟨b,off+i,none⟩=some (.int .u8 (l.getD i 0).toNat)):
  Calls prog 69 #[.slice (some ⟨b,off,none⟩) (m+4) cap] w λr w'=>r=.returned (.tuple #[CR,.int .i64 1])/\Below w.heap.size w w':=by
 have F:=λo=>y' (QO b off m cap l (w.alloc o) G H I J (λi hi=>by have:=z i hi;rw[<-this];exact z85 _ _ _ (z69 _ _ this)));rw[M]at F;clear z;go_enter func69,ntmps69;go_wp2_with (go_at_call 108;refine(d' (F _)).mono ?_;rintro r w1 ⟨rfl,n1,rfl⟩);refine z47 (v:=.tuple #[CR,.int .i64 1]) (by simp[results,results69,go_sem,CR]) rfl ⟨rfl,?_⟩;exact DY (z36 ((z11 _ _).alloc (z16 _) _) _) _ _ _ _ _
def LR (l:List UInt8):Value:=.agg #[.int .i64 (Jk l),.int .i64 (Jf l),.int .i64 (Qs l),.int .i64 (Xh l),.string (Jp l)]
theorem QP (l:List UInt8):0<=Jk l/\Jk l < 256:=by
 have:=(l.getD 0 0).toNat_lt;unfold Jk;omega
theorem ND (l:List UInt8):0<=Qs l/\Qs l < 256:=by
 have:=(l.getD 5 0).toNat_lt;unfold Qs;omega
theorem GQ (h:0<=o/\o < 4294967296):IntKind.i64.wrap o=o:=by rw[z28];omega
theorem mQ (b off k cap:Nat) (w:World) (z G F H:Int) (I:z10) (aM:k+15<=9223372036854775807) (aN:k+15<=cap)
  (ak:0<=z/\z < 4294967296) (ao:0<=G/\G < 4294967296) (aq:0<=F/\F < 4294967296) (au:0<=H/\H < 4294967296) (p:Bool) (Z:Qb.proper z G F H I=p)
  (aa:∀o,Hid (Calls prog 108 #[.slice (some ⟨b,off,none⟩) (k+15) cap] (w.alloc o) λr w'=>r=.returned (.bool true)/\∃n,w'=(w.alloc o).drewN n))
  (ab:Hid (∀w',Below w.heap.size w w'->Below w.heap.size w w'/\w'.cell? ⟨b,off,none⟩=some (.int .u8 z)/\w'.cell? ⟨b,off+5,none⟩=some (.int .u8 F)/\
   (convert 48 9 (.slice (some ⟨b,off+11,none⟩) k (cap - 11))).run prog w'=.ok (.string I) w'))
  (ac:Hid (∀w',Below w.heap.size w w'->Calls prog 109 #[.slice (some ⟨b,off+1,none⟩) (k+14) (cap - 1)] w' λe V=>e=.returned (.int .u32 G)/\∃n,V=w'.drewN n))
  (ad:Hid (∀w',Below w.heap.size w w'->Calls prog 109 #[.slice (some ⟨b,off+6,none⟩) (k+9) (cap - 6)] w' λe V=>e=.returned (.int .u32 H)/\∃n,V=w'.drewN n)):
  Calls prog 69 #[.slice (some ⟨b,off,none⟩) (k+15) cap] w λr w'=>
   r=.returned (if p=true then .tuple #[.agg #[.int .i64 z,.int .i64 G,.int .i64 F,.int .i64 H,.string I],.int .i64 0]else .tuple #[CR,.int .i64 1])/\Below w.heap.size w w':=by
 have Y:=λw'=>y' (NC z G F H I w');rw[Z]at Y;clear Z;have i0:(0:Int) < (k:Int)+15:=by omega
 have i5:(5:Int) < (k:Int)+15:=by omega
 have s1:(1:Int)<=(k:Int)+15:=by omega
 have av:(6:Int)<=(k:Int)+15:=by omega
 have ax:(11:Int)<=(k:Int)+11:=by omega
 have ay:(k:Int)+11<=(cap:Int):=by omega
 have az:(4:Int)<=(k:Int)+15:=by omega
 have aA:(k:Int)+15 - 4<=(cap:Int):=by omega
 have t1:((k:Int)+11).toNat - 11=k:=by omega
 have t2:((k:Int)+15 - 4).toNat - 11=k:=by omega
 have t3:(11:Int)<=max ((k:Int)+15 - 4) 0:=by omega
 have g1:IntKind.i64.wrap ((k:Int)+15 - 4)=(k:Int)+11:=by rw[z28];omega
 have g2:IntKind.i64.wrap (((k+15:Nat):Int) - 4)=(k:Int)+11:=by rw[z28];omega
 have ah:True:=trivial;have k1:¬cap=1:=by omega
 have k6:¬cap=6:=by omega
 have k11:¬cap=11:=by omega
 have aB:=GQ ak;have aC:=GQ ao;have aD:=GQ aq;have aE:=GQ au;go_enter func69,ntmps69;go_upto_region 3 with (go_at_call 108;refine(d' (aa _)).mono ?_;rintro r w1 ⟨rfl,n1,rfl⟩);go_region_held3 (λw'=>Below w.heap.size w w'/\w'.cell? ⟨b,off,none⟩=some (.int .u8 z)/\w'.cell? ⟨b,off+5,none⟩=some (.int .u8 F)/\
  (convert 48 9 (.slice (some ⟨b,off+11,none⟩) k (cap - 11))).run prog w'=.ok (.string I) w')
  ((refine d' ab _ ?_;repeat (first|with_reducible exact z11 _ _|with_reducible refine z36 ?_ _|with_reducible refine Below.drew ?_|with_reducible refine Below.alloc ?_ (by simp) _|with_reducible refine Below.setCell ?_ (by simp) _)))
  (first
   |(go_at_call 109;have _:=ah;refine(d' ac _ ?_).mono ?_;(focus (repeat (first|with_reducible exact z11 _ _|with_reducible refine z36 ?_ _|with_reducible refine Below.drew ?_|with_reducible refine Below.alloc ?_ (by simp) _|with_reducible refine Below.setCell ?_ (by simp) _)));clear ah;rintro r w1 ⟨rfl,n2,rfl⟩)
   |(go_at_call 109;refine(d' ad _ ?_).mono ?_;(focus (repeat (first|with_reducible exact z11 _ _|with_reducible refine z36 ?_ _|with_reducible refine Below.drew ?_|with_reducible refine Below.alloc ?_ (by simp) _|with_reducible refine Below.setCell ?_ (by simp) _)));rintro r w1 ⟨rfl,n2,rfl⟩))
 all_goals
  clear ab ac ad aa i0 i5 s1 av ax ay az aA t1 t2 t3 g1 g2 k1 k6 k11 aB aC aD aE;rename Below _ _ _/\ _=>hH;have M:=hH.1;clear hH
 all_goals
  go_upto_region 4 with fail
  refine G' (λX=>Xe X w.heap.size 0 0 0 0 ⟨#[]⟩/\Xe X (w.heap.size+1) z G F H I/\(∀i,X.frozen? ⟨w.heap.size,i,none⟩=false)/\Below w.heap.size w X/\w.heap.size+2<=X.heap.size) ⟨by constructor <;> go_simp,by constructor <;> go_simp,by intro i;go_simp,M,by simp⟩ ?_;clear M;rintro X ⟨z0,f0,ai,M,aF⟩
 all_goals
  obtain⟨aG,aH,aI,aJ,aK⟩:=id f0;cases p;all_goals
   go_upto_if 34 with (go_at_call 89;refine(d' (Y _)).mono ?_;rintro r aL ⟨rfl,Q⟩)
   obtain⟨aO,aP,aQ,aR,aS⟩:=z0.below Q (by omega);obtain⟨f30,f31,f32,f33,f34⟩:=f0.below Q (by omega);have J:∀i,aL.frozen? ⟨w.heap.size,i,none⟩=false:=λi=>(Q.frozen (p:=⟨w.heap.size,i,none⟩) (by simp;omega)).trans (ai i);have aT:=J 0;have aU:=J 1;have aV:=J 2;have aW:=J 3;have aX:=J 4;have aj:=M.trans (Q.mono (by omega));clear J Q z0 f0 ai aG aH aI aJ aK Y M aF;go_wp2
  refine z47 (v:=.tuple #[CR,.int .i64 1]) (by simp[results,results69,go_sem,CR, *]) rfl ⟨rfl,?_⟩;exact DY aj _ _ _ _ _;refine z47 (v:=.tuple #[.agg #[.int .i64 z,.int .i64 G,.int .i64 F,.int .i64 H,.string I],.int .i64 0]) (by simp[results,results69,go_sem, *]) rfl ⟨rfl,?_⟩;exact DY aj _ _ _ _ _
open Qb (whole)
def Qk (w:World) (v:Value) (l:List UInt8):Prop:=
 ∃z cap,v=.slice z l.length cap/\l.length<=cap/\l.length<=9223372036854775807/\
  (0 < l.length->∃b off,z=some ⟨b,off,none⟩/\∀i,i < l.length->w.cell? ⟨b,off+i,none⟩=some (.int .u8 (l.getD i 0).toNat))
theorem Qw.at {B:Nat} {w:World} {v:Value} {l:List UInt8} (h:Qw B w v l):Qk w v l:=by
 by_cases h0:0 < l.length;obtain⟨g,cap,rfl,_,_,h1,h2,h3⟩:=h.addr h0;exact⟨_,cap,rfl,h1,by unfold maxLen at h2;omega,λ_=>⟨g,0,rfl,h3⟩⟩;obtain⟨z,cap,rfl,h1⟩:=h.shape;exact⟨z,cap,rfl,h1,by omega,λh=>absurd h h0⟩
theorem Qk.below {w w':World} {v:Value} {l:List UInt8} (h:Qk w v l) (hb:Below w.heap.size w w'):Qk w' v l:=by
 obtain⟨F,cap,rfl,h1,h2,h3⟩:=h;refine⟨F,cap,rfl,h1,h2,λh0=>?_⟩;obtain⟨b,off,rfl,z⟩:=h3 h0;exact⟨b,off,rfl,λi hi=>(hb.cell (p:=⟨b,off+i,none⟩) (z69 _ ⟨b,off+i,none⟩ (z i hi))).trans (z i hi)⟩
theorem GS (v:Value) (l:List UInt8) (w:World) (h:Qk w v l):
  Calls prog 69 #[v] w λr w'=>r=.returned (if Qb.reads l=true then .tuple #[LR l,.int .i64 0]else .tuple #[CR,.int .i64 1])/\Below w.heap.size w w':=by
 obtain⟨Q,cap,rfl,G,J,F⟩:=h;by_cases Z:l.length < 15;have:Qb.reads l=false:=by unfold Qb.reads whole;rw[z53 (by omega)];simp
 rw[this];exact jN Q l.length cap w (by omega);obtain⟨b,off,rfl,M⟩:=F (by omega);clear F;have F:=M;clear M;obtain⟨k,H⟩:∃k,l.length=k+15:=⟨l.length - 15,by omega⟩;rw[H]at G J F;rw[H];cases I:whole l;have:Qb.reads l=false:=by unfold Qb.reads;rw[I];simp
 rw[this];exact sE b off (k+11) cap l w H (by unfold maxLen;omega) G (by omega) I F;have V:Qb.reads l=Qb.proper (Jk l) (Jf l) (Qs l) (Xh l) (Jp l):=by unfold Qb.reads;rw[I];simp
 rw[V];have Y:b < w.heap.size:=z69 _ _ (F 0 (by omega));have z:∀w',Below w.heap.size w w'->∀i,i < k+15->w'.cell? ⟨b,off+i,none⟩=some (.int .u8 (l.getD i 0).toNat):=λw' h i hi=>(h.cell (p:=⟨b,off+i,none⟩) Y).trans (F i hi);have k1:=QP l;have k3:=ND l;refine mQ b off k cap w (Jk l) (Jf l) (Qs l) (Xh l) (Jp l) J G ⟨k1.1,by omega⟩ (Jq l 1) ⟨k3.1,by omega⟩ (Jq l 6) _ rfl ?_ ?_ ?_ ?_;intro o;have:=QO b off (k+11) cap l (w.alloc o) H (by unfold maxLen;omega) G (by omega) (λi hi=>by have:=F i hi;rw[<-this];exact z85 _ _ _ (z69 _ _ this));rw[I]at this;exact this;intro w' h;refine⟨h,z w' h 0 (by omega),z w' h 5 (by omega),JX (l:=(l.take (l.length - 4)).drop 11) (by simp;omega) (λi hi=>?_)⟩;rw[Fk,z w' h (11+i) (by omega)];simp only[List.getD_eq_getElem?_getD,List.getElem?_drop,List.getElem?_take];rw[if_pos (by omega)];intro w' h;exact JJ b (off+1) (k+14) (cap - 1) _ _ _ _ w' (by omega) (z w' h 1 (by omega)) (z w' h 2 (by omega)) (z w' h 3 (by omega)) (z w' h 4 (by omega));intro w' h;exact JJ b (off+6) (k+9) (cap - 6) _ _ _ _ w' (by omega) (z w' h 6 (by omega)) (z w' h 7 (by omega)) (z w' h 8 (by omega)) (z w' h 9 (by omega))
theorem PJ (k e s q:Int) (b:z10) (w:World) (z:Qb.proper k e s q b=true):
  Calls prog 26 #[.agg #[.int .i64 k,.int .i64 e,.int .i64 s,.int .i64 q,.string b]] w λr w'=>
   ∃v,r=.returned (.tuple #[v,.int .i64 0])/\Qw (w.heap.size+1) w' v (Qb.bytes k e s q b.data.toList)/\Below w.heap.size w w':=by
 have F:=λw'=>y' (mP k e s q b w' z);go_enter func26,ntmps26;go_wp2_with (go_at_call 54;refine(d' (F _)).mono ?_;rintro r w1 ⟨v,rfl,G,hb⟩);go_ret2;exact⟨v,rfl,G.mono (by simp),((z11 _ _).alloc (z16 _) _).trans (hb.mono (by simp))⟩
theorem QQ (k e s q:Int) (b:z10) (w:World) (z:Qb.proper k e s q b=false):
  Calls prog 26 #[.agg #[.int .i64 k,.int .i64 e,.int .i64 s,.int .i64 q,.string b]] w λr w'=>
   r=.returned (.tuple #[.slice none 0 0,.int .i64 1])/\Below w.heap.size w w':=by
 have F:=λw'=>y' (wW k e s q b w' z);go_enter func26,ntmps26;go_wp2_with (go_at_call 54;refine(d' (F _)).mono ?_;rintro r w1 ⟨rfl,hb⟩);go_ret2;exact⟨rfl,((z11 _ _).alloc (z16 _) _).trans (hb.mono (by simp))⟩
theorem PK (v:Value) (a b c d e:Int) (s:z10) (w:World)
  (F:∀o,Hid (Calls prog 69 #[v] (w.alloc o) λr w'=>r=.returned (.tuple #[.agg #[.int .i64 a,.int .i64 b,.int .i64 c,.int .i64 d,.string s],.int .i64 e])/\Below (w.alloc o).heap.size (w.alloc o) w')):
  Calls prog 64 #[v] w λr w'=>r=.returned (.tuple #[.agg #[.int .i64 a,.int .i64 b,.int .i64 c,.int .i64 d,.string s],.int .i64 e])/\Below w.heap.size w w':=by
 go_enter func64,ntmps64;go_upto_region 1 with fail;go_wp2_with (go_at_call 69;refine(d' (F _)).mono ?_;rintro r w1 ⟨rfl,hb⟩;obtain⟨z0,H,I,z3,z4⟩:=(CU w 0 0 0 0 ⟨#[]⟩ 63).below hb (by simp);have z:∀i,w1.frozen? ⟨w.heap.size,i,none⟩=false:=λi=>(hb.frozen (p:=⟨w.heap.size,i,none⟩) (by simp)).trans (by simp);have f0:=z 0;have f1:=z 1;have f2:=z 2;have f3:=z 3;have f4:=z 4;have G:=((z11 w.heap.size w).alloc (z16 _) (.cells #[.int .i64 0,.int .i64 0,.int .i64 0,.int .i64 0,.string ⟨#[]⟩] 63)).trans (hb.mono (by simp));clear z hb);refine z47 (v:=.tuple #[.agg #[.int .i64 a,.int .i64 b,.int .i64 c,.int .i64 d,.string s],.int .i64 e]) (by simp[results,results64,go_sem, *]) rfl ⟨rfl,?_⟩;exact DY G _ _ _ _ _
theorem PL (v:Value) (l:List UInt8) (w:World) (h:Qk w v l):
  Calls prog 64 #[v] w λr w'=>r=.returned (if Qb.reads l=true then .tuple #[LR l,.int .i64 0]else .tuple #[CR,.int .i64 1])/\Below w.heap.size w w':=by
 have z:=λo=>y' (GS v l (w.alloc o) (h.below ((z11 _ _).alloc (z16 _) _)));clear h;cases F:Qb.reads l;all_goals
  simp only[F,if_true,if_false,Bool.false_eq_true]at z ⊢;exact PK v _ _ _ _ _ _ w z
theorem QR {rest:List Oper} (F:J.guard=none) (l c:Operand)
  (H:J.op=Op.makeSlice 48 l c) (B:Nat) (kl z:IntKind) (L C:Int) (n:Nat) (hl:G.eval l=.int kl L) (I:G.eval c=.int z C) (M:L=(n:Int)) (Q:C=(n:Int)) (ab:n<=281474976710656) (V:B<=p.heap.size)
  (h:∀w',Qw B w' (.slice (some ⟨p.heap.size,0,none⟩) n n) (List.replicate n 0)->p.grownBy w' none->wpList prog aC aB rest (G.put J.dst (.slice (some ⟨p.heap.size,0,none⟩) n n)) w'):
  wpList prog aC aB (J::rest) G p:=by
 obtain⟨i0,hi,Y,Z,aa⟩:=jL UQ;refine wpList_make_full (P:=prog) p F l c 48 H B 5 i0 (.int .u8 0) 1 underlying48 hi Y Z kl z L C n hl I M Q (by rw[aa];omega) (by unfold maxLen;omega) V ?_;intro w' h1 h2;refine h w' ?_ h2;unfold Qw;have e:bv (List.replicate n 0)=(madeCells (Value.int .u8 0).cells (n * 1)).toList:=by show _=(madeCells #[Value.int .u8 0] (n * 1)).toList;rw[toList_madeCells_one,Iq];simp[bv]
 rw[e,z57];exact h1
theorem WZ (w:World) (s:z10) (hs:s.size<=140737488355328):
  ∃v w',(convert 9 48 (.string s)).run prog w=.ok v w'/\Qk w' v s.data.toList/\Below w.heap.size w w':=by
 refine⟨_,_,run_bytes_of_string w 9 48 5 s underlying9 underlying48 underlying5,?_,?_⟩;have hl:s.data.toList.length=s.size:=by simp
 refine⟨_,_,by rw[hl],by rw[hl];exact wM w s.size 0 5,by omega,λ_=>⟨w.heap.size,0,rfl,λi hi=>?_⟩⟩;rw[hl]at hi;generalize F:bytesRow s (grownCap w s.size 0 5)=C;have G:(w.drew.alloc (.cells C 5 (C.size,C.size+1))).cell? ⟨w.heap.size,0+i,none⟩=C[0+i]? :=by
  unfold World.cell?;have:(w.drew.alloc (.cells C 5 (C.size,C.size+1))).heap[w.heap.size]? =some (.cells C 5 (C.size,C.size+1)):=by show(w.heap.push _)[w.heap.size]? = _;simp
  rw[this];rfl
 rw[G,<-F,z45];have z:i < s.data.size:=hi;unfold bytesRow;rw[Array.getElem?_append_left (by simpa using z)];have H:s.data[i]? =some s.data[i]:=z75 z;simp[H];exact((z11 _ _).drew).alloc (z16 _) _
structure Far (E:Nat->Prop) (w x:World):Prop where
 os:x.os=w.os
 tape:x.tape=w.tape
 output:x.output=w.output
 size:w.heap.size<=x.heap.size
 rest:∀k,k < w.heap.size->¬E k->x.heap[k]? =w.heap[k]?
theorem Far.refl (E:Nat->Prop) (w:World):Far E w w:=⟨rfl,rfl,rfl,z16 _,λ_ _ _=>rfl⟩
theorem Far.trans {E E':Nat->Prop} {w x y:World} (h:Far E w x) (z:Far E' x y) (H:∀k,k < w.heap.size->E' k->E k):Far E w y:=
 ⟨z.os.trans h.os,z.tape.trans h.tape,z.output.trans h.output,z26 h.size z.size,λk F G=>(z.rest k (z21 F h.size) (λe=>G (H k F e))).trans (h.rest k F G)⟩
theorem Far.mono {E E':Nat->Prop} {w x:World} (h:Far E w x) (F:∀k,k < w.heap.size->E k->E' k):Far E' w x:=
 ⟨h.os,h.tape,h.output,h.size,λk z G=>h.rest k z (λe=>G (F k z e))⟩
theorem Far.below {E:Nat->Prop} {w x:World} (h:Far E w x) {B:Nat} (F:B<=w.heap.size) (G:∀k,k < B->¬E k):Below B w x:=
 ⟨h.os,h.tape,h.output,h.size,λk z=>h.rest k (z21 z F) (G k z)⟩
theorem I' {E:Nat->Prop} {w x:World} (h:Below w.heap.size w x):Far E w x:=⟨h.os,h.tape,h.output,h.size,λk z _=>h.block k z⟩
def wr (z:Array Oper) (t:Tmp):Option Nat:=(List.range z.size).find? λj=>((z[j]?).bind (·.dst)) ==some t
def DM (z:Array Oper) (i j:Nat):Bool:=match z[i]? with
 |some o=>o.after.any λe=>Region.binds .any e&&e.on==j
 |none=>false
def XA (z:Array Oper) (size:Nat):Bool:=
 Region.noSelect z&& (List.range z.size).all λi=>match z[i]? with
  |none=>false
  |some o=>(match o.dst with
    |none=>true
    |some d=>decide (d < size) &&wr z d==some i)
   && ((o.looksAt z).all λt=>decide (t < 1000) &&match wr z t with
    |none=>true
    |some j=>DM z i j||DM z j i)
   &&o.after.all λe=> !Region.binds .any e||decide (e.on < i)
def Ab (z:Array Oper) (last:Nat):Bool:=(List.range last).all λi=>(List.range (last+1)).any λk=>DM z k i
def Ac (z:Array Oper) (c:Nat):Bool:=(List.range z.size).all λk=>decide (k<=c) || (List.range z.size).any λj=>decide (c<=j) &&DM z k j
def MD (c n:Nat):Array Bool:=((List.range n).map λk=>decide (k<=c)).toArray
theorem gS {I:Type} {p q:I->Bool}:∀ {l:List I},(∀x∈l,q x=true->p x=true)->(∃x∈l,p x=true/\q x=false)->l.countP q < l.countP p
 |[],_,⟨_,h,_⟩=>by cases h
 |y::l,h,⟨x,z,h1,h2⟩=>by
  have J:l.countP q<=l.countP p:=List.countP_mono_left (λF G=>h F (Fh _ G));rcases zR.1 z with rfl|z
  .rw[Ip h1,List.countP_cons_of_neg (by simp[h2])];omega
  .have ih:=gS (λF G=>h F (Fh _ G)) ⟨x,z,h1,h2⟩;by_cases H:q y=true
   .rw[Ip H,Ip (h y (Ir ..) H)];omega
   .rw[List.countP_cons_of_neg H];have:List.countP p (y::l)=l.countP p+if p y=true then 1 else 0:=by rw[rW]
    rw[this];split <;> omega
theorem MW (i:Nat):∀n,i<=n->(List.range n).countP (λk=>decide (i<=k))=n - i
 |0,h=>by simp
 |n+1,h=>by
  rw[Mz,List.countP_append,List.countP_singleton];by_cases z:i<=n
  .rw[MW i n z];simp[z];omega
  .have:i=n+1:=(by omega);subst this;have h0:(List.range n).countP (λk=>decide (n+1<=k))=0:=(by rw[Fj];intro k F;have:=z88.1 F;simp;omega);rw[h0];simp
structure XB (ops:Array Oper) (OW:Oper->Act->World->(Act->World->Prop)->Prop) (N:Act->World->Prop) (WA:Nat->Array Bool->Act->World->Prop):Prop where
 done:∀ {f L a w},Region.ready .any ops L=[]->N a w->WA f L a w
 step:∀ {f L a w},Region.ready .any ops L≠ []->(∀i∈Region.ready .any ops L,∀o,ops[i]? =some o->if Region.wanted o (yielded ops a.tmps)=true then OW o a w (WA f (L.setIfInBounds i true))else WA f (L.setIfInBounds i true) (a.put o.dst undef) w)->WA (f+1) L a w
 mono:∀ {o a w} {R R':Act->World->Prop},(∀a' w',R a' w'->R' a' w')->OW o a w R->OW o a w R'
section
variable {P:Program} {ops:Array Oper} {Q:Exit->Act->World->Prop} {lr n:Nat}
theorem QS:XB ops (λo a w R=>o.wp P a w R Q) (Q .normal) (wpAny P .any ops Q):=
 ⟨λh hn=>wpAny_done h hn _,λG h=>⟨λe=>absurd e G,λi hi=>by
  obtain⟨_,o,F,_⟩:=sA.1 hi;have:=h i hi o F;unfold wpOp;rw[F];simp only[];split at this
  .rename_i z;rw[if_pos z];exact .inl this
  .rename_i z;rw[if_neg z];exact this⟩,λh H=>Oper.wp_mono h H⟩
theorem jO:XB ops (λo a w R=>Oper.wpIn (Fence.wide.inRound lr) n P o a w R Q) (Q .normal) (wpAnyIn (Fence.wide.inRound lr) n P .any ops Q):=
 ⟨λh hn=>wpAnyIn_done h hn _,λG h=>⟨λe=>absurd e G,λi hi=>by
  obtain⟨_,o,F,_⟩:=sA.1 hi;have:=h i hi o F;unfold wpOpIn;rw[F];simp only[];split at this
  .rename_i z;rw[if_pos z];exact this
  .rename_i z;rw[if_neg z];exact⟨λ_ _=>trivial,this⟩⟩,λh H=>Oper.wpIn_mono h H⟩
def vG (ops:Array Oper) (z:Nat->Value->World->Prop) (a0:Act) (i:Nat) (o:Oper) (a:Act) (w:World):Prop:=
 ∀t∈o.looksAt ops,match wr ops t with
  |some j=>if DM ops i j=true then z j (a.tmps.getD t undef) w else a.tmps.getD t undef=a0.tmps.getD t undef
  |none=>a.tmps.getD t undef=a0.tmps.getD t undef
structure vH (ops:Array Oper) (sk:Nat->Tmp) (Φ:Nat->Value->World->Prop) (E:Nat->Nat->Prop) (a0:Act) (w0:World) (c:Nat) (L:Array Bool) (a:Act) (w:World):Prop where
 size:L.size=ops.size
 ext:Far (λb=>∃k,L.getD k false=true/\E k b) w0 w
 closed:∀k,L.getD k false=true->∀j,DM ops k j=true->L.getD j false=true
 vals:∀i o,ops[i]? =some o->L.getD i false=true->Φ i (a.tmps.getD (sk i) undef) w
 rest:∀t,(∀j,wr ops t=some j->L.getD j false=false)->a.tmps.getD t undef=a0.tmps.getD t undef
 defers:a.defers=a0.defers
 tsize:a.tmps.size=a0.tmps.size
 un:∀k,c<=k->L.getD k false=false
theorem QT (F:ops[w]? =some J):DM ops w a=true↔ ∃e∈J.after,Region.binds .any e=true/\e.on=a:=by
 unfold DM;rw[F];constructor;intro h;obtain⟨e,z,hb⟩:=Array.any_eq_true'.1 h;simp only[Bool.and_eq_true,beq_iff_eq]at hb;exact⟨e,z,hb⟩;rintro⟨e,z,hb,rfl⟩;exact Array.any_eq_true'.2 ⟨e,z,by simp[hb]⟩
theorem EQ (h:XA ops w=true) (z:ops[a]? =some J):
  (∀d,J.dst=some d->d < w/\wr ops d=some a)/\(∀t∈J.looksAt ops,t < 1000/\∀j,wr ops t=some j->DM ops a j=true\/DM ops j a=true)/\(∀j,DM ops a j=true->j < a):=by
 unfold XA at h;rw[z56]at h;have hi:a < ops.size:=(z38.1 z).1;have h1:=jJ.1 h.2 a (z88.2 hi);simp only[z,Bool.and_eq_true]at h1;obtain⟨⟨h1,h2⟩,h3⟩:=h1;refine⟨λd hd=>?_,λt F=>?_,λj hj=>?_⟩;rw[hd]at h1;simp only[Bool.and_eq_true,decide_eq_true_eq,beq_iff_eq]at h1;exact h1;have:=jJ.1 h2 t F;rw[z56,z70]at this;refine⟨this.1,λj hj=>?_⟩;have:=this.2;rw[hj]at this;simpa using this;obtain⟨e,G,hb,rfl⟩:=(QT z).1 hj;have:=z43.1 h3 e G;simp[hb]at this;omega
theorem Fp (r:XB ops bG cJ bL) {w0:World} (J:Nat->Tmp) (I:Nat->Value->World->Prop) (E:Nat->Nat->Prop) (az:Nat) (X:World->World->Prop) (aT:∀w,X w w) (c:Nat) (aU:c<=ops.size)
  (aV:c < ops.size->Ab ops c=true/\Ac ops c=true) (au:XA ops G.tmps.size=true)
  (av:∀k o,ops[k]? =some o->(∀d,o.dst=some d->J k=d)/\(o.dst=none->∀j,wr ops (J k)=some j->DM ops k j=true))
  (hst:∀i j v w w',i≠j->DM ops j i=false->I j v w->Far (E i) w w'->(i=az->X w w')->I j v w')
  (aW:∀i o,i < c->ops[i]? =some o->∀a w,Far (λb=>∃k,k≠i/\DM ops k i=false/\E k b) w0 w->vG ops I G i o a w->
   if Region.wanted o (yielded ops a.tmps)=true then bG o a w (λa' w'=>∃v,a'=a.put o.dst v/\Far (E i) w w'/\I i (if o.dst=none then a.tmps.getD (J i) undef else v) w'/\(i=az->X w w'))else I i (if o.dst=none then a.tmps.getD (J i) undef else undef) w)
  (aM:∀a w L f,Far (λb=>∃k,E k b) w0 w->(∀i o,i < c->ops[i]? =some o->I i (a.tmps.getD (J i) undef) w)->(∀t,(∀j,wr ops t=some j->c<=j)->a.tmps.getD t undef=G.tmps.getD t undef)->a.defers=G.defers->a.tmps.size=G.tmps.size->
   L.size=ops.size->(∀k,k < ops.size->L.getD k false=decide (k < c))->ops.size<=f+c->bL f L a w):
  ∀ (ab:Nat) (L:Array Bool) (a:Act) (w:World),vH ops J I E G w0 c L a w->(List.range ops.size).countP (λi=> !L.getD i false)<=ab->bL ab L a w:=by
 intro ab;induction ab with
 |zero=>
  intro L a w z aN;have Y:∀k,k < ops.size->L.getD k false=true:=λk F=>by cases h:L.getD k false;have:0 < (List.range ops.size).countP (λi=> !L.getD i false):=List.countP_pos_iff.2 ⟨k,z88.2 F,by simp only[h];rfl⟩;omega;rfl
  have bj:ops.size<=c:=by rcases zT c ops.size with h|h;have:=Y c h;rw[z.un c (z16 _)]at this;cases this;exact h
  exact aM a w L 0 (z.ext.mono (λb _ h=>h.imp λk h=>h.2)) (λi o hi H=>z.vals i o H (Y i (by omega))) (λt M=>z.rest t (λj hj=>z.un j (M j hj))) z.defers z.tsize z.size (λk F=>by rw[Y k F];simp;omega) (by omega)
 |succ ab ih=>
  intro L a w z aN;by_cases ai:∀k,k < c->L.getD k false=true;refine aM a w L _ (z.ext.mono (λb _ h=>h.imp λk h=>h.2)) (λi o hi H=>z.vals i o H (ai i hi)) (λt M=>z.rest t (λj hj=>z.un j (M j hj))) z.defers z.tsize z.size (λk F=>?_) ?_;by_cases h:k < c;rw[ai k h];simp[h];rw[z.un k (by omega)];simp[h];have:(List.range ops.size).countP (λk=> !L.getD k false)=(List.range ops.size).countP (λk=>decide (c<=k)):=by apply List.countP_congr;intro k F;by_cases h:k < c;rw[ai k h];simp;omega;rw[z.un k (by omega)];simp;omega
  rw[this,MW c ops.size aU]at aN;omega;have aX:Region.ready .any ops L≠ []:=by
   intro aY;refine ai λk F=>?_;have Y:∀n i,i < n->i < ops.size->L.getD i false=true:=by
    intro n;induction n with
    |zero=>intro i h;omega
    |succ n ih=>
     intro i h hi;by_cases aZ:i < n;exact ih i aZ hi;have e:i=n:=by omega
     subst e;cases aO:L.getD i false;exfalso;have H:ops[i]? =some ops[i]:=z75 hi;have:i∈Region.ready .any ops L:=sA.2 ⟨by
      have hs:i < L.size:=(by rw[z.size];exact hi);rw[z41,z75 hs]at aO ⊢;exact aO,ops[i],H,λe aA hb=>by
      have ac:=(EQ au H).2.2 _ ((QT H).2 ⟨e,aA,hb,rfl⟩);exact ih e.on ac (by omega)⟩
     rw[aY]at this;cases this;rfl
   exact Y ops.size k (by omega) (by omega)
  refine r.step aX λi hi o H=>?_;obtain⟨h0,bk,aP,ba⟩:=sA.1 hi;rw[H]at aP;cases aP;have ac:i < ops.size:=(z38.1 H).1;have aB:i < L.size:=by rw[z.size];exact ac
  have aj:L.getD i false=false:=by rw[z41,z75 aB]at h0 ⊢;exact h0
  obtain⟨hd,hl,bl⟩:=EQ au H;have ax:∀j,DM ops i j=true->L.getD j false=true:=by intro j hj;obtain⟨e,aA,hb,rfl⟩:=(QT H).1 hj;exact ba e aA hb
  have bb:i < c:=by
   rcases zT i c with h|h;exact h;exfalso;obtain⟨bc,bd⟩:=aV (by omega);by_cases be:i=c;subst be;refine ai ?_;have Y:∀n k,i<=k+n->k < i->L.getD k false=true:=by
    intro n;induction n with
    |zero=>intro k h1 h2;omega
    |succ n ih=>
     intro k h1 h2;obtain⟨j,hj,Z⟩:=It.1 (jJ.1 bc k (z88.2 h2));have aC:j < i+1:=z88.1 hj;by_cases bf:j=i;rw[bf]at Z;exact ax k Z;have ac:k < j:=by
      cases aa:ops[j]? with
      |none=>unfold DM at Z;rw[aa]at Z;cases Z
      |some aD=>exact(EQ au aa).2.2 k Z
     exact z.closed j (ih j (by omega) (by omega)) k Z
   exactλk F=>Y i k (by omega) F;have:=jJ.1 bd i (z88.2 ac);simp only[Bool.or_eq_true,decide_eq_true_eq]at this;rcases this with h|h;omega;obtain⟨j,_,hd⟩:=It.1 h;simp only[Bool.and_eq_true,decide_eq_true_eq]at hd;have:=ax j hd.2;rw[z.un j hd.1]at this;cases this
  have bg:vG ops I G i o a w:=by
   intro t M;cases V:wr ops t with
   |none=>exact z.rest t (λj hj=>by rw[V]at hj;cases hj)
   |some j=>
    simp only[];have hj:=List.find?_some V;simp only[beq_iff_eq]at hj;split
    .rename_i aE;cases ay:ops[j]? with
     |none=>rw[ay]at hj;cases hj
     |some aD=>rw[ay]at hj;have aQ:=z.vals j aD ay (ax j aE);rw[(av j aD ay).1 t hj]at aQ;exact aQ
    rename_i aE;refine z.rest t (λbm aC=>?_);rw[V]at aC;cases aC;rcases(hl t M).2 j V with h|h;exact absurd h aE;cases aF:L.getD j false;rfl;have:=z.closed j aF i h;rw[aj]at this;cases this
  have aG:∀k,L.getD k false=true->k≠i/\DM ops k i=false:=by intro k h1;refine⟨λe=>(by rw[e,aj]at h1;cases h1),?_⟩;cases ak:DM ops k i;rfl;have:=z.closed k h1 i ak;rw[aj]at this;cases this
  have aR:∀v w',Far (E i) w w'->(i=az->X w w')->I i (if o.dst=none then a.tmps.getD (J i) undef else v) w'->vH ops J I E G w0 c (L.setIfInBounds i true) (a.put o.dst v) w':=by
   intro v w' hb aH ad;have ah:∀k,(L.setIfInBounds i true).getD k false=true↔ (k=i\/L.getD k false=true):=by intro k;by_cases F:k=i;subst F;simp[Array.getD_eq_getD_getElem?,aB];rw[getD_set_ne false (λe=>F e.symm)];simp[F]
   have aI:∀t,(a.put o.dst v).tmps.getD t undef=if o.dst=some t then v else a.tmps.getD t undef:=by
    intro t;cases ao:o.dst with
    |none=>simp[Act.put]
    |some d=>
     simp only[Act.put,Option.some.injEq];have bh:d < a.tmps.size:=by rw[z.tsize];exact(hd d ao).1
     by_cases h:d=t;subst h;simp[Array.getD_eq_getD_getElem?,bh];simp[Array.getD_eq_getD_getElem?,h]
   refine⟨by simp[z.size],(z.ext.mono (λb _ h=>by obtain⟨k,h1,h2⟩:=h;exact⟨k,(ah k).2 (.inr h1),h2⟩)).trans hb (λb _ h=>⟨i,(ah i).2 (.inl rfl),h⟩),?_,?_,?_,?_,?_,λk F=>by rw[getD_set_ne false (by omega)];exact z.un k F⟩;intro k F j hj;rw[ah]at F ⊢;rcases F with rfl|F;exact .inr (ax j hj);exact .inr (z.closed k F j hj)
   .intro k ok aa F;rw[ah]at F;rcases F with rfl|F
    .rw[aI];cases ao:o.dst with
     |none=>rw[ao]at ad;simpa using ad
     |some d=>rw[ao]at ad;rw[(av _ o H).1 d ao];simpa using ad
    obtain⟨aq,aJ⟩:=aG k F;have bi:=hst i k _ _ _ aq.symm aJ (z.vals k ok aa F) hb aH;have aK:o.dst≠some (J k):=by
     intro e;have h1:=(hd _ e).2;cases ak:ok.dst with
     |some d=>rw[(av k ok aa).1 d ak,((EQ au aa).1 d ak).2]at h1;cases h1;exact aq rfl
     |none=>rw[(av k ok aa).2 ak i h1]at aJ;cases aJ
    rw[aI,if_neg aK];exact bi
   intro t M;rw[aI];have aK:o.dst≠some t:=by intro e;have:=M i (hd t e).2;rw[(ah i).2 (.inl rfl)]at this;cases this
   rw[if_neg aK];refine z.rest t (λj hj=>?_);cases aF:L.getD j false;rfl;have:=M j hj;rw[(ah j).2 (.inr aF)]at this;cases this;cases o.dst <;> exact z.defers;rw[<-z.tsize];cases o.dst <;> simp[Act.put]
  have aS:(List.range ops.size).countP (λk=> !(L.setIfInBounds i true).getD k false)<=ab:=by
   have:=gS (l:=List.range ops.size) (p:=λk=> !L.getD k false) (q:=λk=> !(L.setIfInBounds i true).getD k false)
    (λk _ F=>by by_cases aq:k=i;subst aq;simp[aj];rw[getD_set_ne false (λe=>aq e.symm)]at F;exact F)
    ⟨i,z88.2 ac,by simp[aj],by simp[Array.getD_eq_getD_getElem?,aB]⟩
   omega
  have aL:=aW i o bb H a w (z.ext.mono (λb _ h=>by obtain⟨k,h1,h2⟩:=h;exact⟨k,(aG k h1).1,(aG k h1).2,h2⟩)) bg;split at aL;rename_i V;rw[if_pos V];refine r.mono ?_ aL;rintro a' w' ⟨v,rfl,hb,ad,aH⟩;exact ih _ _ _ (aR v w' hb aH ad) aS;rename_i V;rw[if_neg V];exact ih _ _ _ (aR undef w (Far.refl _ _) (λ_=>aT w) aL) aS
def Ad (ops:Array Oper):List (List Nat):=
 (List.range ops.size).map λi=>match ops[i]? with
  |some o=>(o.looksAt ops).map λt=>match wr ops t with
    |some j=>if DM ops i j=true then 1000 * (j+1)+t else t
    |none=>t
  |none=>[]
abbrev Wd:=Value->World->Prop
abbrev Ev (c:Value):Wd:=λv _=>v=c
abbrev Ep (p k:Nat):Wd:=λv _=>v=.pointer (some ⟨p,k,none⟩)
abbrev Ei (n:Int):Wd:=λv _=>v=.int .i64 n
abbrev Eb (b:Bool):Wd:=λv _=>v=.bool b
abbrev Et:Wd:=λ_ _=>True
abbrev Ej (n:Int):Value:=.int .i64 n
abbrev Ea (p k:Nat):Addr:=⟨p,k,none⟩
abbrev El (w x:World):Prop:=Below w.heap.size w x
abbrev En:Value:=.slice none 0 0
abbrev Er (p k:Nat):Value:=.pointer (some ⟨p,k,none⟩)
abbrev Es (p k n c:Nat):Value:=.slice (some ⟨p,k,none⟩) n c
theorem bna {w:World}:Below w.heap.size w (w.alloc aU):=(z11 _ _).alloc (z16 _) _
theorem Ih {z:Type} {P E:z->Prop}:∀x,P x->E x->E x:=λ_ _ h=>h
abbrev Cp:=Calls Tryz.prog
abbrev Rr (r:Ending) (v:Value):Prop:=r=.returned v
abbrev Eh (w:World) (p:Nat) (c:Array Value) (t:TypeId):Prop:=w.heap[p]? =some (.cells c t (0,0))
attribute [local simp, local go_sem] Ev Ep Ei Eb Et Ej Ea En Er Es
theorem Bi (i:Nat) {w:World} {p:Nat} {c:Array Value} {e:TypeId} {fr:Nat×Nat} (h:w.heap[p]? =some (.cells c e fr)):w.cell? ⟨p,i,none⟩=c[i]? :=by simp[World.cell?,h]
theorem Bc {n:Nat} {w x:World} {p k:Nat} {v:Option Value} (h:Below n w x) (z:p < n) (c:w.cell? ⟨p,k,none⟩=v):x.cell? ⟨p,k,none⟩=v:=(h.cell (p:=⟨p,k,none⟩) z).trans c
theorem Cm {P:Program} {w:World} {R':Ending->World->Prop} (h:Hid (Calls P cV l w dO)) (k:∀r w',dO r w'->R' r w'):Calls P cV l w R':=(d' h).mono k
theorem fbF {w x:World} (h:Below w.heap.size w x):Far (λ_=>False) w x:=I' (E:=λ_=>False) h
def J' (L:List Wd) (a0 a:Act) (w:World):List Nat->Prop
 |[]=>True
 |c::r=>(if c < 1000 then a.tmps.getD c undef=a0.tmps.getD c undef else L.getD (c / 1000 - 1) (λ_ _=>True) (a.tmps.getD (c % 1000) undef) w)/\J' L a0 a w r
def CL (z:Wd):Prop:=∀v w w',z v w->Below w.heap.size w w'->z v w'
theorem Y' (c:Value):CL (λv _=>v=c):=λ_ _ _ h _=>h
theorem aa':CL (λ_ _=>True):=λ_ _ _ _ _=>trivial
def CA:List Wd->Prop
 |[]=>True
 |z::r=>CL z/\CA r
variable{aQ:List Wd}
theorem eM (h:CA aQ) (i:Nat):CL (aQ.getD i (λ_ _=>True)):=by
 induction aQ generalizing i with
 |nil=>exact aa'
 |cons z r ih=>
  cases i with
  |zero=>exact h.1
  |succ i=>exact ih h.2 i
abbrev FU:=List (Nat× (Nat->Prop))
def ME (Ws:FU) (i:Nat) (b:Nat):Prop:=∃p∈Ws,p.1=i/\p.2 b
def FI (Ws:FU) (ops:Array Oper) (i:Nat) (b:Nat):Prop:=∃p∈Ws,p.1≠i/\DM ops p.1 i=false/\p.2 b
variable{bF:FU}
theorem FK (h:∀p∈bF,¬p.2 a):¬FI bF aC w a:=λ⟨p,z,_,_,h3⟩=>h p z h3
theorem AS (h:¬N q):¬FI [(w,N)] aC a q:=FK λp z=>by rw[z51.1 z];exact h
theorem DG:¬FI [(w,N)] aC w a:=λ⟨_,z,h,_⟩=>h (by rw[z51.1 z])
theorem IQ (h:Far (FI [(w,N)] aC w) p f):Below p.heap.size p f:=h.below (z16 _) (λ_ _=>DG)
theorem IH {E:Nat->Prop} (h:Far (λb=>∃z∈ [(w,E)],z.2 b) p f):Far E p f:=h.mono (λk _ ⟨z,F,h⟩=>by rw[z51.1 F]at h;exact h)
theorem MF (h:Far (FI bF aC w) p f) (hd:∀z∈bF,DM aC z.1 w=true):Below p.heap.size p f:=
 h.below (z16 _) (λ_ _ ⟨z,F,_,h2,_⟩=>by rw[hd z F]at h2;cases h2)
theorem AQ (z:(w,N) ∈bF) (h:Far N p f):Far (ME bF w) p f:=h.mono (λ_ _ hb=>⟨(w,N),z,rfl,hb⟩)
def DO (E:Nat->Prop) (z:Wd):Prop:=∀v w w',z v w->Far E w w'->z v w'
theorem ab' (E:Nat->Prop) (c:Value):DO E (λv _=>v=c):=λ_ _ _ h _=>h
def jP (E:Nat->Prop) (X:World->World->Prop) (z:Wd):Prop:=∀v w w',z v w->Far E w w'->X w w'->z v w'
variable{dP:Wd}
theorem GU (h:DO N dP):jP N cB dP:=λv w w' h1 h2 _=>h v w w' h1 h2
def GV (ops:Array Oper) (i:Nat) (S:Wd->Prop):Nat->List Wd->Prop
 | _,[]=>True
 |j,z::r=>(i=j\/DM ops j i=true\/S z)/\GV ops i S (j+1) r
def ag' (ops:Array Oper) (L:List Wd) (z:Nat) (X:World->World->Prop):FU->Prop
 |[]=>True
 |p::r=>GV ops p.1 (jP p.2 (λw w'=>p.1=z->X w w')) 0 L/\ag' ops L z X r
def ah' (ops:Array Oper) (L:List Wd):FU->Prop
 |[]=>True
 |p::r=>GV ops p.1 (DO p.2) 0 L/\ah' ops L r
variable{cQ:Wd -> Prop}
theorem OY (z:cQ (λ_ _=>True)):∀ {L:List Wd} {s:Nat},GV aC w cQ s L->∀j,w≠s+j->DM aC (s+j) w=false->cQ (L.getD j (λ_ _=>True))
 |[],_,_,_,_,_=>by simpa using z
 |G::r,s,h,0,F,hd=>by
  rcases h.1 with h|h|h
  .exact absurd h F
  .rw[zQ]at hd;rw[hd]at h;cases h
  .exact h
 |G::r,s,h,j+1,F,hd=>by have:=OY z (L:=r) (s:=s+1) h.2 j (by omega) (by rw[show s+1+j=s+(j+1) by omega];exact hd);simpa using this
variable{dQ:Wd -> Prop}
theorem NE (h:∀z,cQ z->dQ z):∀ {L:List Wd} {s:Nat},GV aC w cQ s L->GV aC w dQ s L
 |[],_,_=>trivial
 |z:: _,_,F=>⟨F.1.imp_right (·.imp_right (h z)),NE h F.2⟩
theorem OZ:∀ {Ws:FU},ah' aC aQ Ws->ag' aC aQ w cB Ws
 |[],_=>trivial
 | _:: _,h=>⟨NE (λ_=>GU) h.1,OZ h.2⟩
theorem NF:∀ {Ws:FU},ag' aC aQ w cB Ws->∀p∈Ws,GV aC p.1 (jP p.2 (λF w'=>p.1=w->cB F w')) 0 aQ
 |q::r,h,p,z=>by
  cases z with
  |head=>exact h.1
  |tail _ z=>exact NF h.2 p z
def aE' (Ws:FU):Bool:=decide ((Ws.map (·.1)).Nodup)
theorem gT:∀ {Ws:FU},(Ws.map (·.1)).Nodup->∀p∈Ws,∀q∈Ws,p.1=q.1->p=q
 |x::r,h,p,z,q,F,e=>by
  rw[z50,Fm]at h;rcases zR.1 z with h1|h1 <;> rcases zR.1 F with h2|h2
  .rw[h1,h2]
  .exact(h.1 (z66.2 ⟨q,h2,by rw[<-e,h1]⟩)).elim
  .exact(h.1 (z66.2 ⟨p,h1,by rw[e,h2]⟩)).elim
  .exact gT h.2 p h1 q h2 e
def wf (f:Nat->Value):Nat->Value
 |0=>undef
 |d+1=>f d
def AJ (f:Nat->Value) (w:World):List Nat->List Wd->Prop
 |0::z,F::G=>F undef w/\AJ f w z G
 |(d+1)::z,F::G=>F (f d) w/\AJ f w z G
 | _,_=>True
theorem XC:∀ {D:List Nat} {L:List Wd},(∀i d,D[i]? =some d->L.getD i (λ_ _=>True) (wf m d) p)->AJ m p D L
 |[],_,_=>by simp[AJ]
 |o::os,[],_=>by simp[AJ]
 |o::os,H::z,h=>by have ih:=XC (D:=os) (L:=z) (λi F G=>by have:=h (i+1) F (by simpa using G);simpa using this);cases o <;> exact⟨h 0 _ rfl,ih⟩
def NG:List Nat->Nat->Bool
 |(_+1):: _,0=>false
 |(n+1)::rs,j+1=>NG (n::rs) j
 |0::(_+1):: _,0=>true
 |0::(n+1)::rs,j+1=>NG (0::n::rs) j
 |0::0::(n+1)::rs,j+1=>NG (n::rs) j
 | _,_=>false
def V':List Nat->List Value->Nat->(Nat->Value)->List Value
 | _,[],_,_=>[]
 |(n+1)::rs,v::z,i,f=>v::V' (n::rs) z (i+1) f
 |0::(n+1)::rs,_::z,i,f=>f i::V' (0::n::rs) z (i+1) f
 |0::0::(n+1)::rs,v::z,i,f=>v::V' (n::rs) z (i+1) f
 | _,z,_,_=>z
theorem wX (f:Nat->Value):∀ (G:List Nat) (F z:List Value) (i:Nat),z.length=F.length->(∀j,j < z.length->z.getD j undef=if NG G j=true then f (i+j)else F.getD j undef)->V' G F i f=z:=by
 intro G F;induction F generalizing G with
 |nil=>intro z i h _;cases z <;> simp_all[V']
 |cons v F ih=>
  intro z i h1 h2;obtain _|⟨t,z⟩:=z;simp at h1;have h0:=h2 0 (by simp);have hs:∀M',(∀j,NG G (j+1)=NG M' j)->V' M' F (i+1) f=z:=λM' h=>ih M' z (i+1) (by simpa using h1) (λj hj=>by have:=h2 (j+1) (by simpa using hj);rw[h j]at this;simpa[Nat.add_assoc,Nat.add_comm 1 j]using this);have H:(∀j,NG G j=false)->v::F=t::z:=λh=>by apply List.ext_getElem (by simpa using h1.symm);intro k k1 k2;have:=h2 k k2;rw[h k]at this;simp only[List.getD_eq_getElem?_getD,List.getElem?_eq_getElem k1,List.getElem?_eq_getElem k2]at this;simpa using this.symm
  match G with
  |(n+1)::rs=>rw[V',hs (n::rs) (λ_=>rfl)];simp[NG]at h0;rw[h0]
  |0::(n+1)::rs=>rw[V',hs (0::n::rs) (λ_=>rfl)];simp[NG]at h0;rw[h0]
  |0::0::(n+1)::rs=>rw[V',hs (n::rs) (λ_=>rfl)];simp[NG]at h0;rw[h0]
  |[]|[0]|[0,0]|0::0::0:: _=>exact H (λj=>by cases j <;> rfl)
def Ae (o:Oper):Tmp:=match o.op with
 | .store _ (.tmp t) _=>t
 | _=>1000
def JZ (key:Bool) (o:Oper):Nat:=match o.dst with
 |some d=>d
 |none=>if key=true then Ae o else 1000
def MG (key:Bool) (o:Oper):Nat:=match o.dst with
 |some d=>d+1
 |none=>if key=true then Ae o+1 else 0
def TB (o:Oper) (a:Act) (v:Value):Value:=match o.dst with
 |some _=>v
 |none=>a.tmps.getD (Ae o) undef
def vI (d:Option Tmp) (v:Value):Value:=match d with|some _=>v|none=>undef
def Ig (ops:Array Oper):Bool:=(List.range ops.size).all λk=>match ops[k]? with
 |none=>true
 |some o=>match o.dst with
  |some _=>true
  |none=>match wr ops (Ae o)with
   |none=>true
   |some j=>DM ops k j
def aj' (ops:Array Oper) (size c:Nat) (key:Bool) (z:List (List Nat)) (D F:List Nat):Bool:=
 XA ops size&&decide (size<=1000) &&decide (Ad ops=z) &&decide (ops.toList.map (MG key)=D) && ((List.range size).all λt=>NG F t== (wr ops t).isSome) &&decide (c<=ops.size) && (c==ops.size||Ab ops c&&Ac ops c) && (!key||Ig ops)
theorem QU (H:∀j t v p,(ops[j]?.bind (·.dst))=some t->dR j v p->aQ.getD j (λ_ _=>True) v p):
  ∀ (l:List Tmp),(∀t∈l,t < 1000)->(∀t∈l,match wr ops t with
   |some j=>if DM ops w j=true then dR j (dC.tmps.getD t undef) p else dC.tmps.getD t undef=G.tmps.getD t undef
   |none=>dC.tmps.getD t undef=G.tmps.getD t undef)->
  J' aQ G dC p (l.map λt=>match wr ops t with
    |some j=>if DM ops w j=true then 1000 * (j+1)+t else t
    |none=>t)
 |[],_,_=>trivial
 |t::l,h0,h=>by
  have h1:=h t (Ir ..);have z: @LT.lt Nat instLTNat t 1000:=h0 t (Ir ..);have h2:=QU H l (λt z=>h0 t (Fh _ z)) (λt z=>h t (Fh _ z));simp only[List.map_cons];refine⟨?_,h2⟩;clear h2 h;cases F:wr ops t with
  |none=>rw[F]at h1;simp only[];rw[if_pos z];exact h1
  |some j=>
   rw[F]at h1;simp only[]at h1 ⊢;split
   .rename_i hd;rw[if_pos hd]at h1;have hj:=List.find?_some F;simp only[beq_iff_eq]at hj;rw[if_neg (by omega),show(1000 * (j+1)+t) / 1000 - 1=j by omega,show(1000 * (j+1)+t) % 1000=t by omega];exact H j t _ _ hj h1
   .rename_i hd;rw[if_neg hd]at h1;first|exact h1|(rw[if_pos z];exact h1)
theorem XD (r:XB ops bG cJ bL) {Ws:FU} (J:Nat->Value->World->Prop) (key:Bool) (Y:Nat) (X:World->World->Prop) (ao:∀w,X w w) (c:Nat)
  (aq:aE' Ws=true) (Z:aj' ops G.tmps.size c key cR k cS=true) (hst:CA aQ) (au:ag' ops aQ Y X Ws)
  (av:∀j t v w,(ops[j]?.bind (·.dst))=some t->J j v w->aQ.getD j (λ_ _=>True) v w)
  (ax:∀j (S:World->World->Prop),(∀v w w',aQ.getD j (λ_ _=>True) v w->S w w'->aQ.getD j (λ_ _=>True) v w')->∀v w w',J j v w->S w w'->J j v w')
  (ay:∀i o ai,i < c->ops[i]? =some o->cR[i]? =some ai->∀a w,Far (FI Ws ops i) p w->J' aQ G a w ai->
   if Region.wanted o (yielded ops a.tmps)=true then bG o a w (λa' w'=>∃v,a'=a.put o.dst v/\Far (ME Ws i) w w'/\J i (if o.dst=none then a.tmps.getD (JZ key o) undef else v) w'/\(i=Y->X w w'))else J i (if o.dst=none then a.tmps.getD (JZ key o) undef else undef) w)
  (az:∀f w K z,Far (λb=>∃I∈Ws,I.2 b) p w->(∀i d,i < c->k[i]? =some d->J i (wf f d) w)->
   K.size=ops.size->(∀z,z < ops.size->K.getD z false=decide (z < c))->ops.size<=z+c->bL z K {tmps:=(V' cS G.tmps.toList 0 f).toArray,defers:=G.defers} w):
  bL ops.size (Array.replicate ops.size false) G {p with drawn:=p.drawn+1}:=by
 unfold aj' at Z;simp only[Bool.and_eq_true,decide_eq_true_eq,Bool.or_eq_true,beq_iff_eq,Bool.not_eq_true']at Z;obtain⟨⟨⟨⟨⟨⟨⟨aa,aP⟩,aA⟩,aB⟩,aC⟩,aD⟩,aE⟩,aF⟩:=Z;have aj:∀z,(Array.replicate ops.size false).getD z false=false:=λz=>by rw[z41];by_cases H:z < ops.size <;> simp[H]
 have ak:∀ {z:Nat},(Array.replicate ops.size false).getD z false=true->False:=λh=>by rw[aj]at h;cases h
 have ab:∀ (i:Nat) (o:Oper),ops[i]? =some o->((ops[i]?).map (JZ key)).getD 0=JZ key o:=λi o F=>by rw[F];rfl
 refine Fp r (w0:=p) (λi=>((ops[i]?).map (JZ key)).getD 0) J (ME Ws) Y X ao c aD (λh=>aE.resolve_left (by omega)) aa ?_ ?_ ?_ ?_ ops.size _ G _
  ⟨by simp,I' ((z11 _ _).drew),λz H=>(ak H).elim,λi o _ H=>(ak H).elim,λ_ _=>rfl,rfl,rfl,λz _=>aj z⟩ (z26 rU (by simp))
 .intro z o F;rw[ab z o F];refine⟨λd hd=>by unfold JZ;rw[hd],λhd j hj=>?_⟩;unfold JZ at hj;rw[hd]at hj;simp only[]at hj;cases H:key with
  |false=>
   rw[H]at hj;have h1:=List.find?_some hj;simp only[beq_iff_eq]at h1;cases ac:ops[j]? with
   |none=>rw[ac]at h1;cases h1
   |some aR=>rw[ac]at h1;have:(1000:Nat) < G.tmps.size:=((EQ aa ac).1 1000 (by simpa using h1)).1;omega
  |true=>rw[H]at hj;have h2:Ig ops=true:=aF.resolve_left (by rw[H];simp);have:=jJ.1 h2 z (z88.2 (z38.1 F).1);rw[F]at this;simp only[hd]at this;rw[if_pos rfl]at hj;rw[hj]at this;exact this
 intro i j v w w' aS hd M hF ad;refine ax j (λw w'=>Far (ME Ws i) w w'/\(i=Y->X w w')) ?_ v w w' M ⟨hF,ad⟩;rintro v w w' M ⟨hF,ad⟩;by_cases hi:∃I∈Ws,I.1=i;obtain⟨I,V,rfl⟩:=hi;exact OY (λ_ _ _ _ _ _=>trivial) (NF au I V) j (by omega) (by rw[z45];exact hd) v w w' M (hF.mono (λb _ h=>by obtain⟨q,ah,e,hb⟩:=h;rw[gT (rV aq) I V q ah e.symm];exact hb)) ad;exact eM hst j v w w' M (hF.below (z16 _) (λz _ h=>by obtain⟨q,ah,e,_⟩:=h;exact hi ⟨q,ah,e⟩));intro i o aG F a w hb aH;have aI:i < ops.size:=(z38.1 F).1;have aJ:cR[i]? =some ((o.looksAt ops).map λt=>match wr ops t with
    |some j=>if DM ops i j=true then 1000 * (j+1)+t else t
    |none=>t):=by
  rw[<-aA];unfold Ad;rw[z77,List.getElem?_range aI,Option.map_some,F];try rfl
 have:=ay i o _ aG F aJ a w (hb.mono (λb _ h=>by obtain⟨z,h1,h2,I,V,rfl,h3⟩:=h;exact⟨I,V,h1,h2,h3⟩)) (QU av _ (λt aK=>((EQ aa F).2.1 t aK).1) aH);rw[ab i o F];exact this;intro a w K z hb M aL hd hs aM aN aO;have e:V' cS G.tmps.toList 0 (λt=>a.tmps.getD t undef)=a.tmps.toList:=by refine wX _ _ _ _ _ (by simpa using hs) ?_;intro j hj;have hb:=jJ.1 aC j (z88.2 (by rw[<-hs];simpa using hj));rw[zP]at hb;rw[z45,hb];split;simp[Array.getD_eq_getD_getElem?,List.getD_eq_getElem?_getD];rename_i h;have:=aL j (λz H=>by rw[H]at h;exact absurd rfl h);simpa[Array.getD_eq_getD_getElem?,List.getD_eq_getElem?_getD]using this
 have h:=az (λt=>a.tmps.getD t undef) w K z (hb.mono (λb _ h=>by
  obtain⟨z,I,V,_,h3⟩:=h;exact⟨I,V,h3⟩)) (λi d hi hd=>by
  rw[<-aB,z77]at hd;cases F:ops[i]? with
  |none=>rw[show ops.toList[i]? =none by simpa using F]at hd;cases hd
  |some o=>rw[show ops.toList[i]? =some o by simpa using F]at hd;cases hd;have h1:=M i o hi F;rw[ab i o F]at h1;rw[show wf (λt=>a.tmps.getD t undef) (MG key o)=a.tmps.getD (JZ key o) undef by unfold MG JZ;cases o.dst;cases key;simp only[wf,Bool.false_eq_true,if_false];rw[z41,Array.getElem?_eq_none (by omega)];rfl;rfl;rfl];exact h1) aM aN aO
 rw[e,<-hd]at h;exact h
theorem TC {K:Array Bool} (h:∀k,k < ops.size->K.getD k false=true) (hs:K.size=ops.size):Region.ready .any ops K=[]:=by
 apply List.eq_nil_iff_forall_not_mem.2;intro i hi;obtain⟨h0,o,z,_⟩:=sA.1 hi;have F:i < ops.size:=(z38.1 z).1;have:=h i F;rw[z41,z75 (by omega:i < K.size)]at this h0;have e:K[i]=true:=this;rw[e]at h0;cases h0
theorem Af (r:XB ops bG cJ bL) (z:ops[a]? =some J) (ab:XA ops w=true) (ac:Ac ops a=true) {K:Array Bool} (h1:K.size=ops.size) (h2:∀q,q < ops.size->K.getD q false=decide (q < a)) (h3:ops.size<=q+a)
  (ad:Region.wanted J (yielded ops G.tmps)=true) (h:bG J G p (λa' w'=>∀f,ops.size<=f+a+1->bL f (MD a ops.size) a' w')):bL q K G p:=by
 have ah:a < ops.size:=(z38.1 z).1;obtain⟨H,rfl⟩:∃H,q=H+1:=⟨q - 1,by omega⟩;have hK:∀i,(hi:i < ops.size)->K.getD i true=decide (i < a):=λi hi=>by have:=h2 i hi;rw[z41,z75 (by omega:i < K.size)]at this ⊢;exact this
 have M:a∈Region.ready .any ops K:=sA.2 ⟨by rw[hK a ah];simp,J,z,λe I hb=>by have:=(EQ ab z).2.2 _ ((QT z).2 ⟨e,I,hb,rfl⟩);rw[h2 _ (by omega)];simpa using this⟩;refine r.step (λe=>by rw[e]at M;cases M) λi hi o F=>?_;obtain⟨h0,au,V,ai⟩:=sA.1 hi;rw[F]at V;cases V;have Y:i < ops.size:=(z38.1 F).1;obtain rfl:i=a:=by
  rw[hK i Y]at h0;have av:a<=i:=by simpa using h0
  have:=jJ.1 ac i (z88.2 Y);simp only[Bool.or_eq_true,decide_eq_true_eq]at this;rcases this with h|h;omega;obtain⟨j,hj,hd⟩:=It.1 h;simp only[Bool.and_eq_true,decide_eq_true_eq]at hd;obtain⟨e,I,hb,rfl⟩:=(QT F).1 hd.2;have h5:=ai e I hb;rw[h2 _ (z88.1 hj)]at h5;have:=rV h5;omega
 rw[z]at F;cases F;rw[if_pos ad];refine r.mono ?_ h;intro a' w' aj;have ak:K.setIfInBounds i true=MD i ops.size:=by
  apply Array.ext;simp[MD,h1];intro j ax ao;have hj:j < ops.size:=by simpa[MD]using ao
  simp only[MD,List.getElem_toArray,List.getElem_map,List.getElem_range];have Z:j < K.size:=by omega
  rw[Array.getElem_setIfInBounds (by exact Z)];by_cases aa:i=j;simp[aa];rw[if_neg aa];have aq:K.getD j false=K[j]:=by rw[z41,z75 Z];rfl
  rw[<-aq,h2 j hj];exact rX.2 (by omega)
 rw[ak];exact aj H (by omega)
def FV (W:Oper->Act->World->(Act->World->Prop)->Prop) (ops:Array Oper) (L:List Wd) (a0:Act) (w0:World):List Oper->List (List Nat)->List Wd->Prop
 |o::os,F::G,z::H=>(∀a w,Below w0.heap.size w0 w->J' L a0 a w F->
   if Region.wanted o (yielded ops a.tmps)=true then W o a w (λa' w'=>∃v,a'=a.put o.dst v/\Below w.heap.size w w'/\z v w')else z undef w)/\FV W ops L a0 w0 os G H
 |[],_,_=>True
 | _,_,_=>False
theorem US:∀ {os:List Oper} {H:List (List Nat)} {I:List Wd},FV bG ops aQ G p os H I->
  ∀ (i:Nat) o z,os[i]? =some o->H[i]? =some z->∀a w,Below p.heap.size p w->J' aQ G a w z->
   if Region.wanted o (yielded ops a.tmps)=true then bG o a w (λa' w'=>∃v,a'=a.put o.dst v/\Below w.heap.size w w'/\I.getD i (λ_ _=>True) v w')else I.getD i (λ_ _=>True) undef w
 |[],_,_,_,i,o,z,F,_=>by simp at F
 |o::os,[],_,h,_,_,_,_,_=>h.elim
 |o::os,z::H,[],h,_,_,_,_,_=>h.elim
 |o::os,z::H,V::I,h,0,M,pl',F,J=>by simp at F J;subst F;subst J;exact h.1
 |o::os,z::H,V::I,h,i+1,M,pl',F,J=>US h.2 i M pl' (by simpa using F) (by simpa using J)
def QV (W:Oper->Act->World->(Act->World->Prop)->Prop) (ops:Array Oper) (L:List Wd) (Ws:FU) (a0:Act) (w0:World):Nat->List Oper->List (List Nat)->List Wd->Prop
 |i,o::os,F::G,z::H=>(∀a w,Far (FI Ws ops i) w0 w->J' L a0 a w F->
   if Region.wanted o (yielded ops a.tmps)=true then W o a w (λa' w'=>∃v,a'=a.put o.dst v/\Far (ME Ws i) w w'/\z (vI o.dst v) w')else z undef w)/\QV W ops L Ws a0 w0 (i+1) os G H
 | _,[],_,_=>True
 | _,_,_,_=>False
theorem UT:∀ {s:Nat} {os:List Oper} {H:List (List Nat)} {I:List Wd},QV bG ops aQ bF G p s os H I->
  ∀ (i:Nat) o z,os[i]? =some o->H[i]? =some z->∀a w,Far (FI bF ops (s+i)) p w->J' aQ G a w z->
   if Region.wanted o (yielded ops a.tmps)=true then bG o a w (λa' w'=>∃v,a'=a.put o.dst v/\Far (ME bF (s+i)) w w'/\I.getD i (λ_ _=>True) (vI o.dst v) w')else I.getD i (λ_ _=>True) undef w
 | _,[],_,_,_,i,o,z,F,_=>by simp at F
 | _,o::os,[],_,h,_,_,_,_,_=>h.elim
 | _,o::os,z::H,[],h,_,_,_,_,_=>h.elim
 | _,o::os,z::H,V::I,h,0,M,pl',F,J=>by simp at F J;subst F;subst J;exact h.1
 |s,o::os,z::H,V::I,h,i+1,M,pl',F,J=>by have:=UT h.2 i M pl' (by simpa using F) (by simpa using J);rw[show s+1+i=s+(i+1) by omega]at this;simpa using this
def sF (W:Oper->Act->World->(Act->World->Prop)->Prop) (ops:Array Oper) (L:List Wd) (Ws:FU) (z:Nat) (X:World->World->Prop) (a0:Act) (w0:World):Nat->List Oper->List (List Nat)->List Wd->Prop
 |i,o::os,G::H,F::I=>(∀a w,Far (FI Ws ops i) w0 w->J' L a0 a w G->
   if Region.wanted o (yielded ops a.tmps)=true then W o a w (λa' w'=>∃v,a'=a.put o.dst v/\Far (ME Ws i) w w'/\F (TB o a v) w'/\(i=z->X w w'))else F (TB o a undef) w)/\sF W ops L Ws z X a0 w0 (i+1) os H I
 | _,[],_,_=>True
 | _,_,_,_=>False
theorem XE:∀ {s:Nat} {os:List Oper} {I:List (List Nat)} {J:List Wd},sF bG ops aQ bF w cB G p s os I J->
  ∀ (i:Nat) o z,os[i]? =some o->I[i]? =some z->∀a F,Far (FI bF ops (s+i)) p F->J' aQ G a F z->
   if Region.wanted o (yielded ops a.tmps)=true then bG o a F (λa' w'=>∃v,a'=a.put o.dst v/\Far (ME bF (s+i)) F w'/\J.getD i (λ_ _=>True) (TB o a v) w'/\(s+i=w->cB F w'))else J.getD i (λ_ _=>True) (TB o a undef) F
 | _,[],_,_,_,i,o,z,H,_=>by simp at H
 | _,o::os,[],_,h,_,_,_,_,_=>h.elim
 | _,o::os,z::I,[],h,_,_,_,_,_=>h.elim
 | _,o::os,z::I,Y::J,h,0,V,pl',H,M=>by simp at H M;subst H;subst M;exact h.1
 |s,o::os,z::I,Y::J,h,i+1,V,pl',H,M=>by have:=XE h.2 i V pl' (by simpa using H) (by simpa using M);rw[show s+1+i=s+(i+1) by omega]at this;simpa using this
section
variable {OW:Oper->Act->World->(Act->World->Prop)->Prop} {N:Act->World->Prop} {WA:Nat->Array Bool->Act->World->Prop} {a0:Act} {w0:World} {L:List Wd} {plan:List (List Nat)} {D M:List Nat} {Ws:FU}
def af' (ops:Array Oper) (size c:Nat) (plan:List (List Nat)) (D M:List Nat):Bool:=aj' ops size c false plan D M&& (D.take c).all λd=>decide (0 < d)
theorem mR (r:XB ops OW N WA) (c:Nat) (z:af' ops a0.tmps.size c plan D M=true) (hst:CA L) (J:FV OW ops L a0 w0 (ops.toList.take c) plan L)
  (V:∀f w K k,Below w0.heap.size w0 w->AJ f w (D.take c) L->K.size=ops.size->(∀k,k < ops.size->K.getD k false=decide (k < c))->ops.size<=k+c->WA k K {tmps:=(V' M a0.tmps.toList 0 f).toArray,defers:=a0.defers} w):
  WA ops.size (Array.replicate ops.size false) a0 {w0 with drawn:=w0.drawn+1}:=by
 unfold af' at z;rw[z56]at z;obtain⟨z,Y⟩:=z;have Z:ops.toList.map (MG false)=D:=by unfold aj' at z;simp only[Bool.and_eq_true,decide_eq_true_eq]at z;exact z.1.1.1.1.2
 refine XD r (Ws:=[]) (λi v w=>(ops[i]?.bind (·.dst))≠none->L.getD i (λ_ _=>True) v w) false 0 (λ_ _=>True) (λ_=>trivial) c rfl z hst trivial (λj t v w h h1=>h1 (by rw[h];simp)) (λj S h v w w' h1 h2 h3=>h v w w' (h1 h3) h2) ?_ ?_;intro i o aa hi F ab a w hb ac;have:=US J i o aa (by rw[z73,if_pos hi];simpa using F) ab a w (hb.below (z16 _) (λ_ _ ⟨_,h,_⟩=>by cases h)) ac;have ad:(ops[i]?.bind (·.dst))=o.dst:=by rw[F];rfl
 rw[ad];split at this;rename_i G;rw[if_pos G];exact r.mono (λa' w' ⟨v,h1,h2,h3⟩=>⟨v,h1,I' h2,λH=>(by rw[if_neg H];exact h3),λ_=>trivial⟩) this;rename_i G;rw[if_neg G];exactλH=>(by rw[if_neg H];exact this);intro f w K k hb G h1 h2 h3;refine V f w K k (hb.below (z16 _) (λ_ _ ⟨_,h,_⟩=>by cases h)) (XC λi d hd=>?_) h1 h2 h3;have hi:i < c:=by rcases zT i c with h|h;exact h;rw[z73,if_neg (by omega)]at hd;cases hd
 have ah:=hd;rw[z73,if_pos hi]at hd;refine G i d hi hd ?_;have I:0 < d:=by simpa using jJ.1 Y d (z65 ah)
 rw[<-Z,z77]at hd;cases F:ops[i]? with
 |none=>rw[show ops.toList[i]? =none by simpa using F]at hd;cases hd
 |some o=>rw[show ops.toList[i]? =some o by simpa using F]at hd;cases hd;intro e;have e:o.dst=none:=e;unfold MG at I;rw[e]at I;simp at I
theorem mS (r:XB ops OW N WA) (key:Bool) (I:Nat) (X:World->World->Prop) (Y:∀w,X w w) (F:Oper->Act->Value->Value) (Z:∀o a v,F o a v=if o.dst=none then(if key=true then a.tmps.getD (Ae o) undef else undef)else v) (aa:aE' Ws=true) (G:aj' ops a0.tmps.size ops.size key plan D M=true) (hst:CA L) (ab:ag' ops L I X Ws)
  (ac:∀ (i:Nat) o H,ops.toList[i]? =some o->plan[i]? =some H->∀a w,Far (FI Ws ops (0+i)) w0 w->J' L a0 a w H->if Region.wanted o (yielded ops a.tmps)=true then OW o a w (λa' w'=>∃v,a'=a.put o.dst v/\Far (ME Ws (0+i)) w w'/\L.getD i (λ_ _=>True) (F o a v) w'/\(0+i=I->X w w'))else L.getD i (λ_ _=>True) (F o a undef) w)
  (ad:∀f w,Far (λb=>∃p∈Ws,p.2 b) w0 w->AJ f w D L->N {tmps:=(V' M a0.tmps.toList 0 f).toArray,defers:=a0.defers} w):
  WA ops.size (Array.replicate ops.size false) a0 {w0 with drawn:=w0.drawn+1}:=by
 refine XD r (λi v w=>L.getD i (λ_ _=>True) (if key=false/\(ops[i]?.bind (·.dst))=none then undef else v) w) key I X Y ops.size aa G hst ab (λj t v w h h1=>by rw[h]at h1;simpa using h1) (λj S h v w w' h1 h2=>h _ w w' h1 h2) ?_ ?_;intro i o H hi z ah a w hb ai;have:=ac i o H (by simpa using z) ah a w (by rw[z45];exact hb) ai;rw[z45]at this;have J:(ops[i]?.bind (·.dst))=o.dst:=by rw[z];rfl
 have e:∀v,(if key=false/\o.dst=none then undef else if o.dst=none then a.tmps.getD (JZ key o) undef else v)=F o a v:=λv=>by rw[Z];by_cases h:o.dst=none;cases key <;> simp[h,JZ];simp[h]
 rw[J];simp only[e];exact this;intro f w K k hb aj h1 h2 h3;refine r.done (TC (λk V=>by rw[h2 k V];simpa using V) h1) (ad f w hb (XC λi d hd=>?_));have ak:ops.toList.map (MG key)=D:=by unfold aj' at G;simp only[Bool.and_eq_true,decide_eq_true_eq]at G;exact G.1.1.1.1.2
 have ao:=hd;rw[<-ak,z77]at hd;cases z:ops[i]? with
 |none=>rw[show ops.toList[i]? =none by simpa using z]at hd;cases hd
 |some o=>
  have hi:i < ops.size:=(z38.1 z).1;have:=aj i d hi ao;rw[show ops.toList[i]? =some o by simpa using z]at hd;cases hd;have J:(ops[i]?.bind (·.dst))=o.dst:=by rw[z];rfl
  rw[J]at this;split at this;rename_i h;rw[show wf f (MG key o)=undef by rw[h.1];unfold MG;rw[h.2];rfl];exact this;exact this
theorem gU (r:XB ops OW N WA) (z:af' ops a0.tmps.size ops.size plan D M=true) (hst:CA L) (H:FV OW ops L a0 w0 ops.toList plan L)
  (I:∀f w,Below w0.heap.size w0 w->AJ f w D L->N {tmps:=(V' M a0.tmps.toList 0 f).toArray,defers:=a0.defers} w):WA ops.size (Array.replicate ops.size false) a0 {w0 with drawn:=w0.drawn+1}:=by
 have J:ops.toList.map (MG false)=D:=by unfold af' aj' at z;simp only[Bool.and_eq_true,decide_eq_true_eq]at z;exact z.1.1.1.1.1.2
 refine mR r ops.size z hst (by rw[z48 (by simp)];exact H) λf w K k hb F h1 h2 h3=>r.done (TC (λk G=>by rw[h2 k G];simpa using G) h1) (I f w hb ?_);rw[z48 (by rw[<-J];simp)]at F;exact F
theorem vJ (r:XB ops OW N WA) (F:ops[w]? =some J) (G:af' ops a0.tmps.size w plan D M=true) (hst:CA L) (V:FV OW ops L a0 w0 (ops.toList.take w) plan L)
  (Y:∀f z,AJ f z (D.take w) L->Region.wanted J (yielded ops (V' M a0.tmps.toList 0 f).toArray)=true)
  (Z:∀f z,Below w0.heap.size w0 z->AJ f z (D.take w) L->OW J {tmps:=(V' M a0.tmps.toList 0 f).toArray,defers:=a0.defers} z (λa' w'=>∀H,ops.size<=H+w+1->WA H (MD w ops.size) a' w')):WA ops.size (Array.replicate ops.size false) a0 {w0 with drawn:=w0.drawn+1}:=by
 have h0:=G;unfold af' aj' at h0;simp only[Bool.and_eq_true,decide_eq_true_eq,Bool.or_eq_true,beq_iff_eq]at h0;have hl:=(z38.1 F).1;exact mR r w G hst V λf z K k hb I h1 h2 h3=>Af r F h0.1.1.1.1.1.1.1.1 (h0.1.1.2.resolve_left (by omega)).2 h1 h2 h3 (Y f z I) (Z f z hb I)
theorem mT (r:XB ops OW N WA) (F:ops[w]? =some J) (G:J.guard=none) (hn:ops.size=w+1) (H:af' ops a0.tmps.size w plan D M=true) (hst:CA L) (I:FV OW ops L a0 w0 (ops.toList.take w) plan L)
  (V:∀f z,Below w0.heap.size w0 z->AJ f z (D.take w) L->OW J {tmps:=(V' M a0.tmps.toList 0 f).toArray,defers:=a0.defers} z N):WA ops.size (Array.replicate ops.size false) a0 {w0 with drawn:=w0.drawn+1}:=
 vJ r F H hst I (λ_ _ _=>by simp[Region.wanted,G]) λf z hb Y=>r.mono (λa' w' h aa _=>r.done (TC (λk Z=>by rw[z41];simp[MD,Z];omega) (by simp[MD])) h) (V f z hb Y)
end
section
variable {id:Nat} {a0:Act} {w0:World} (L:List Wd) (plan:List (List Nat)) (D M:List Nat) (Ws:FU)
theorem AI (z:FV (λo a w R=>o.wp P a w R Q) ops L a0 w0 ops.toList plan L)
  (F:∀f w,Below w0.heap.size w0 w->AJ f w D L->Q .normal {tmps:=(V' M a0.tmps.toList 0 f).toArray,defers:=a0.defers} w) (hst:CA L:=by repeat' (first|exact Y' _|exact aa'|exact trivial|apply z13)) (G:af' ops a0.tmps.size ops.size plan D M=true:=by kernel_rfl) (H:P.follows .mixedOrders=true:=by kernel_rfl):
  (Code.region id ops true).wp P Q a0 w0:=zS H (gU QS G hst z F)
theorem QW (z:FV (λo a w R=>Oper.wpIn (Fence.wide.inRound lr) n P o a w R Q) ops L a0 w0 ops.toList plan L)
  (F:∀f w,Below w0.heap.size w0 w->AJ f w D L->Q .normal {tmps:=(V' M a0.tmps.toList 0 f).toArray,defers:=a0.defers} w) (hst:CA L:=by repeat' (first|exact Y' _|exact aa'|exact trivial|apply z13)) (G:af' ops a0.tmps.size ops.size plan D M=true:=by kernel_rfl) (H:P.follows .mixedOrders=true:=by kernel_rfl):
  (Code.region id ops true).wpIn (Fence.wide.inRound lr) n P Q a0 w0:=wpIn_region_any H (gU jO G hst z F)
theorem Z' (last:Nat) (z:Oper) (F:ops[last]? =some z) (G:z.guard=none) (H:FV (λo a w R=>o.wp P a w R Q) ops L a0 w0 (ops.toList.take last) plan L)
  (I:∀f w,Below w0.heap.size w0 w->AJ f w (D.take last) L->z.wp P {tmps:=(V' M a0.tmps.toList 0 f).toArray,defers:=a0.defers} w (Q .normal) Q) (hst:CA L:=by repeat' (first|exact Y' _|exact aa'|exact trivial|apply z13)) (hn:ops.size=last+1:=by kernel_rfl) (J:af' ops a0.tmps.size last plan D M=true:=by kernel_rfl) (V:P.follows .mixedOrders=true:=by kernel_rfl):
  (Code.region id ops true).wp P Q a0 w0:=zS V (mT QS F G hn J hst H I)
theorem TD (last:Nat) (z:Oper) (F:ops[last]? =some z) (G:z.guard=none) (H:FV (λo a w R=>Oper.wpIn (Fence.wide.inRound lr) n P o a w R Q) ops L a0 w0 (ops.toList.take last) plan L)
  (I:∀f w,Below w0.heap.size w0 w->AJ f w (D.take last) L->Oper.wpIn (Fence.wide.inRound lr) n P z {tmps:=(V' M a0.tmps.toList 0 f).toArray,defers:=a0.defers} w (Q .normal) Q) (hst:CA L:=by repeat' (first|exact Y' _|exact aa'|exact trivial|apply z13)) (hn:ops.size=last+1:=by kernel_rfl) (J:af' ops a0.tmps.size last plan D M=true:=by kernel_rfl) (V:P.follows .mixedOrders=true:=by kernel_rfl):
  (Code.region id ops true).wpIn (Fence.wide.inRound lr) n P Q a0 w0:=wpIn_region_any V (mT jO F G hn J hst H I)
theorem CO (last:Nat) (z:Oper) (G:ops[last]? =some z) (H:FV (λo a w R=>o.wp P a w R Q) ops L a0 w0 (ops.toList.take last) plan L)
  (I:∀f w,AJ f w (D.take last) L->Region.wanted z (yielded ops (V' M a0.tmps.toList 0 f).toArray)=true)
  (J:∀f w,Below w0.heap.size w0 w->AJ f w (D.take last) L->z.wp P {tmps:=(V' M a0.tmps.toList 0 f).toArray,defers:=a0.defers} w (λa' w'=>∀F,ops.size<=F+last+1->wpAny P .any ops Q F (MD last ops.size) a' w') Q) (hst:CA L:=by repeat' (first|exact Y' _|exact aa'|exact trivial|apply z13)) (V:af' ops a0.tmps.size last plan D M=true:=by kernel_rfl) (Y:P.follows .mixedOrders=true:=by kernel_rfl):
  (Code.region id ops true).wp P Q a0 w0:=zS Y (vJ QS G V hst H I J)
theorem vK (r:XB ops bG cJ bL) (hst:CA aQ) (hstF:ah' ops aQ bF) (F:QV bG ops aQ bF a0 w0 0 ops.toList cR aQ)
  (G:∀f w,Far (λb=>∃p∈bF,p.2 b) w0 w->AJ f w k aQ->cJ {tmps:=(V' cS a0.tmps.toList 0 f).toArray,defers:=a0.defers} w) (H:aE' bF=true) (I:aj' ops a0.tmps.size ops.size false cR k cS=true):
  bL ops.size (Array.replicate ops.size false) a0 {w0 with drawn:=w0.drawn+1}:=
 mS r false 0 (λ_ _=>True) (λ_=>trivial) (λo _ v=>vI o.dst v) (λo _ v=>by cases h:o.dst <;> simp[vI]) H I hst (OZ hstF) (λi o J h1 h2 a w h3 h4=>by
  have h5:=UT F i o J h1 h2 a w h3 h4;split at h5
  .rename_i z;rw[if_pos z];exact r.mono (λa' w' ⟨v,V,Y,Z⟩=>⟨v,V,Y,Z,λ_=>trivial⟩) h5
  .rename_i z;rw[if_neg z];cases h:o.dst <;> exact h5) G
theorem AH (z:QV (λo a w R=>o.wp P a w R Q) ops L Ws a0 w0 0 ops.toList plan L)
  (F:∀f w,Far (λb=>∃p∈Ws,p.2 b) w0 w->AJ f w D L->Q .normal {tmps:=(V' M a0.tmps.toList 0 f).toArray,defers:=a0.defers} w) (hst:CA L:=by repeat' (first|exact Y' _|exact aa'|exact trivial|apply z13)) (hstF:ah' ops L Ws:=by repeat' (first|exact trivial|exact .inl rfl|exact .inr (.inr (ab' _ _))|exact .inr (.inr (λ_ _ _ _ _=>trivial))|apply z13)) (G:aE' Ws=true:=by kernel_rfl) (H:aj' ops a0.tmps.size ops.size false plan D M=true:=by kernel_rfl) (I:P.follows .mixedOrders=true:=by kernel_rfl):
  (Code.region id ops true).wp P Q a0 w0:=zS I (vK QS hst hstF z F G H)
theorem TE (z:QV (λo a w R=>Oper.wpIn (Fence.wide.inRound lr) n P o a w R Q) ops L Ws a0 w0 0 ops.toList plan L)
  (F:∀f w,Far (λb=>∃p∈Ws,p.2 b) w0 w->AJ f w D L->Q .normal {tmps:=(V' M a0.tmps.toList 0 f).toArray,defers:=a0.defers} w) (hst:CA L:=by repeat' (first|exact Y' _|exact aa'|exact trivial|apply z13)) (hstF:ah' ops L Ws:=by repeat' (first|exact trivial|exact .inl rfl|exact .inr (.inr (ab' _ _))|exact .inr (.inr (λ_ _ _ _ _=>trivial))|apply z13)) (G:aE' Ws=true:=by kernel_rfl) (H:aj' ops a0.tmps.size ops.size false plan D M=true:=by kernel_rfl) (I:P.follows .mixedOrders=true:=by kernel_rfl):
  (Code.region id ops true).wpIn (Fence.wide.inRound lr) n P Q a0 w0:=wpIn_region_any I (vK jO hst hstF z F G H)
theorem eN (z:Nat) (X:World->World->Prop) (F:∀w,X w w) (G:sF (λo a w R=>o.wp P a w R Q) ops L Ws z X a0 w0 0 ops.toList plan L)
  (H:∀f w,Far (λb=>∃p∈Ws,p.2 b) w0 w->AJ f w D L->Q .normal {tmps:=(V' M a0.tmps.toList 0 f).toArray,defers:=a0.defers} w) (hst:CA L:=by repeat' (first|exact Y' _|exact aa'|exact trivial|apply z13)) (hstF:ag' ops L z X Ws:=by trivial) (I:aE' Ws=true:=by kernel_rfl) (J:aj' ops a0.tmps.size ops.size true plan D M=true:=by kernel_rfl) (V:P.follows .mixedOrders=true:=by kernel_rfl):
  (Code.region id ops true).wp P Q a0 w0:=zS V (mS QS true z X F TB (λo a v=>by cases h:o.dst <;> simp[TB,h]) I J hst hstF (λi o Y h1 h2=>XE G i o Y h1 h2) H)
end
theorem BP {i:Nat} (z:Region.ready .any ops bU=[i]) (F:ops[i]? =some J) (H:Region.wanted J (yielded ops G.tmps)=true)
  (h:J.wp P G p (λa' w'=>wpAny P .any ops Q w (bU.setIfInBounds i true) a' w') Q):wpAny P .any ops Q (w+1) bU G p:=by
 refine⟨λh0=>(by rw[z]at h0;cases h0),λj hj=>?_⟩;rw[z,z51]at hj;subst hj;unfold wpOp;rw[F];simp only[];rw[if_pos (by simpa using H)];exact .inl h
theorem gV {i j:Nat} (z:Region.ready .any ops bU=[i,j]) (H:ops[i]? =some J) (I:ops[j]? =some dI) (M:Region.wanted J (yielded ops G.tmps)=true) (hw':Region.wanted dI (yielded ops G.tmps)=true)
  (h:J.wp P G p (λa' w'=>wpAny P .any ops Q w (bU.setIfInBounds i true) a' w') Q) (V:dI.wp P G p (λa' w'=>wpAny P .any ops Q w (bU.setIfInBounds j true) a' w') Q):wpAny P .any ops Q (w+1) bU G p:=by
 refine⟨λh0=>(by rw[z]at h0;cases h0),λk F=>?_⟩;rw[z,zR,z51]at F;unfold wpOp;rcases F with rfl|rfl;rw[H];simp only[];rw[if_pos (by simpa using M)];exact .inl h;rw[I];simp only[];rw[if_pos (by simpa using hw')];exact .inl V
theorem DP (z:Region.ready .any ops bU=[]) (h:Q .normal G p):wpAny P .any ops Q w bU G p:=wpAny_done z h _
end
